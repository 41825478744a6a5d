/- Contracts of nat's groupValue, isNumber, Parse. -/
import Derived.Test.YtpchnejdbmoicaaDoorWP
import Derived.Test.YtpchnejdbmoicaaDoorDec
namespace Go.Proofs.YtpchnejdbmoicaaDoor
open Go.RowKit Cin

set_option maxRecDepth 100000 in
set_option maxHeartbeats 1000000 in
/-- groupValue: the number that at most nine digits stand for. -/
theorem groupValue_any (s : ByteArray) (w : World) (hs : s.size ≤ 9) (hd : Digs (byts s)) :
    Calls Tryd.prog 48 #[.string s] w fun e w' => e = .returned (.int .u32 (decL (byts s) : Nat)) ∧ w = w' := by
  have HD := Lib.hid hd
  clear hd
  go_enter Tryd.func48, Tryd.ntmps48
  go_wp2_with fail
  go_loop [3, 4, 7] (fun c _ i => ∃ k : Nat, k ≤ s.size ∧ i = .int .i64 k ∧ c = .int .u32 (decL ((byts s).take k) : Nat)) (fun _ _ i => s.size - (intOf i).toNat)
  case atStart => exact ⟨0, Nat.zero_le _, rfl, rfl⟩
  case round =>
    obtain ⟨k, hk, rfl, rfl⟩ := hrel
    by_cases hlt : k < s.size
    · have hb := byts_at s hlt
      have hdg := HD.out.lim (i := k) (by rw [byts_length]; exact hlt)
      have hdl : decL ((byts s).take k) < 10 ^ 8 := by
        have h1 := decL_lt (l := (byts s).take k) (fun c hc => HD.out c (List.mem_of_mem_take hc))
        refine Nat.lt_of_lt_of_le h1 (Nat.pow_le_pow_right (by decide) ?_)
        rw [List.length_take]; omega
      have hst := decL_take_succ (l := byts s) (i := k) (by rw [byts_length]; exact hlt)
      generalize decL ((byts s).take k) = d at *
      generalize lim (byts s) k = c at *
      have HST := Lib.hid hst
      obtain ⟨hc1, hc2⟩ := hdg
      have hcb : ((s[k].toNat : Nat) : Int) = (c : Int) := by rw [hb]
      have hd8 : d < 100000000 := hdl
      clear hst hdl hb
      go_wp2
      exact ⟨⟨k + 1, by omega, by go_num, congrArg (Value.int .u32) (by rw [HST.out]; omega)⟩, by simp [intOf]; omega⟩
    · go_wp2
      go_ret
      exact ⟨ret_int (by rw [List.take_of_length_le (by rw [byts_length]; omega)]), rfl⟩

def NumPost (s : ByteArray) (w : World) (e : Ending) (w' : World) : Prop := ∃ b, e = .returned (.bool b) ∧ (b = true ↔ IsNum (byts s)) ∧ w = w'

set_option maxRecDepth 100000 in
set_option maxHeartbeats 1000000 in
/-- isNumber: is the text one that Parse takes? -/
theorem isNumber_any (s : ByteArray) (w : World) :
    Calls Tryd.prog 46 #[.string s] w (NumPost s w) := by
  by_cases h1 : s.size < 1
  · have hno : ¬ IsNum (byts s) := fun h => by have := h.1; rw [byts_length] at this; omega
    have HNO := Lib.hid hno
    have hd : decide ((s.size : Int) < 1) = true := by rw [decide_eq_true_iff]; omega
    clear hno
    go_enter Tryd.func46, Tryd.ntmps46
    go_wp2_with fail
    go_ret
    exact ⟨false, rfl, ⟨(fun h => by cases h), fun h => absurd h HNO.out⟩, rfl⟩
  · have hd : decide ((s.size : Int) < 1) = false := by rw [decide_eq_false_iff_not]; omega
    by_cases h2 : 4000 < s.size
    · have hno : ¬ IsNum (byts s) := fun h => by have := h.2.1; rw [byts_length] at this; omega
      have HNO := Lib.hid hno
      have hd2 : decide ((4000 : Int) < (s.size : Int)) = true := by rw [decide_eq_true_iff]; omega
      clear hno
      go_enter Tryd.func46, Tryd.ntmps46
      go_wp2_with fail
      go_ret
      exact ⟨false, rfl, ⟨(fun h => by cases h), fun h => absurd h HNO.out⟩, rfl⟩
    · have hd2 : decide ((4000 : Int) < (s.size : Int)) = false := by rw [decide_eq_false_iff_not]; omega
      have h0 : 0 < s.size := by omega
      have hb0 := byts_at s h0
      by_cases h3 : lim (byts s) 0 = 48 ∧ 1 < s.size
      · have hno : ¬ IsNum (byts s) := fun h => by have := h.2.2.1; rw [byts_length] at this; omega
        have HNO := Lib.hid hno
        have hd3 : (((s[0].toNat : Nat) : Int) == 48) = true := by rw [hb0, h3.1]; rfl
        have hd4 : decide ((1 : Int) < (s.size : Int)) = true := by rw [decide_eq_true_iff]; omega
        clear hno hb0 h3
        go_enter Tryd.func46, Tryd.ntmps46
        go_wp2_with fail
        go_ret
        exact ⟨false, rfl, ⟨(fun h => by cases h), fun h => absurd h HNO.out⟩, rfl⟩
      · have H3 := Lib.hid h3
        have hcase : ((((s[0].toNat : Nat) : Int) == 48) = false) ∨ ((((s[0].toNat : Nat) : Int) == 48) = true ∧ decide ((1 : Int) < (s.size : Int)) = false) := by
          rw [hb0]
          by_cases hc : lim (byts s) 0 = 48
          · right
            exact ⟨by rw [hc]; rfl, by rw [decide_eq_false_iff_not]; omega⟩
          · left
            simp; omega
        clear hb0 h3
        rcases hcase with hd3 | ⟨hd3, hd4⟩
        all_goals
          go_enter Tryd.func46, Tryd.ntmps46
          go_wp2_with fail
          go_loop [3, 24] (fun _ i => ∃ k : Nat, k ≤ s.size ∧ i = .int .i64 k ∧ ∀ j, j < k → 48 ≤ lim (byts s) j ∧ lim (byts s) j ≤ 57) (fun _ i => s.size - (intOf i).toNat)
          case atStart => exact ⟨0, Nat.zero_le _, rfl, fun j hj => absurd hj (Nat.not_lt_zero _)⟩
          case round =>
            obtain ⟨k, hk, rfl, hj⟩ := hrel
            have HJ := Lib.hid hj
            clear hj
            by_cases hlt : k < s.size
            · have hb := byts_at s hlt
              have hcb : ((s[k].toNat : Nat) : Int) = (lim (byts s) k : Nat) := by rw [hb]
              clear hb
              generalize hcc : lim (byts s) k = c at *
              have HCC := Lib.hid hcc
              clear hcc
              by_cases hlo : c < 48
              · have hdl : decide ((c : Int) < 48) = true := by rw [decide_eq_true_iff]; omega
                go_wp2_with fail
                go_ret
                refine ⟨false, rfl, ⟨(fun h => by cases h), fun h => ?_⟩, rfl⟩
                have := h.2.2.2.lim (i := k) (by rw [byts_length]; exact hlt)
                rw [HCC.out] at this; omega
              · have hdl : decide ((c : Int) < 48) = false := by rw [decide_eq_false_iff_not]; omega
                by_cases hhi : 57 < c
                · have hdh : decide ((57 : Int) < (c : Int)) = true := by rw [decide_eq_true_iff]; omega
                  go_wp2_with fail
                  go_ret
                  refine ⟨false, rfl, ⟨(fun h => by cases h), fun h => ?_⟩, rfl⟩
                  have := h.2.2.2.lim (i := k) (by rw [byts_length]; exact hlt)
                  rw [HCC.out] at this; omega
                · have hdh : decide ((57 : Int) < (c : Int)) = false := by rw [decide_eq_false_iff_not]; omega
                  go_wp2_with fail
                  refine ⟨⟨k + 1, by omega, by go_num, fun j hj => ?_⟩, by simp [intOf]; omega⟩
                  rcases Nat.lt_or_eq_of_le (Nat.le_of_lt_succ hj) with h5 | rfl
                  · exact HJ.out j h5
                  · rw [HCC.out]; omega
            · go_wp2_with fail
              go_ret
              refine ⟨true, rfl, ⟨fun _ => ⟨by rw [byts_length]; omega, by rw [byts_length]; omega, ?_, ?_⟩, fun _ => rfl⟩, rfl⟩
              · have := H3.out; rw [byts_length]; omega
              · intro c hc
                obtain ⟨j, hj, rfl⟩ := List.mem_iff_getElem.1 hc
                rw [← lim_eq hj]
                rw [byts_length] at hj
                exact HJ.out j (by omega)

end Go.Proofs.YtpchnejdbmoicaaDoor
