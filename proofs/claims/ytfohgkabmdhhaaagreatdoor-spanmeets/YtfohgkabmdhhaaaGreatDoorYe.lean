/- Contracts of nat's groupValue, isNumber, Parse. -/
import Derived.Test.YtfohgkabmdhhaaaGreatDoorYd
import Derived.Test.YtfohgkabmdhhaaaGreatDoorYc
import Derived.Lib.ItoaNum
namespace Go.Proofs.YtfohgkabmdhhaaaGreatDoor
open Go.RowKit Cin

set_option maxRecDepth 100000 in
set_option maxHeartbeats 1000000 in
/-- groupValue: the number that at most nine digits stand for. -/
theorem groupValue_any (s : ByteArray) (w : World) (hs : s.size ≤ 9) (hd : Digs (byts s)) :
    Calls Tryz.prog 176 #[.string s] w fun e w' => e = .returned (.int .u32 (decL (byts s) : Nat)) ∧ w = w' := by
  have HD := Lib.hid hd
  clear hd
  go_enter Tryz.func176, Tryz.ntmps176
  go_wp2_with fail
  go_loop [3, 4, 7] (fun c _ i => ∃ k : Nat, k ≤ s.size ∧ i = .int .i64 k ∧ c = .int .u32 (decL ((byts s).take k) : Nat)) (fun _ _ i => s.size - (intOf i).toNat)
  case atStart => exact ⟨0, Nat.zero_le _, rfl, rfl⟩
  case round =>
    obtain ⟨k, hk, rfl, rfl⟩ := hrel
    by_cases hlt : k < s.size
    · have hb := byts_at s hlt
      have hdg := HD.out.lim (i := k) (by rw [byts_length]; exact hlt)
      have hdl : decL ((byts s).take k) < 10 ^ 8 := by
        have h1 := decL_lt (l := (byts s).take k) (fun c hc => HD.out c (List.mem_of_mem_take hc))
        refine Nat.lt_of_lt_of_le h1 (Nat.pow_le_pow_right (by decide) ?_)
        rw [List.length_take]; omega
      have hst := decL_take_succ (l := byts s) (i := k) (by rw [byts_length]; exact hlt)
      generalize decL ((byts s).take k) = d at *
      generalize lim (byts s) k = c at *
      have HST := Lib.hid hst
      obtain ⟨hc1, hc2⟩ := hdg
      have hcb : ((s[k].toNat : Nat) : Int) = (c : Int) := by rw [hb]
      have hd8 : d < 100000000 := hdl
      clear hst hdl hb
      go_wp2
      exact ⟨⟨k + 1, by omega, by go_num, congrArg (Value.int .u32) (by rw [HST.out]; omega)⟩, by simp [intOf]; omega⟩
    · go_wp2
      go_ret
      exact ⟨ret_int (by rw [List.take_of_length_le (by rw [byts_length]; omega)]), rfl⟩

def NumPost (s : ByteArray) (w : World) (e : Ending) (w' : World) : Prop := ∃ b, e = .returned (.bool b) ∧ (b = true ↔ IsNum (byts s)) ∧ w = w'

set_option maxRecDepth 100000 in
set_option maxHeartbeats 1000000 in
/-- isNumber: is the text one that Parse takes? -/
theorem isNumber_any (s : ByteArray) (w : World) :
    Calls Tryz.prog 174 #[.string s] w (NumPost s w) := by
  by_cases h1 : s.size < 1
  · have hno : ¬ IsNum (byts s) := fun h => by have := h.1; rw [byts_length] at this; omega
    have HNO := Lib.hid hno
    have hd : decide ((s.size : Int) < 1) = true := by rw [decide_eq_true_iff]; omega
    clear hno
    go_enter Tryz.func174, Tryz.ntmps174
    go_wp2_with fail
    go_ret
    exact ⟨false, rfl, ⟨(fun h => by cases h), fun h => absurd h HNO.out⟩, rfl⟩
  · have hd : decide ((s.size : Int) < 1) = false := by rw [decide_eq_false_iff_not]; omega
    by_cases h2 : 4000 < s.size
    · have hno : ¬ IsNum (byts s) := fun h => by have := h.2.1; rw [byts_length] at this; omega
      have HNO := Lib.hid hno
      have hd2 : decide ((4000 : Int) < (s.size : Int)) = true := by rw [decide_eq_true_iff]; omega
      clear hno
      go_enter Tryz.func174, Tryz.ntmps174
      go_wp2_with fail
      go_ret
      exact ⟨false, rfl, ⟨(fun h => by cases h), fun h => absurd h HNO.out⟩, rfl⟩
    · have hd2 : decide ((4000 : Int) < (s.size : Int)) = false := by rw [decide_eq_false_iff_not]; omega
      have h0 : 0 < s.size := by omega
      have hb0 := byts_at s h0
      by_cases h3 : lim (byts s) 0 = 48 ∧ 1 < s.size
      · have hno : ¬ IsNum (byts s) := fun h => by have := h.2.2.1; rw [byts_length] at this; omega
        have HNO := Lib.hid hno
        have hd3 : (((s[0].toNat : Nat) : Int) == 48) = true := by rw [hb0, h3.1]; rfl
        have hd4 : decide ((1 : Int) < (s.size : Int)) = true := by rw [decide_eq_true_iff]; omega
        clear hno hb0 h3
        go_enter Tryz.func174, Tryz.ntmps174
        go_wp2_with fail
        go_ret
        exact ⟨false, rfl, ⟨(fun h => by cases h), fun h => absurd h HNO.out⟩, rfl⟩
      · have H3 := Lib.hid h3
        have hcase : ((((s[0].toNat : Nat) : Int) == 48) = false) ∨ ((((s[0].toNat : Nat) : Int) == 48) = true ∧ decide ((1 : Int) < (s.size : Int)) = false) := by
          rw [hb0]
          by_cases hc : lim (byts s) 0 = 48
          · right
            exact ⟨by rw [hc]; rfl, by rw [decide_eq_false_iff_not]; omega⟩
          · left
            simp; omega
        clear hb0 h3
        rcases hcase with hd3 | ⟨hd3, hd4⟩
        all_goals
          go_enter Tryz.func174, Tryz.ntmps174
          go_wp2_with fail
          go_loop [3, 24] (fun _ i => ∃ k : Nat, k ≤ s.size ∧ i = .int .i64 k ∧ ∀ j, j < k → 48 ≤ lim (byts s) j ∧ lim (byts s) j ≤ 57) (fun _ i => s.size - (intOf i).toNat)
          case atStart => exact ⟨0, Nat.zero_le _, rfl, fun j hj => absurd hj (Nat.not_lt_zero _)⟩
          case round =>
            obtain ⟨k, hk, rfl, hj⟩ := hrel
            have HJ := Lib.hid hj
            clear hj
            by_cases hlt : k < s.size
            · have hb := byts_at s hlt
              have hcb : ((s[k].toNat : Nat) : Int) = (lim (byts s) k : Nat) := by rw [hb]
              clear hb
              generalize hcc : lim (byts s) k = c at *
              have HCC := Lib.hid hcc
              clear hcc
              by_cases hlo : c < 48
              · have hdl : decide ((c : Int) < 48) = true := by rw [decide_eq_true_iff]; omega
                go_wp2_with fail
                go_ret
                refine ⟨false, rfl, ⟨(fun h => by cases h), fun h => ?_⟩, rfl⟩
                have := h.2.2.2.lim (i := k) (by rw [byts_length]; exact hlt)
                rw [HCC.out] at this; omega
              · have hdl : decide ((c : Int) < 48) = false := by rw [decide_eq_false_iff_not]; omega
                by_cases hhi : 57 < c
                · have hdh : decide ((57 : Int) < (c : Int)) = true := by rw [decide_eq_true_iff]; omega
                  go_wp2_with fail
                  go_ret
                  refine ⟨false, rfl, ⟨(fun h => by cases h), fun h => ?_⟩, rfl⟩
                  have := h.2.2.2.lim (i := k) (by rw [byts_length]; exact hlt)
                  rw [HCC.out] at this; omega
                · have hdh : decide ((57 : Int) < (c : Int)) = false := by rw [decide_eq_false_iff_not]; omega
                  go_wp2_with fail
                  refine ⟨⟨k + 1, by omega, by go_num, fun j hj => ?_⟩, by simp [intOf]; omega⟩
                  rcases Nat.lt_or_eq_of_le (Nat.le_of_lt_succ hj) with h5 | rfl
                  · exact HJ.out j h5
                  · rw [HCC.out]; omega
            · go_wp2_with fail
              go_ret
              refine ⟨true, rfl, ⟨fun _ => ⟨by rw [byts_length]; omega, by rw [byts_length]; omega, ?_, ?_⟩, fun _ => rfl⟩, rfl⟩
              · have := H3.out; rw [byts_length]; omega
              · intro c hc
                obtain ⟨j, hj, rfl⟩ := List.mem_iff_getElem.1 hc
                rw [← lim_eq hj]
                rw [byts_length] at hj
                exact HJ.out j (by omega)

end Go.Proofs.YtfohgkabmdhhaaaGreatDoor
/- The contract of nat's Parse. -/
namespace Go.Proofs.YtfohgkabmdhhaaaGreatDoor
open Go.RowKit Cin

set_option maxRecDepth 100000 in
set_option maxHeartbeats 1000000 in
/-- Parse, of a text that is none: the zero Nat and ErrForm. -/
theorem parse_no (s : ByteArray) (w : World) (h : ¬ IsNum (byts s)) :
    Calls Tryz.prog 147 #[.string s] w fun e w' => e = .returned (.tuple #[.agg #[.slice none 0 0], .int .i64 2]) ∧ Below w.heap.size w w' := by
  have H := Lib.hid h
  clear h
  go_enter Tryz.func147, Tryz.ntmps147
  go_wp2_with fail
  refine (isNumber_any s _).mono ?_
  rintro e w1 ⟨b, rfl, hb, rfl⟩
  obtain rfl : b = false := by cases b with | false => rfl | true => exact absurd (hb.1 rfl) H.out
  clear hb
  go_wp2
  refine bodyPost_ret (v := .tuple #[.agg #[.slice none 0 0], .int .i64 2]) (by simp [results, Tryz.results147, go_sem]) rfl ⟨rfl, bel_alloc _ _⟩

/-- timesAndMore by 10 to the 9th, the factor as the text has it. -/
theorem times_group (v : Value) (xs : List Nat) (more base : Nat) (w : World) (h : Own 146 .u32 w base v xs) (ho : Ok xs) (hm : more < 4294967296) (hl : xs.length ≤ 100000000) (hbase : base ≤ w.heap.size) :
    Calls Tryz.prog 175 #[v, .int .u32 1000000000, .int .u32 more] w fun e w' => ∃ v' zs, e = .returned v' ∧ Own 146 .u32 w' base v' zs ∧ Ok zs ∧ val zs = val xs * 1000000000 + more ∧ zs.length ≤ xs.length + 1 ∧ Below base w w' := by
  obtain ⟨g, hg⟩ : ∃ g : Nat, g = 1000000000 := ⟨_, rfl⟩
  have hi : (1000000000 : Int) = (g : Int) := by omega
  rw [hi, ← hg]
  exact times_any v xs g more base w h ho (by omega) hm hl hbase

/-- How long a text in a slot is. -/
def strLen : Value → Nat
  | .string s => s.size
  | _ => 0

/-- One group more. -/
theorem group_step {l l' : List Nat} {p n : Nat} (hl : l' = l.drop p) (hp : p < l.length) (hn : n = (l'.length - 1) % 9 + 1) (hdiv : p = 0 ∨ (l.length - p) % 9 = 0) :
    n ≤ l'.length ∧ n ≤ 9 ∧ 1 ≤ n ∧ decL (l.take (p + n)) = decL (l.take p) * 1000000000 + decL (l'.take n) ∧ l'.drop n = l.drop (p + n) ∧ (l.length - (p + n)) % 9 = 0 ∧ p + n ≤ l.length := by
  have e0 : l'.length = l.length - p := by rw [hl, List.length_drop]
  refine ⟨by omega, by omega, by omega, ?_, by rw [hl, List.drop_drop], by omega, by omega⟩
  have e1 : l.take (p + n) = l.take p ++ l'.take n := by rw [hl, List.take_add]
  rw [e1, decL_append, List.length_take]
  rcases hdiv with rfl | hd
  · simp [decL]
  · rw [show min n l'.length = 9 by omega]

set_option maxRecDepth 100000 in
set_option maxHeartbeats 1000000 in
/-- Parse, of a number's text: that number. -/
theorem parse_yes (s : ByteArray) (w : World) (h : IsNum (byts s)) :
    Calls Tryz.prog 147 #[.string s] w fun e w' => ∃ v, e = .returned (.tuple #[v, .int .i64 0]) ∧ NatV 146 w' v (decL (byts s)) ∧ Below w.heap.size w w' := by
  obtain ⟨i0, hi0, hz0, hz1, hz2⟩ := info_parts info_u32
  have hsz : s.size ≤ 4000 := by have := h.2.1; rwa [byts_length] at this
  obtain ⟨m, hm, em⟩ : ∃ m : Nat, (s.size : Int) / 9 + 1 = (m : Int) ∧ m = s.size / 9 + 1 := ⟨_, by omega, rfl⟩
  have hmb : m ≤ 1000 := by omega
  have H := Lib.hid h
  clear h em
  go_enter Tryz.func147, Tryz.ntmps147
  go_wp2_with fail
  refine (isNumber_any s _).mono ?_
  rintro e w1 ⟨b, rfl, hb, rfl⟩
  obtain rfl : b = true := hb.2 H.out
  clear hb
  go_wp2_with (at_make; refine wpList_make_ints _ rfl _ _ 25 rfl 146 i0 .u32 Tryz.underlying25 hi0 hz0 hz1 .i64 .i64 _ _ 0 m rfl rfl (by omega) (by omega) (Nat.zero_le _) (by rw [hz2]; omega) (by omega) ?_)
  have hown : Own 146 .u32 ((w.alloc (Obj.cells #[Value.slice none 0 0] 27)).alloc (Obj.cells (ints IntKind.u32 (List.replicate m 0)) 146)) (w.heap.size + 1) (.slice (some ⟨w.heap.size + 1, 0, none⟩) 0 m) [] := by
    have := Own.made (t := 146) (k := .u32) (base := w.heap.size + 1) (w.alloc (Obj.cells #[Value.slice none 0 0] 27)) (by simp) m (by omega)
    simp only [World.size_alloc] at this
    exact this
  have hres := new_block2 w (Obj.cells #[Value.slice none 0 0] 27) (Obj.cells (ints IntKind.u32 (List.replicate m 0)) 146)
  have hbW := bel_alloc2 w (Obj.cells #[Value.slice none 0 0] 27) (Obj.cells (ints IntKind.u32 (List.replicate m 0)) 146)
  have hsW : w.heap.size + 1 < ((w.alloc (Obj.cells #[Value.slice none 0 0] 27)).alloc (Obj.cells (ints IntKind.u32 (List.replicate m 0)) 146)).heap.size := by simp
  generalize (w.alloc (Obj.cells #[Value.slice none 0 0] 27)).alloc (Obj.cells (ints IntKind.u32 (List.replicate m 0)) 146) = W at *
  have HOW := Lib.hid hown
  have HRS := Lib.hid hres
  have HBW := Lib.hid hbW
  clear hown hres hbW
  go_loopw [0, 4, 5] (fun sx lx _ wr => ∃ (p : Nat) (s' : ByteArray) (v : Value) (xs : List Nat), sx = .string s' ∧ lx = v ∧ byts s' = (byts s).drop p ∧ p ≤ s.size ∧ (p = 0 ∨ (s.size - p) % 9 = 0) ∧ Own 146 .u32 wr (w.heap.size + 1) v xs ∧ Ok xs ∧
      val xs = decL ((byts s).take p) ∧ xs.length ≤ p ∧ Below (w.heap.size + 1) W wr) (fun sx _ _ _ => strLen sx)
  case atStart => exact ⟨0, s, _, [], rfl, rfl, rfl, Nat.zero_le _, .inl rfl, HOW.out, Ok.nil, rfl, Nat.zero_le _, Below.refl _ _⟩
  case round =>
    obtain ⟨p, s', v, xs, rfl, rfl, hsb, hp, hdiv, hown, hok, hv, hxl, hbel⟩ := hrel
    have hsl : s'.size = s.size - p := by rw [← byts_length, hsb, List.length_drop, byts_length]
    by_cases hlt : p < s.size
    · obtain ⟨n, hn, en⟩ : ∃ n : Nat, ((s'.size : Int) - 1) % 9 + 1 = (n : Int) ∧ n = (s'.size - 1) % 9 + 1 := ⟨_, by omega, rfl⟩
      have G := group_step (n := n) hsb (by rw [byts_length]; exact hlt) (by rw [byts_length]; exact en) (by rw [byts_length]; exact hdiv)
      obtain ⟨g1, g2, g3, g4, g5, g6, g7⟩ := G
      rw [byts_length] at g1 g6 g7
      have hb1 : byts (s'.extract 0 n) = (byts s').take n := by rw [byts_extract, List.drop_zero, Nat.sub_zero]
      have hb2 : byts (s'.extract n s'.size) = (byts s).drop (p + n) := by rw [byts_extract, List.take_of_length_le (by rw [List.length_drop, byts_length]; omega), g5]
      have hdg : Digs (byts (s'.extract 0 n)) := by rw [hb1, hsb]; exact fun c hc => H.out.2.2.2 c (List.mem_of_mem_drop (List.mem_of_mem_take hc))
      have hz1' : (s'.extract 0 n).size ≤ 9 := by rw [← byts_length, hb1, List.length_take, byts_length]; omega
      have hz2' : (s'.extract n s'.size).size < s'.size := by rw [← byts_length, hb2, List.length_drop, byts_length]; omega
      have hgl : decL (byts (s'.extract 0 n)) < 1000000000 := by
        refine Nat.lt_of_lt_of_le (decL_lt hdg) ?_
        exact Nat.pow_le_pow_right (n := 10) (by decide) (show _ ≤ 9 by rw [byts_length]; exact hz1')
      rw [← hb1, ← hv] at g4
      have G4 := Lib.hid g4
      have HB2 := Lib.hid hb2
      have HDG := Lib.hid hdg
      have HZ1 := Lib.hid hz1'
      have HZ2 := Lib.hid hz2'
      have HGL := Lib.hid hgl
      have G6 := Lib.hid g6
      have HO := Lib.hid hown
      have HB := Lib.hid hbel
      have hbw : w.heap.size + 1 ≤ wr.heap.size := by have := hbel.size; omega
      have hs0 : 0 < s'.size := by omega
      have hs4 : s'.size ≤ 4000 := by omega
      clear g4 g5 g6 hb1 hb2 hdg hz1' hz2' hgl hown hbel hv en hsb hdiv hsl
      go_wp2_with fail
      with_reducible refine (groupValue_any _ _ HZ1.out HDG.out).mono ?_
      rintro e w2 ⟨rfl, rfl⟩
      go_wp2_with fail
      with_reducible refine (times_group _ xs (decL (byts (s'.extract 0 n))) (w.heap.size + 1) wr HO.out hok (by have := HGL.out; omega) (by omega) hbw).mono ?_
      rintro e w3 ⟨v3, zs, rfl, ho3, hok3, hv3, hl3, hb3⟩
      have HO3 := Lib.hid ho3
      have HV3 := Lib.hid hv3
      have HB3 := Lib.hid (HB.out.trans hb3)
      clear ho3 hv3 hb3
      go_wp2_with fail
      exact ⟨⟨p + n, _, v3, zs, rfl, rfl, HB2.out, g7, .inr G6.out, HO3.out, hok3, by rw [HV3.out, G4.out], by omega, HB3.out⟩, HZ2.out⟩
    · have hv2 : val xs = decL (byts s) := by rw [hv, List.take_of_length_le (by rw [byts_length]; omega)]
      have hs0 : s'.size = 0 := by omega
      have HV := Lib.hid hv2
      have HSL := Lib.hid hown.sl
      have hr := (hbel.block w.heap.size (by omega)).trans HRS.out
      have hb0 := HBW.out.trans (hbel.mono (B' := w.heap.size) (by omega))
      have HR0 := Lib.hid hr
      have HB0 := Lib.hid hb0
      have hxl2 : xs.length ≤ 1000000000000 := by omega
      have hrs : w.heap.size < wr.heap.size := by have := hbel.size; omega
      clear hv2 hv hown hbel hr hb0 hsb hdiv hsl
      go_wp2_with fail
      refine (wrap_any _ xs _ HSL.out hok hxl2).mono ?_
      rintro e w2 ⟨v', rfl, hn2, hb2⟩
      obtain ⟨ad2, len2, cap2, rfl, hr2⟩ := hn2.shape
      have hk2 := (hb2.block w.heap.size hrs).trans HR0.out
      have hc := cell_of hk2 0
      have hf := free_of hk2 0
      simp only [List.getElem?_toArray, List.getElem?_cons_zero] at hc
      have HR := Lib.hid (fin_nat (bel_on HB0.out hb2) hk2 (by decide) hr2 (Nat.le_refl _) 0)
      clear hr2 hb2 hk2 hn2
      go_wp2
      refine bodyPost_ret (v := .tuple #[.agg #[.slice ad2 len2 cap2], .int .i64 0]) (by simp [results, Tryz.results147, go_sem, World.cell?_setCell_same _ _ _ hc]) rfl ⟨_, rfl, ?_⟩
      have := HR.out
      rw [HV.out] at this
      exact this

end Go.Proofs.YtfohgkabmdhhaaaGreatDoor
/- The contract of the document's NatParse. -/
namespace Go.Proofs.YtfohgkabmdhhaaaGreatDoor
open Go.RowKit Cin

def RefPost (s : ByteArray) (w : World) (e : Ending) (w' : World) : Prop :=
  (IsNum (byts s) ∧ ∃ v, e = .returned (.tuple #[v, .bool true]) ∧ RefV 146 w' v (decL (byts s)) ∧ Below w.heap.size w w') ∨
  (¬ IsNum (byts s) ∧ e = .returned (.tuple #[.slice none 0 0, .bool false]) ∧ Below w.heap.size w w')

set_option maxRecDepth 100000 in
set_option maxHeartbeats 2000000 in
/-- NatParse, behind its first test. -/
theorem refParse_in (s : ByteArray) (w : World) (h1 : 1 ≤ s.size) (h2 : s.size ≤ 4000) (h3 : s.size = 1 ∨ lim (byts s) 0 ≠ 48) :
    Calls Tryz.prog 110 #[.string s] w (RefPost s w) := by
  obtain ⟨i0, hi0, hz0, hz1, hz2⟩ := info_parts info_u32
  have hd : ((s.size : Int) == 0) = false := beq_eq_false_iff_ne.2 (by omega)
  have hd2 : decide ((4000 : Int) < (s.size : Int)) = false := by rw [decide_eq_false_iff_not]; omega
  have h0 : 0 < s.size := by omega
  have hb0 := byts_at s h0
  have H3 := Lib.hid h3
  have hcase : ((((s[0].toNat : Nat) : Int) == 48) = false) ∨ ((((s[0].toNat : Nat) : Int) == 48) = true ∧ decide ((1 : Int) < (s.size : Int)) = false) := by
    rw [hb0]
    by_cases hc : lim (byts s) 0 = 48
    · right
      exact ⟨by rw [hc]; rfl, by rw [decide_eq_false_iff_not]; omega⟩
    · left
      simp; omega
  clear hb0 h3
  rcases hcase with hd3 | ⟨hd3, hd4⟩
  all_goals
    go_enter Tryz.func110, Tryz.ntmps110
    go_wp2_with fail
    go_loopw [4, 5, 6, 7] (fun ox ix _ _ wr => ∃ (k : Nat) (v : Value) (xs : List Nat), k ≤ s.size ∧ ix = .int .i64 k ∧ ox = v ∧ Own 146 .u32 wr w.heap.size v xs ∧ Ok xs ∧ Norm xs ∧ val xs = decL ((byts s).take k) ∧ xs.length ≤ k ∧
        (∀ j, j < k → 48 ≤ lim (byts s) j ∧ lim (byts s) j ≤ 57) ∧ Below w.heap.size w wr) (fun _ ix _ _ _ => s.size - (intOf ix).toNat)
    case atStart => exact ⟨0, _, [], Nat.zero_le _, rfl, rfl, Own.nil _ _ _ _, Ok.nil, .inl rfl, rfl, Nat.zero_le _, fun j hj => absurd hj (Nat.not_lt_zero _), Below.refl _ _⟩
    case round =>
      obtain ⟨k, v, xs, hk, rfl, rfl, hown, hok, hnm, hv, hxl, hj, hbel⟩ := hrel
      have HJ := Lib.hid hj
      have HB := Lib.hid hbel
      have HO := Lib.hid hown
      have HV := Lib.hid hv
      have HN := Lib.hid hnm
      obtain ⟨ad, cap, rfl, hcap, had⟩ := hown.sl.shape
      clear hj hbel hown hv hnm had
      by_cases hlt : k < s.size
      · have hb := byts_at s hlt
        have hcb : ((s[k].toNat : Nat) : Int) = (lim (byts s) k : Nat) := by rw [hb]
        clear hb
        have hst := decL_take_succ (l := byts s) (i := k) (by rw [byts_length]; exact hlt)
        generalize hcc : lim (byts s) k = c at *
        have HCC := Lib.hid hcc
        have HST := Lib.hid hst
        clear hcc hst
        by_cases hlo : c < 48
        · have hdl : decide ((c : Int) < 48) = true := by rw [decide_eq_true_iff]; omega
          go_wp2_with fail
          go_ret2
          refine .inr ⟨fun h => ?_, rfl, HB.out⟩
          have := h.2.2.2.lim (i := k) (by rw [byts_length]; exact hlt)
          rw [HCC.out] at this; omega
        · have hdl : decide ((c : Int) < 48) = false := by rw [decide_eq_false_iff_not]; omega
          by_cases hhi : 57 < c
          · have hdh : decide ((57 : Int) < (c : Int)) = true := by rw [decide_eq_true_iff]; omega
            go_wp2_with fail
            go_ret2
            refine .inr ⟨fun h => ?_, rfl, HB.out⟩
            have := h.2.2.2.lim (i := k) (by rw [byts_length]; exact hlt)
            rw [HCC.out] at this; omega
          · have hdh : decide ((57 : Int) < (c : Int)) = false := by rw [decide_eq_false_iff_not]; omega
            obtain ⟨d, hdd, ed⟩ : ∃ d : Nat, (c : Int) - 48 = (d : Int) ∧ d = c - 48 := ⟨_, by omega, rfl⟩
            have hd9 : d ≤ 9 := by omega
            have ED := Lib.hid ed
            clear ed
            generalize hxn : xs.length = n at *
            have HXN := Lib.hid hxn
            clear hxn
            go_wp2_with fail
            go_loopw [6, 7] (fun cx jx wq => ∃ (j q : Nat) (zs : List Nat), j ≤ n ∧ jx = .int .i64 j ∧ cx = .int .u64 q ∧ q < 4294967296 ∧ zs.length = xs.length ∧ Ok zs ∧ val (zs.take j) + pw j * q = val (xs.take j) * 10 + d ∧
                (∀ i, j ≤ i → lim zs i = lim xs i) ∧ Own 146 .u32 wq w.heap.size (.slice ad n cap) zs ∧ Below w.heap.size w wq) (fun _ jx _ => n - (intOf jx).toNat)
            case atStart => exact ⟨0, d, xs, Nat.zero_le _, rfl, rfl, by omega, rfl, hok, by rw [List.take_zero, val_nil, pw_zero]; omega, fun _ _ => rfl, HO.out, HB.out⟩
            case round =>
              obtain ⟨j, q, zs, hjn, rfl, rfl, hq, hzl, hzok, hzv, hun, hown, hbel⟩ := hrel
              have hzn : n = zs.length := by have := HXN.out; omega
              by_cases hjlt : j < n
              · obtain ⟨g, rfl, hbg, hgw⟩ : ∃ g, ad = some ⟨g, 0, none⟩ ∧ w.heap.size ≤ g ∧ g < wr.heap.size := by
                  rcases hown.shape with ⟨_, e⟩ | ⟨g, cap', e, h1, h2, _⟩
                  · subst e; simp at hzn; omega
                  · cases e; exact ⟨g, rfl, h1, h2⟩
                have hcell := hown.cell hzn (i := j) hjlt
                have hf := hown.free hzn j
                rw [hun j (Nat.le_refl _)] at hcell
                have hlim : lim xs j < 4294967296 := lim_lt hok _
                obtain ⟨t, ht, et⟩ : ∃ t : Nat, (q : Int) + ((lim xs j : Nat) : Int) * 10 = (t : Int) ∧ t = q + lim xs j * 10 := ⟨_, by omega, rfl⟩
                have htb : t < 47244640257 := by omega
                obtain ⟨td, htd, etd⟩ : ∃ td : Nat, ((t : Int) / 4294967296) = (td : Int) ∧ td = t / 4294967296 := ⟨t / 4294967296, by omega, rfl⟩
                obtain ⟨tm, htm, etm⟩ : ∃ tm : Nat, ((t : Int) % 4294967296) = (tm : Int) ∧ tm = t % 4294967296 := ⟨t % 4294967296, by omega, rfl⟩
                have htmb : tm < 4294967296 := by omega
                have hand : bits BinOp.and IntKind.u64 (t : Int) 4294967295 = (tm : Int) := by rw [and_mask32 (by omega), etm]
                have R := step_times hzl hzok hzv hun (by have := HXN.out; omega) et etd etm hq hlim (by decide)
                have HR := Lib.hid R
                have HO2 := Lib.hid (hown.set hzn j tm)
                have HB2 := Lib.hid (hbel.setCell (p := ⟨g, j, none⟩) hbg (.int .u32 (tm : Nat)))
                clear R et etd etm hown hbel hzv hun hzl hzn
                go_wp2_with fail
                obtain ⟨r1, r2, r3, r4, r5⟩ := HR.out
                exact ⟨⟨j + 1, td, zs.set j tm, by omega, by go_num, rfl, r1, r2, r3, r4, r5, HO2.out, HB2.out⟩, by simp [intOf]; omega⟩
              · obtain rfl : j = n := by omega
                have hval := hzv
                rw [List.take_of_length_le (by omega), List.take_of_length_le (by have := HXN.out; omega), HV.out, ED.out] at hval
                rw [← HST.out] at hval
                have HVAL := Lib.hid hval
                have HO2 := Lib.hid hown
                have HB2 := Lib.hid hbel
                have HZL := Lib.hid hzn
                have hbw : w.heap.size ≤ wr.heap.size := by have := hbel.size; omega
                -- what was there is no more than what is there now
                have hge : val xs ≤ decL ((byts s).take (k + 1)) := by rw [HST.out, ← HV.out]; omega
                have HGE := Lib.hid hge
                have hjs : ∀ i, i < k + 1 → 48 ≤ lim (byts s) i ∧ lim (byts s) i ≤ 57 := fun i hi => by
                  rcases Nat.lt_or_eq_of_le (Nat.le_of_lt_succ hi) with h5 | rfl
                  · exact HJ.out i h5
                  · rw [HCC.out]; omega
                have HJS := Lib.hid hjs
                clear hown hbel hzv hun hzl hzn hval hge hjs
                by_cases hq0 : q = 0
                · subst hq0
                  go_wp2_with fail
                  refine ⟨⟨k + 1, _, zs, by omega, by go_num, rfl, HO2.out, hzok, ?_, by have := HVAL.out; omega, by have := HZL.out; omega, HJS.out, HB2.out⟩, by simp [intOf]; omega⟩
                  refine norm_of_ge hzok ?_
                  rcases Nat.eq_zero_or_pos j with e | e
                  · left; exact List.length_eq_zero_iff.1 (by have := HZL.out; omega)
                  · right
                    have h6 := val_ge HN.out (by intro e2; have := HXN.out; rw [e2] at this; simp at this; omega)
                    have := HVAL.out; have := HGE.out
                    rw [← HZL.out, ← HXN.out]; omega
                · have hqb : decide ((0 : Int) < (q : Int)) = true := by rw [decide_eq_true_iff]; omega
                  go_wp2_with (at_builtin; refine wpList_append_one wr rfl _ _ 37 rfl w.heap.size 146 i0 .u32 4 Tryz.underlying37 hi0 hz0 hz1 hz2 _ zs (by rfl) (by exact HO2.out) q (by rfl) (by have := HZL.out; omega) (by have := HZL.out; omega) hbw ?_)
                  intro v' w' h1 h2
                  have H1 := Lib.hid h1
                  have H2 := Lib.hid h2
                  clear h1 h2
                  go_wp2_with fail
                  refine ⟨⟨k + 1, v', zs ++ [q], by omega, by go_num, rfl, H1.out, hzok.append (Ok.cons hq Ok.nil), ?_, by rw [val_snoc, ← HZL.out]; exact HVAL.out, by rw [List.length_append, ← HZL.out]; simp; omega, HJS.out, HB2.out.trans H2.out⟩, by simp [intOf]; omega⟩
                  right
                  rw [List.length_append, List.length_singleton, Nat.add_sub_cancel, lim_append_right (Nat.le_refl _), Nat.sub_self]
                  exact hq0
      · go_wp2_with fail
        go_ret2
        refine .inl ⟨⟨by rw [byts_length]; omega, by rw [byts_length]; omega, ?_, ?_⟩, _, rfl, ⟨xs, HO.out.sl, hok, HN.out, by rw [HV.out, List.take_of_length_le (by rw [byts_length]; omega)]⟩, HB.out⟩
        · have := H3.out; rw [byts_length]; omega
        · intro c hc
          obtain ⟨j, hj, rfl⟩ := List.mem_iff_getElem.1 hc
          rw [← lim_eq hj]
          rw [byts_length] at hj
          exact HJ.out j (by omega)

end Go.Proofs.YtfohgkabmdhhaaaGreatDoor
/- Contracts of the document's NatParse, whole, and of pair. -/
namespace Go.Proofs.YtfohgkabmdhhaaaGreatDoor
open Go.RowKit Cin

set_option maxRecDepth 100000 in
set_option maxHeartbeats 1000000 in
/-- NatParse: the number, or none. -/
theorem refParse_any (s : ByteArray) (w : World) : Calls Tryz.prog 110 #[.string s] w (RefPost s w) := by
  by_cases hin : 1 ≤ s.size ∧ s.size ≤ 4000 ∧ (s.size = 1 ∨ lim (byts s) 0 ≠ 48)
  · exact refParse_in s w hin.1 hin.2.1 hin.2.2
  · have hno : ¬ IsNum (byts s) := fun h => by
      obtain ⟨a1, a2, a3, _⟩ := h
      rw [byts_length] at a1 a2 a3
      exact hin ⟨a1, a2, a3⟩
    have HNO := Lib.hid hno
    clear hno
    by_cases h1 : s.size = 0
    · have hd : ((s.size : Int) == 0) = true := beq_iff_eq.2 (by omega)
      clear hin h1
      go_enter Tryz.func110, Tryz.ntmps110
      go_wp2_with fail
      go_ret2
      exact .inr ⟨HNO.out, rfl, Below.refl _ _⟩
    · have hd : ((s.size : Int) == 0) = false := beq_eq_false_iff_ne.2 (by omega)
      by_cases h2 : 4000 < s.size
      · have hd2 : decide ((4000 : Int) < (s.size : Int)) = true := by rw [decide_eq_true_iff]; omega
        clear hin
        go_enter Tryz.func110, Tryz.ntmps110
        go_wp2_with fail
        go_ret2
        exact .inr ⟨HNO.out, rfl, Below.refl _ _⟩
      · have hd2 : decide ((4000 : Int) < (s.size : Int)) = false := by rw [decide_eq_false_iff_not]; omega
        have h0 : 0 < s.size := by omega
        have hb0 := byts_at s h0
        have h3 : lim (byts s) 0 = 48 ∧ 1 < s.size := by omega
        have hd3 : (((s[0].toNat : Nat) : Int) == 48) = true := by rw [hb0, h3.1]; rfl
        have hd4 : decide ((1 : Int) < (s.size : Int)) = true := by rw [decide_eq_true_iff]; omega
        clear hin hb0 h3
        go_enter Tryz.func110, Tryz.ntmps110
        go_wp2_with fail
        go_ret2
        exact .inr ⟨HNO.out, rfl, Below.refl _ _⟩

/-- What pair takes. -/
def PairOk (a b : ByteArray) : Prop := IsNum (byts a) ∧ IsNum (byts b) ∧ a.size ≤ 200 ∧ b.size ≤ 200
def PairPost (a b : ByteArray) (w : World) (e : Ending) (w' : World) : Prop :=
  (PairOk a b ∧ ∃ p q x y, e = .returned (.tuple #[.agg #[p], .agg #[q], x, y, .bool true]) ∧ RefV 146 w' p (decL (byts a)) ∧ RefV 146 w' q (decL (byts b)) ∧ RefV 146 w' x (decL (byts a)) ∧ RefV 146 w' y (decL (byts b)) ∧ Below w.heap.size w w') ∨
  (¬ PairOk a b ∧ e = .returned (.tuple #[.agg #[.slice none 0 0], .agg #[.slice none 0 0], .slice none 0 0, .slice none 0 0, .bool false]) ∧ Below w.heap.size w w')

end Go.Proofs.YtfohgkabmdhhaaaGreatDoor
/- Decimal digits of a number, by ones and by groups of nine. No program. -/
namespace Cin
open Go

/-- A number's text. -/
def decS (n : Nat) : ByteArray := ⟨(Lib.decDigits n).toArray⟩
/-- Its digits, none for 0. -/
def dd (n : Nat) : List UInt8 := if n = 0 then [] else Lib.decDigits n
theorem dd_zero : dd 0 = [] := if_pos rfl
theorem dd_pos {n : Nat} (h : n ≠ 0) : dd n = Lib.decDigits n := if_neg h
theorem dec_small {n : Nat} (h : n < 10) : Lib.decDigits n = [UInt8.ofNat (48 + n)] := by rw [Lib.decDigits, dif_pos h]
theorem dec_big {n : Nat} (h : ¬ n < 10) : Lib.decDigits n = Lib.decDigits (n / 10) ++ [UInt8.ofNat (48 + n % 10)] := by rw [Lib.decDigits, dif_neg h]
theorem dd_step {n : Nat} (h : n ≠ 0) : dd n = dd (n / 10) ++ [UInt8.ofNat (48 + n % 10)] := by
  rw [dd_pos h]
  by_cases h1 : n < 10
  · rw [dec_small h1, show n / 10 = 0 by omega, dd_zero, Nat.mod_eq_of_lt h1]; rfl
  · rw [dec_big h1, dd_pos (show n / 10 ≠ 0 by omega)]
theorem dec_ten {q r : Nat} (hq : q ≠ 0) (hr : r < 10) : Lib.decDigits (q * 10 + r) = Lib.decDigits q ++ [UInt8.ofNat (48 + r)] := by
  rw [dec_big (by omega), show (q * 10 + r) / 10 = q by omega, show (q * 10 + r) % 10 = r by omega]

/-- The digits of r with noughts ahead, k together. -/
def padk (k r : Nat) : List UInt8 := List.replicate (k - (Lib.decDigits r).length) 48 ++ Lib.decDigits r
theorem padk_one {r : Nat} (h : r < 10) : padk 1 r = [UInt8.ofNat (48 + r)] := by unfold padk; rw [dec_small h]; rfl
theorem padk_succ {k r : Nat} (hk : 1 ≤ k) : padk (k + 1) r = padk k (r / 10) ++ [UInt8.ofNat (48 + r % 10)] := by
  unfold padk
  by_cases h : r < 10
  · rw [dec_small h, show r / 10 = 0 by omega, dec_small (show 0 < 10 by decide), Nat.mod_eq_of_lt h]
    simp only [List.length_singleton, Nat.add_sub_cancel]
    rw [List.append_assoc]
    show _ = List.replicate (k - 1) 48 ++ ([48] ++ [_])
    rw [← List.append_assoc, ← List.replicate_one (a := (48 : UInt8)), List.replicate_append_replicate, show k - 1 + 1 = k by omega]
  · rw [dec_big h, List.length_append, List.length_singleton, Nat.add_sub_add_right, List.append_assoc]
/-- A number out of a higher part and k digits below. -/
theorem dec_group {q : Nat} (hq : q ≠ 0) : ∀ (k r : Nat), 1 ≤ k → r < 10 ^ k → Lib.decDigits (q * 10 ^ k + r) = Lib.decDigits q ++ padk k r
  | 0, _, h, _ => by omega
  | 1, r, _, h => by rw [padk_one (by simpa using h), Nat.pow_one, dec_ten hq (by simpa using h)]
  | k + 2, r, _, h => by
    have hp : 10 ^ (k + 2) = 10 ^ (k + 1) * 10 := Nat.pow_succ ..
    rw [hp] at h ⊢
    have hpos : 0 < 10 ^ (k + 1) := Nat.pow_pos (by decide)
    have hq10 : 10 ≤ q * (10 ^ (k + 1) * 10) := by
      have : 1 * 1 ≤ q * 10 ^ (k + 1) := Nat.mul_le_mul (by omega) hpos
      rw [← Nat.mul_assoc]; omega
    rw [dec_big (by omega), padk_succ (by omega), ← List.append_assoc, ← dec_group hq (k + 1) (r / 10) (by omega) (by omega), ← Nat.mul_assoc]
    rw [show (q * 10 ^ (k + 1) * 10 + r) / 10 = q * 10 ^ (k + 1) + r / 10 by omega, show (q * 10 ^ (k + 1) * 10 + r) % 10 = r % 10 by omega]

theorem list_snoc {l : List Nat} (h : l ≠ []) : ∃ l' c, l = l' ++ [c] := ⟨l.dropLast, l.getLast h, (List.dropLast_concat_getLast h).symm⟩
theorem decL_pos {l : List Nat} (h : Digs l) (hl : l ≠ []) (h0 : lim l 0 ≠ 48) : decL l ≠ 0 := by
  cases l with
  | nil => exact absurd rfl hl
  | cons c l =>
    rw [decL_cons]
    have h1 := h c (by simp)
    have h2 : c ≠ 48 := h0
    have : 1 * 1 ≤ (c - 48) * 10 ^ l.length := Nat.mul_le_mul (by omega) (Nat.pow_pos (by decide))
    omega
/-- The text of the number whose digits these are. -/
theorem dec_decL : ∀ (n : Nat) (l : List Nat), l.length = n → Digs l → l ≠ [] → (l.length = 1 ∨ lim l 0 ≠ 48) → Lib.decDigits (decL l) = l.map UInt8.ofNat
  | 0, l, hn, _, hl, _ => absurd (List.length_eq_zero_iff.1 hn) hl
  | n + 1, l, hn, hd, hl, h0 => by
    obtain ⟨l', c, rfl⟩ := list_snoc hl
    have hc := hd c (by simp)
    have hd' : Digs l' := fun x hx => hd x (by simp [hx])
    rw [decL_snoc]
    by_cases he : l' = []
    · subst he
      rw [decL_nil, Nat.zero_mul, Nat.zero_add, dec_small (by omega), show 48 + (c - 48) = c by omega]; rfl
    · have hlen : l'.length = n := by simpa using hn
      have hp : 0 < l'.length := List.length_pos_iff.2 he
      have hh : lim l' 0 ≠ 48 := by
        rcases h0 with h | h
        · rw [List.length_append, List.length_singleton] at h; omega
        · rwa [lim_append_left hp] at h
      rw [dec_ten (decL_pos hd' he hh) (by omega), dec_decL n l' hlen hd' he (.inr hh), List.map_append, show 48 + (c - 48) = c by omega]; rfl
theorem byts_map (s : ByteArray) : (byts s).map UInt8.ofNat = s.data.toList := by
  unfold byts
  rw [List.map_map]
  conv => rhs; rw [← List.map_id s.data.toList]
  exact List.map_congr_left fun x _ => by simp
/-- A number's text is the text that it was read from. -/
theorem decS_decL {s : ByteArray} (h : IsNum (byts s)) : decS (decL (byts s)) = s := by
  unfold decS
  rw [dec_decL _ _ rfl h.2.2.2 (fun e => by have := h.1; rw [e] at this; simp at this) h.2.2.1, byts_map]
/-- Unlike numbers have unlike texts. -/
theorem byts_decS (n : Nat) : byts (decS n) = (Lib.decDigits n).map UInt8.toNat := rfl
theorem decL_dec (n : Nat) : decL ((Lib.decDigits n).map UInt8.toNat) = n := by
  induction n using Nat.strongRecOn with
  | _ n ih =>
    by_cases h : n < 10
    · rw [dec_small h]
      show decL [(UInt8.ofNat (48 + n)).toNat] = n
      rw [UInt8.toNat_ofNat', Nat.mod_eq_of_lt (by omega)]
      show 0 * 10 + (48 + n - 48) = n
      omega
    · rw [dec_big h, List.map_append, List.map_singleton, decL_snoc, ih (n / 10) (by omega), UInt8.toNat_ofNat', Nat.mod_eq_of_lt (by omega)]
      omega

theorem dec_len : ∀ (m n : Nat), 1 ≤ m → n < 10 ^ m → (Lib.decDigits n).length ≤ m
  | 0, _, h, _ => by omega
  | 1, n, _, h => by rw [dec_small (by simpa using h)]; simp
  | m + 2, n, _, h => by
    by_cases h1 : n < 10
    · rw [dec_small h1]; simp
    · rw [dec_big h1, List.length_append, List.length_singleton]
      have := dec_len (m + 1) (n / 10) (by omega) (by rw [Nat.pow_succ] at h; omega)
      omega
theorem pw_ten (k : Nat) : pw k ≤ 10 ^ (10 * k) := by
  unfold pw; rw [Nat.pow_mul]; exact Nat.pow_le_pow_left (by decide) k
theorem dec_len_pw {n k : Nat} (h : n < pw k) : (Lib.decDigits n).length ≤ 10 * k + 1 :=
  dec_len (10 * k + 1) n (by omega) (Nat.lt_of_lt_of_le h (Nat.le_trans (pw_ten k) (Nat.pow_le_pow_right (by decide) (by omega))))
theorem minus_append (l : List UInt8) : (⟨#[45]⟩ : ByteArray) ++ ⟨l.toArray⟩ = ⟨(45 :: l).toArray⟩ := by
  apply ByteArray.ext
  simp
/-- A whole number's text. -/
def intS (z : Int) : ByteArray := ⟨((if z < 0 then [45] else []) ++ Lib.decDigits z.natAbs).toArray⟩
theorem intS_neg {z : Int} (h : z < 0) : intS z = (⟨#[45]⟩ : ByteArray) ++ decS z.natAbs := by unfold intS decS; rw [if_pos h, minus_append]; rfl
theorem intS_pos {z : Int} (h : ¬ z < 0) : intS z = decS z.natAbs := by unfold intS decS; rw [if_neg h]; rfl

end Cin
