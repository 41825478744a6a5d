/- The contract of the document's NatParse. -/
import Derived.Test.YtpchnejdbmoicaaDoorWR
namespace Go.Proofs.YtpchnejdbmoicaaDoor
open Go.RowKit Cin

def RefPost (s : ByteArray) (w : World) (e : Ending) (w' : World) : Prop :=
  (IsNum (byts s) ∧ ∃ v, e = .returned (.tuple #[v, .bool true]) ∧ RefV 68 w' v (decL (byts s)) ∧ Below w.heap.size w w') ∨
  (¬ IsNum (byts s) ∧ e = .returned (.tuple #[.slice none 0 0, .bool false]) ∧ Below w.heap.size w w')

set_option maxRecDepth 100000 in
set_option maxHeartbeats 2000000 in
/-- NatParse, behind its first test. -/
theorem refParse_in (s : ByteArray) (w : World) (h1 : 1 ≤ s.size) (h2 : s.size ≤ 4000) (h3 : s.size = 1 ∨ lim (byts s) 0 ≠ 48) :
    Calls Tryd.prog 11 #[.string s] w (RefPost s w) := by
  obtain ⟨i0, hi0, hz0, hz1, hz2⟩ := info_parts info_u32
  have hd : ((s.size : Int) == 0) = false := beq_eq_false_iff_ne.2 (by omega)
  have hd2 : decide ((4000 : Int) < (s.size : Int)) = false := by rw [decide_eq_false_iff_not]; omega
  have h0 : 0 < s.size := by omega
  have hb0 := byts_at s h0
  have H3 := Lib.hid h3
  have hcase : ((((s[0].toNat : Nat) : Int) == 48) = false) ∨ ((((s[0].toNat : Nat) : Int) == 48) = true ∧ decide ((1 : Int) < (s.size : Int)) = false) := by
    rw [hb0]
    by_cases hc : lim (byts s) 0 = 48
    · right
      exact ⟨by rw [hc]; rfl, by rw [decide_eq_false_iff_not]; omega⟩
    · left
      simp; omega
  clear hb0 h3
  rcases hcase with hd3 | ⟨hd3, hd4⟩
  all_goals
    go_enter Tryd.func11, Tryd.ntmps11
    go_wp2_with fail
    go_loopw [4, 5, 6, 7] (fun ox ix _ _ wr => ∃ (k : Nat) (v : Value) (xs : List Nat), k ≤ s.size ∧ ix = .int .i64 k ∧ ox = v ∧ Own 68 .u32 wr w.heap.size v xs ∧ Ok xs ∧ Norm xs ∧ val xs = decL ((byts s).take k) ∧ xs.length ≤ k ∧
        (∀ j, j < k → 48 ≤ lim (byts s) j ∧ lim (byts s) j ≤ 57) ∧ Below w.heap.size w wr) (fun _ ix _ _ _ => s.size - (intOf ix).toNat)
    case atStart => exact ⟨0, _, [], Nat.zero_le _, rfl, rfl, Own.nil _ _ _ _, Ok.nil, .inl rfl, rfl, Nat.zero_le _, fun j hj => absurd hj (Nat.not_lt_zero _), Below.refl _ _⟩
    case round =>
      obtain ⟨k, v, xs, hk, rfl, rfl, hown, hok, hnm, hv, hxl, hj, hbel⟩ := hrel
      have HJ := Lib.hid hj
      have HB := Lib.hid hbel
      have HO := Lib.hid hown
      have HV := Lib.hid hv
      have HN := Lib.hid hnm
      obtain ⟨ad, cap, rfl, hcap, had⟩ := hown.sl.shape
      clear hj hbel hown hv hnm had
      by_cases hlt : k < s.size
      · have hb := byts_at s hlt
        have hcb : ((s[k].toNat : Nat) : Int) = (lim (byts s) k : Nat) := by rw [hb]
        clear hb
        have hst := decL_take_succ (l := byts s) (i := k) (by rw [byts_length]; exact hlt)
        generalize hcc : lim (byts s) k = c at *
        have HCC := Lib.hid hcc
        have HST := Lib.hid hst
        clear hcc hst
        by_cases hlo : c < 48
        · have hdl : decide ((c : Int) < 48) = true := by rw [decide_eq_true_iff]; omega
          go_wp2_with fail
          go_ret2
          refine .inr ⟨fun h => ?_, rfl, HB.out⟩
          have := h.2.2.2.lim (i := k) (by rw [byts_length]; exact hlt)
          rw [HCC.out] at this; omega
        · have hdl : decide ((c : Int) < 48) = false := by rw [decide_eq_false_iff_not]; omega
          by_cases hhi : 57 < c
          · have hdh : decide ((57 : Int) < (c : Int)) = true := by rw [decide_eq_true_iff]; omega
            go_wp2_with fail
            go_ret2
            refine .inr ⟨fun h => ?_, rfl, HB.out⟩
            have := h.2.2.2.lim (i := k) (by rw [byts_length]; exact hlt)
            rw [HCC.out] at this; omega
          · have hdh : decide ((57 : Int) < (c : Int)) = false := by rw [decide_eq_false_iff_not]; omega
            obtain ⟨d, hdd, ed⟩ : ∃ d : Nat, (c : Int) - 48 = (d : Int) ∧ d = c - 48 := ⟨_, by omega, rfl⟩
            have hd9 : d ≤ 9 := by omega
            have ED := Lib.hid ed
            clear ed
            generalize hxn : xs.length = n at *
            have HXN := Lib.hid hxn
            clear hxn
            go_wp2_with fail
            go_loopw [6, 7] (fun cx jx wq => ∃ (j q : Nat) (zs : List Nat), j ≤ n ∧ jx = .int .i64 j ∧ cx = .int .u64 q ∧ q < 4294967296 ∧ zs.length = xs.length ∧ Ok zs ∧ val (zs.take j) + pw j * q = val (xs.take j) * 10 + d ∧
                (∀ i, j ≤ i → lim zs i = lim xs i) ∧ Own 68 .u32 wq w.heap.size (.slice ad n cap) zs ∧ Below w.heap.size w wq) (fun _ jx _ => n - (intOf jx).toNat)
            case atStart => exact ⟨0, d, xs, Nat.zero_le _, rfl, rfl, by omega, rfl, hok, by rw [List.take_zero, val_nil, pw_zero]; omega, fun _ _ => rfl, HO.out, HB.out⟩
            case round =>
              obtain ⟨j, q, zs, hjn, rfl, rfl, hq, hzl, hzok, hzv, hun, hown, hbel⟩ := hrel
              have hzn : n = zs.length := by have := HXN.out; omega
              by_cases hjlt : j < n
              · obtain ⟨g, rfl, hbg, hgw⟩ : ∃ g, ad = some ⟨g, 0, none⟩ ∧ w.heap.size ≤ g ∧ g < wr.heap.size := by
                  rcases hown.shape with ⟨_, e⟩ | ⟨g, cap', e, h1, h2, _⟩
                  · subst e; simp at hzn; omega
                  · cases e; exact ⟨g, rfl, h1, h2⟩
                have hcell := hown.cell hzn (i := j) hjlt
                have hf := hown.free hzn j
                rw [hun j (Nat.le_refl _)] at hcell
                have hlim : lim xs j < 4294967296 := lim_lt hok _
                obtain ⟨t, ht, et⟩ : ∃ t : Nat, (q : Int) + ((lim xs j : Nat) : Int) * 10 = (t : Int) ∧ t = q + lim xs j * 10 := ⟨_, by omega, rfl⟩
                have htb : t < 47244640257 := by omega
                obtain ⟨td, htd, etd⟩ : ∃ td : Nat, ((t : Int) / 4294967296) = (td : Int) ∧ td = t / 4294967296 := ⟨t / 4294967296, by omega, rfl⟩
                obtain ⟨tm, htm, etm⟩ : ∃ tm : Nat, ((t : Int) % 4294967296) = (tm : Int) ∧ tm = t % 4294967296 := ⟨t % 4294967296, by omega, rfl⟩
                have htmb : tm < 4294967296 := by omega
                have hand : bits BinOp.and IntKind.u64 (t : Int) 4294967295 = (tm : Int) := by rw [and_mask32 (by omega), etm]
                have R := step_times hzl hzok hzv hun (by have := HXN.out; omega) et etd etm hq hlim (by decide)
                have HR := Lib.hid R
                have HO2 := Lib.hid (hown.set hzn j tm)
                have HB2 := Lib.hid (hbel.setCell (p := ⟨g, j, none⟩) hbg (.int .u32 (tm : Nat)))
                clear R et etd etm hown hbel hzv hun hzl hzn
                go_wp2_with fail
                obtain ⟨r1, r2, r3, r4, r5⟩ := HR.out
                exact ⟨⟨j + 1, td, zs.set j tm, by omega, by go_num, rfl, r1, r2, r3, r4, r5, HO2.out, HB2.out⟩, by simp [intOf]; omega⟩
              · obtain rfl : j = n := by omega
                have hval := hzv
                rw [List.take_of_length_le (by omega), List.take_of_length_le (by have := HXN.out; omega), HV.out, ED.out] at hval
                rw [← HST.out] at hval
                have HVAL := Lib.hid hval
                have HO2 := Lib.hid hown
                have HB2 := Lib.hid hbel
                have HZL := Lib.hid hzn
                have hbw : w.heap.size ≤ wr.heap.size := by have := hbel.size; omega
                -- what was there is no more than what is there now
                have hge : val xs ≤ decL ((byts s).take (k + 1)) := by rw [HST.out, ← HV.out]; omega
                have HGE := Lib.hid hge
                have hjs : ∀ i, i < k + 1 → 48 ≤ lim (byts s) i ∧ lim (byts s) i ≤ 57 := fun i hi => by
                  rcases Nat.lt_or_eq_of_le (Nat.le_of_lt_succ hi) with h5 | rfl
                  · exact HJ.out i h5
                  · rw [HCC.out]; omega
                have HJS := Lib.hid hjs
                clear hown hbel hzv hun hzl hzn hval hge hjs
                by_cases hq0 : q = 0
                · subst hq0
                  go_wp2_with fail
                  refine ⟨⟨k + 1, _, zs, by omega, by go_num, rfl, HO2.out, hzok, ?_, by have := HVAL.out; omega, by have := HZL.out; omega, HJS.out, HB2.out⟩, by simp [intOf]; omega⟩
                  refine norm_of_ge hzok ?_
                  rcases Nat.eq_zero_or_pos j with e | e
                  · left; exact List.length_eq_zero_iff.1 (by have := HZL.out; omega)
                  · right
                    have h6 := val_ge HN.out (by intro e2; have := HXN.out; rw [e2] at this; simp at this; omega)
                    have := HVAL.out; have := HGE.out
                    rw [← HZL.out, ← HXN.out]; omega
                · have hqb : decide ((0 : Int) < (q : Int)) = true := by rw [decide_eq_true_iff]; omega
                  go_wp2_with (at_builtin; refine wpList_append_one wr rfl _ _ 29 rfl w.heap.size 68 i0 .u32 4 Tryd.underlying29 hi0 hz0 hz1 hz2 _ zs (by rfl) (by exact HO2.out) q (by rfl) (by have := HZL.out; omega) (by have := HZL.out; omega) hbw ?_)
                  intro v' w' h1 h2
                  have H1 := Lib.hid h1
                  have H2 := Lib.hid h2
                  clear h1 h2
                  go_wp2_with fail
                  refine ⟨⟨k + 1, v', zs ++ [q], by omega, by go_num, rfl, H1.out, hzok.append (Ok.cons hq Ok.nil), ?_, by rw [val_snoc, ← HZL.out]; exact HVAL.out, by rw [List.length_append, ← HZL.out]; simp; omega, HJS.out, HB2.out.trans H2.out⟩, by simp [intOf]; omega⟩
                  right
                  rw [List.length_append, List.length_singleton, Nat.add_sub_cancel, lim_append_right (Nat.le_refl _), Nat.sub_self]
                  exact hq0
      · go_wp2_with fail
        go_ret2
        refine .inl ⟨⟨by rw [byts_length]; omega, by rw [byts_length]; omega, ?_, ?_⟩, _, rfl, ⟨xs, HO.out.sl, hok, HN.out, by rw [HV.out, List.take_of_length_le (by rw [byts_length]; omega)]⟩, HB.out⟩
        · have := H3.out; rw [byts_length]; omega
        · intro c hc
          obtain ⟨j, hj, rfl⟩ := List.mem_iff_getElem.1 hc
          rw [← lim_eq hj]
          rw [byts_length] at hj
          exact HJ.out j (by omega)

end Go.Proofs.YtpchnejdbmoicaaDoor
