/- nat's Div by one word, and of all numbers. -/
import Derived.Test.YtpchnejdbmoicaaDoorD5
import Derived.Test.YtpchnejdbmoicaaDoorI6
namespace Go.Proofs.YtpchnejdbmoicaaDoor
open Go.RowKit Cin

set_option maxRecDepth 100000 in
set_option maxHeartbeats 4000000 in
/-- Div by one word. -/
theorem divOne_any (v u : Value) (x y k j : Nat) (w : World) (h : NatB 68 w v x k) (h' : NatB 68 w u y j) (hk : k ≤ 10000000) (hj : j ≤ 10000000) (hx2 : 18446744073709551616 ≤ x) (hy0 : 0 < y) (hy2 : y < 4294967296) :
    Calls Tryd.prog 25 #[v, u] w fun e w' => ∃ v' u', e = .returned (.tuple #[v', u', .bool true]) ∧ NatB 68 w' v' (x / y) k ∧ NatB 68 w' u' (x % y) j ∧ Below w.heap.size w w' := by
  obtain ⟨ad, len, cap, rfl, xs, hs, ho, hnm, hx⟩ := h.shape
  obtain ⟨ad', len', cap', rfl, ys, hs', ho', hnm', hy'⟩ := h'.shape
  have hlx := hs.len
  have hly := hs'.len
  have hbx := val_lt ho
  rw [hx, hlx] at hbx
  have hl3 : 2 < len := by
    rcases Nat.lt_or_ge 2 len with e | e
    · exact e
    · have := pw_le e; rw [show pw 2 = 18446744073709551616 from rfl] at this; omega
  have hl1 : len' = 1 := by
    have h1 := norm_len hnm' (m := 1) (by rw [hy']; exact hy2)
    rcases Nat.eq_zero_or_pos len' with e | e
    · rw [e] at hly; rw [List.length_eq_zero_iff.1 hly] at hy'; rw [val_nil] at hy'; omega
    · omega
  subst hl1
  have hyl : lim ys 0 = y := by
    have h1 := val_take_succ (xs := ys) (i := 0) (by omega)
    rw [List.take_of_length_le (by omega), List.take_zero, val_nil, pw_zero, hy'] at h1
    omega
  have hl : len ≤ k := by have := norm_len hnm (m := k) (by rw [hx]; exact h.2); omega
  obtain ⟨c, hc, hc0⟩ : ∃ c : Int, cmpI x y = c ∧ 0 ≤ c ∧ c ≤ 1 := by
    refine ⟨_, rfl, ?_⟩
    unfold cmpI
    repeat' split
    all_goals omega
  obtain ⟨bY, oY, e1, hcy, _⟩ := hs'.cell (i := 0) (by omega)
  subst e1
  rw [hyl] at hcy
  have hqk : x / y < pw k := Nat.lt_of_le_of_lt (Nat.div_le_self _ _) h.2
  have hmy := Nat.mod_lt x hy0
  have hrj : x % y < pw j := Nat.lt_trans hmy h'.2
  obtain ⟨r, hr⟩ : ∃ r, x % y = r := ⟨_, rfl⟩
  rw [hr] at hmy hrj ⊢
  have HQK := Lib.hid hqk
  have HRJ := Lib.hid hrj
  have HR := Lib.hid hr
  have H := Lib.hid h
  have H' := Lib.hid h'
  have HS := Lib.hid hs
  have HX := Lib.hid hx
  have HLX := Lib.hid hlx
  have HCY := Lib.hid hcy
  clear h h' hs hs' hnm hnm' hx hy' hlx hly hbx hx2 hyl hqk hrj hr hcy ho'
  go_enter Tryd.func25, Tryd.ntmps25
  go_wp2_with fail
  have hh := heldN4 (w := w) (c0 := #[Value.slice ad len cap]) (t0 := 25) (c1 := #[Value.slice (some ⟨bY, oY, none⟩) 1 cap']) (t1 := 25) (c2 := #[Value.slice none 0 0]) (t2 := 25) (c3 := #[Value.slice none 0 0]) (t3 := 25)
  have hbX := bel_alloc4 w (Obj.cells #[Value.slice ad len cap] 25) (Obj.cells #[Value.slice (some ⟨bY, oY, none⟩) 1 cap'] 25) (Obj.cells #[Value.slice none 0 0] 25) (Obj.cells #[Value.slice none 0 0] 25)
  generalize (((w.alloc (Obj.cells #[Value.slice ad len cap] 25)).alloc (Obj.cells #[Value.slice (some ⟨bY, oY, none⟩) 1 cap'] 25)).alloc (Obj.cells #[Value.slice none 0 0] 25)).alloc (Obj.cells #[Value.slice none 0 0] 25) = X at *
  have hx0 := cell0 hh.1
  have hd0 := cell0 hh.2.1
  have HS0 := Lib.hid (Slot.of (n := 1) hh.2.2.1 rfl)
  have HS1 := Lib.hid (Slot.of (n := 1) hh.2.2.2.1 rfl)
  have HBX := Lib.hid hbX
  have HX0 := Lib.hid hx0
  have HD0 := Lib.hid hd0
  clear hh hbX hx0 hd0
  refine (cmpB _ _ x y k j _ (H.out.below HBX.out) (H'.out.below HBX.out) hk hj).mono ?_
  rintro e w1 ⟨rfl, hb1⟩
  have hx1 := cell_below HX0.out hb1
  have hd1 := cell_below HD0.out hb1
  have HS0 := Lib.hid (HS0.out.below hb1)
  have HS1 := Lib.hid (HS1.out.below hb1)
  have HB1 := Lib.hid (bel_on HBX.out hb1)
  rw [hc]
  clear hb1
  have hcn : decide (c < 0) = false := decide_eq_false (by omega)
  go_wp2_with fail
  have HX1 := Lib.hid hx1
  have HD1 := Lib.hid hd1
  clear hx1 hd1
  refine (cloneSl_any _ xs _ (HS.out.below HB1.out) (by have := HLX.out; omega)).mono ?_
  rintro e w2 ⟨v2, rfl, how, hb2⟩
  obtain ⟨g, cap2, rfl, hg, hg2⟩ : ∃ g cap2, v2 = .slice (some ⟨g, 0, none⟩) len cap2 ∧ w1.heap.size ≤ g ∧ g < w2.heap.size := by
    rcases how.shape with ⟨_, e⟩ | ⟨g, cap2, e, h1, h2, _⟩
    · have := HLX.out; rw [e] at this; simp at this; omega
    · exact ⟨g, cap2, by rw [← HLX.out]; exact e, h1, h2⟩
  have hd2 := cell_below HD1.out hb2
  have hcy2 := cell_below HCY.out (bel_on HB1.out hb2)
  have HOW := Lib.hid how
  have HB2 := Lib.hid hb2
  clear how hb2
  have hcy3 : w2.cell? ⟨bY, oY, none⟩ = some (.int .u32 (y : Nat)) := by simpa using hcy2
  go_wp2_with fail
  refine (divLimb_any g len cap2 xs y _ _ HOW.out HLX.out.symm ho hy0 hy2 (by omega)).mono ?_
  rintro e w3 ⟨zs, rfl, how3, hzl, okz, hzv, hk3⟩
  have hb3 : Below w1.heap.size w1 w3 := HB2.out.trans (hk3.below (B := w1.heap.size) (HB2.out.size) (fun k e => by omega))
  rw [HX.out] at hzv
  rw [HX.out, HR.out]
  have HZ := Lib.hid how3.sl
  have HZV := Lib.hid hzv
  have HT0 := Lib.hid (HS0.out.below hb3)
  have HT1 := Lib.hid (HS1.out.below hb3)
  have HB3 := Lib.hid (bel_on HB1.out hb3)
  clear how3 hzv hk3 hb3 hd2 hcy2 hcy3
  go_wp2_with fail
  refine (wrapB _ zs (x / y) k _ HZ.out okz (by omega) HZV.out HQK.out).mono ?_
  rintro e w4 ⟨vq', rfl, hn3, hb4⟩
  obtain ⟨adQ, lenQ, capQ, rfl⟩ := hn3.shape2
  have HN3 := Lib.hid hn3
  have HT0 := Lib.hid (HT0.out.below hb4)
  have HT1 := Lib.hid (HT1.out.below hb4)
  have HB4 := Lib.hid (bel_on HB3.out hb4)
  clear hn3 hb4
  go_wp2_with fail
  refine (ofB r _ (by omega)).mono ?_
  rintro e w5 ⟨vr', rfl, hn5, hb5⟩
  obtain ⟨adR, lenR, capR, rfl⟩ := hn5.shape2
  have HN5 := Lib.hid (show NatB 68 w5 (.agg #[.slice adR lenR capR]) r j from ⟨hn5.1, HRJ.out⟩)
  have HNQ := Lib.hid (HN3.out.below hb5)
  have HT0 := Lib.hid (HT0.out.below hb5)
  have HT1 := Lib.hid (HT1.out.below hb5)
  have HB5 := Lib.hid (bel_on HB4.out hb5)
  obtain ⟨z0, hz0, hf0⟩ := HT0.out.one
  obtain ⟨z1, hz1, hf1⟩ := (HT1.out.set (w.heap.size + 1 + 1) 0 (.slice adQ lenQ capQ)).one
  clear hn5 hb5
  have HF := Lib.hid (fin_nat2 HNQ.out HN5.out HT0.out HT1.out (by decide) (by decide) HB5.out (by omega) (by omega) (by omega) rfl)
  go_wp2_with fail
  refine bodyPost_ret (v := .tuple #[.agg #[.slice adQ lenQ capQ], .agg #[.slice adR lenR capR], .bool true]) (by simp [results, Tryd.results25, go_sem, HF.out.2.2.2.1, HF.out.2.2.2.2]) rfl ⟨_, _, rfl, HF.out.1, HF.out.2.1, HF.out.2.2.1⟩

/-- Div of all numbers, b not 0. -/
theorem divTells (x y k j : Nat) (hk : k ≤ 10000000) (hj : j ≤ 10000000) (hy : y ≠ 0) : DivTells x y k j := by
  intro w v u h h'
  have hq : x / y < pw k := Nat.lt_of_le_of_lt (Nat.div_le_self _ _) h.2
  have hr : x % y < pw j := Nat.lt_trans (Nat.mod_lt _ (Nat.pos_of_ne_zero hy)) h'.2
  by_cases hs : x < 18446744073709551616 ∧ y < 18446744073709551616
  · exact (divSmall_any v u x y w ⟨h.1, hs.1⟩ ⟨h'.1, hs.2⟩ hy).mono fun _ _ ⟨v', u', e, h1, h2, h3⟩ => ⟨v', u', e, ⟨h1.1, hq⟩, ⟨h2.1, hr⟩, h3⟩
  · rcases Nat.lt_or_ge x y with h1 | h1
    · exact divLess_any v u x y k j w h h' hk hj h1 (by omega)
    · rcases Nat.lt_or_ge y 4294967296 with h2 | h2
      · exact divOne_any v u x y k j w h h' hk hj (by omega) (by omega) h2
      · exact divBig_any v u x y k j w h h' hk hj h1 (by omega) h2

end Go.Proofs.YtpchnejdbmoicaaDoor
