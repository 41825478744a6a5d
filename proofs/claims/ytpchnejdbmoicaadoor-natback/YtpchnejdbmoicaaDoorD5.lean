/- nat's Div of a lesser by a greater. -/
import Derived.Test.YtpchnejdbmoicaaDoorD4
import Derived.Test.YtpchnejdbmoicaaDoorT1
namespace Go.Proofs.YtpchnejdbmoicaaDoor
open Go.RowKit Cin

set_option maxRecDepth 100000 in
set_option maxHeartbeats 2000000 in
/-- clone: the same number in memory of its own. -/
theorem cloneB (v : Value) (x k : Nat) (w : World) (h : NatB 68 w v x k) (hk : k ≤ 10000000) :
    Calls Tryd.prog 59 #[v] w fun e w' => ∃ v', e = .returned v' ∧ NatB 68 w' v' x k ∧ Below w.heap.size w w' := by
  obtain ⟨ad, len, cap, rfl, xs, hs, ho, hnm, hx⟩ := h.shape
  have hlx := hs.len
  have hl : len ≤ k := by have := norm_len hnm (m := k) (by rw [hx]; exact h.2); omega
  have H := Lib.hid h.2
  have HS := Lib.hid hs
  have HNM := Lib.hid hnm
  have HX := Lib.hid hx
  have HLX := Lib.hid hlx
  clear h hs hnm hx hlx
  go_enter Tryd.func59, Tryd.ntmps59
  go_wp2_with fail
  have hh := heldN2 (w := w) (c0 := #[Value.slice ad len cap]) (t0 := 25) (c1 := #[Value.slice none 0 0]) (t1 := 25)
  have hbX := bel_alloc2 w (Obj.cells #[Value.slice ad len cap] 25) (Obj.cells #[Value.slice none 0 0] 25)
  generalize (w.alloc (Obj.cells #[Value.slice ad len cap] 25)).alloc (Obj.cells #[Value.slice none 0 0] 25) = X at *
  have HS0 := Lib.hid (Slot.of (n := 1) hh.2.1 rfl)
  have HBX := Lib.hid hbX
  clear hh hbX
  refine (cloneSl_any _ xs _ (HS.out.below HBX.out) (by have := HLX.out; omega)).mono ?_
  rintro e w1 ⟨v', rfl, how, hb1⟩
  obtain ⟨adR, capR, ev, _, _⟩ := how.sl.shape
  rw [HLX.out] at ev
  subst ev
  have HO := Lib.hid how.sl
  have HT := Lib.hid (HS0.out.below hb1)
  have HB1 := Lib.hid (bel_on HBX.out hb1)
  obtain ⟨z0, hz0, hf0⟩ := HT.out.one
  have HN := Lib.hid (show NatB 68 w1 (.agg #[.slice adR len capR]) x k from ⟨⟨_, rfl, xs, HO.out, ho, HNM.out, HX.out⟩, H.out⟩)
  have HF := Lib.hid (HN.out.slot HT.out (by decide) 0 (.slice adR len capR))
  have HC := Lib.hid (HT.out.set1 (.slice adR len capR))
  clear how hb1
  go_wp2_with fail
  refine bodyPost_ret (v := .agg #[.slice adR len capR]) (by simp [results, Tryd.results59, go_sem, HC.out]) rfl ⟨_, rfl, HF.out, bel_set1 HB1.out (by omega)⟩

set_option maxRecDepth 100000 in
set_option maxHeartbeats 4000000 in
/-- Div of a lesser by a greater, the greater of more than two words. -/
theorem divLess_any (v u : Value) (x y k j : Nat) (w : World) (h : NatB 68 w v x k) (h' : NatB 68 w u y j) (hk : k ≤ 10000000) (hj : j ≤ 10000000) (hxy : x < y) (hy2 : 18446744073709551616 ≤ y) :
    Calls Tryd.prog 25 #[v, u] w fun e w' => ∃ v' u', e = .returned (.tuple #[v', u', .bool true]) ∧ NatB 68 w' v' (x / y) k ∧ NatB 68 w' u' (x % y) j ∧ Below w.heap.size w w' := by
  rw [Nat.div_eq_of_lt hxy, Nat.mod_eq_of_lt hxy]
  obtain ⟨ad, len, cap, rfl, xs, hs, ho, hnm, hx⟩ := h.shape
  obtain ⟨ad', len', cap', rfl, ys, hs', ho', hnm', hy'⟩ := h'.shape
  have hly := hs'.len
  have hby := val_lt ho'
  rw [hy', hly] at hby
  have hl3 : 2 < len' := by
    rcases Nat.lt_or_ge 2 len' with e | e
    · exact e
    · have := pw_le e; rw [show pw 2 = 18446744073709551616 from rfl] at this; omega
  have hl : len ≤ k := by have := hs.len; have := norm_len hnm (m := k) (by rw [hx]; exact h.2); omega
  have hl' : len' ≤ j := by have := norm_len hnm' (m := j) (by rw [hy']; exact h'.2); omega
  have hlb : ((len' : Int) == 0) = false := beq_eq_false_iff_ne.2 (by omega)
  have hc : cmpI x y = -1 := by unfold cmpI; rw [if_pos hxy]
  have H := Lib.hid h
  have H' := Lib.hid h'
  have HXJ := Lib.hid (show NatB 68 w (.agg #[.slice ad len cap]) x j from ⟨h.1, Nat.lt_trans hxy h'.2⟩)
  clear h h' hs hs' hnm hnm' hx hy' hly hby hy2 ho ho'
  by_cases hl2 : len ≤ 2
  · go_enter Tryd.func25, Tryd.ntmps25
    go_wp2_with fail
    have hh := heldN4 (w := w) (c0 := #[Value.slice ad len cap]) (t0 := 25) (c1 := #[Value.slice ad' len' cap']) (t1 := 25) (c2 := #[Value.slice none 0 0]) (t2 := 25) (c3 := #[Value.slice none 0 0]) (t3 := 25)
    have hbX := bel_alloc4 w (Obj.cells #[Value.slice ad len cap] 25) (Obj.cells #[Value.slice ad' len' cap'] 25) (Obj.cells #[Value.slice none 0 0] 25) (Obj.cells #[Value.slice none 0 0] 25)
    generalize (((w.alloc (Obj.cells #[Value.slice ad len cap] 25)).alloc (Obj.cells #[Value.slice ad' len' cap'] 25)).alloc (Obj.cells #[Value.slice none 0 0] 25)).alloc (Obj.cells #[Value.slice none 0 0] 25) = X at *
    have hx0 := cell0 hh.1
    have hd0 := cell0 hh.2.1
    have HS0 := Lib.hid (Slot.of (n := 1) hh.2.2.1 rfl)
    have HS1 := Lib.hid (Slot.of (n := 1) hh.2.2.2.1 rfl)
    have HBX := Lib.hid hbX
    have HX0 := Lib.hid hx0
    have HD0 := Lib.hid hd0
    clear hh hbX hx0 hd0
    refine (cmpB _ _ x y k j _ (H.out.below HBX.out) (H'.out.below HBX.out) hk hj).mono ?_
    rintro e w1 ⟨rfl, hb1⟩
    have hx1 := cell_below HX0.out hb1
    have hd1 := cell_below HD0.out hb1
    have HS0 := Lib.hid (HS0.out.below hb1)
    have HS1 := Lib.hid (HS1.out.below hb1)
    have HB1 := Lib.hid (bel_on HBX.out hb1)
    rw [hc]
    clear hb1
    go_wp2_with fail
    refine (cloneB _ x j _ (HXJ.out.below HB1.out) hj).mono ?_
    rintro e w4 ⟨vr', rfl, hn4, hb4⟩
    obtain ⟨adR, lenR, capR, rfl⟩ := hn4.shape2
    have HN4 := Lib.hid hn4
    have HNQ := Lib.hid (show NatB 68 w4 (.agg #[.slice none 0 0]) 0 k from ⟨⟨_, rfl, [], Sl.nil _ _ _, Ok.nil, .inl rfl, rfl⟩, pw_pos k⟩)
    have HT0 := Lib.hid (HS0.out.below hb4)
    have HT1 := Lib.hid (HS1.out.below hb4)
    have HB4 := Lib.hid (bel_on HB1.out hb4)
    obtain ⟨z0, hz0, hf0⟩ := HT0.out.one
    obtain ⟨z1, hz1, hf1⟩ := (HT1.out.set (w.heap.size + 1 + 1) 0 (.slice none 0 0)).one
    clear hn4 hb4
    have HF := Lib.hid (fin_nat2 HNQ.out HN4.out HT0.out HT1.out (by decide) (by decide) HB4.out (by omega) (by omega) (by omega) rfl)
    go_wp2_with fail
    refine bodyPost_ret (v := .tuple #[.agg #[.slice none 0 0], .agg #[.slice adR lenR capR], .bool true]) (by simp [results, Tryd.results25, go_sem, HF.out.2.2.2.1, HF.out.2.2.2.2]) rfl ⟨_, _, rfl, HF.out.1, HF.out.2.1, HF.out.2.2.1⟩
  · go_enter Tryd.func25, Tryd.ntmps25
    go_wp2_with fail
    have hh := heldN4 (w := w) (c0 := #[Value.slice ad len cap]) (t0 := 25) (c1 := #[Value.slice ad' len' cap']) (t1 := 25) (c2 := #[Value.slice none 0 0]) (t2 := 25) (c3 := #[Value.slice none 0 0]) (t3 := 25)
    have hbX := bel_alloc4 w (Obj.cells #[Value.slice ad len cap] 25) (Obj.cells #[Value.slice ad' len' cap'] 25) (Obj.cells #[Value.slice none 0 0] 25) (Obj.cells #[Value.slice none 0 0] 25)
    generalize (((w.alloc (Obj.cells #[Value.slice ad len cap] 25)).alloc (Obj.cells #[Value.slice ad' len' cap'] 25)).alloc (Obj.cells #[Value.slice none 0 0] 25)).alloc (Obj.cells #[Value.slice none 0 0] 25) = X at *
    have hx0 := cell0 hh.1
    have hd0 := cell0 hh.2.1
    have HS0 := Lib.hid (Slot.of (n := 1) hh.2.2.1 rfl)
    have HS1 := Lib.hid (Slot.of (n := 1) hh.2.2.2.1 rfl)
    have HBX := Lib.hid hbX
    have HX0 := Lib.hid hx0
    have HD0 := Lib.hid hd0
    clear hh hbX hx0 hd0
    refine (cmpB _ _ x y k j _ (H.out.below HBX.out) (H'.out.below HBX.out) hk hj).mono ?_
    rintro e w1 ⟨rfl, hb1⟩
    have hx1 := cell_below HX0.out hb1
    have hd1 := cell_below HD0.out hb1
    have HS0 := Lib.hid (HS0.out.below hb1)
    have HS1 := Lib.hid (HS1.out.below hb1)
    have HB1 := Lib.hid (bel_on HBX.out hb1)
    rw [hc]
    clear hb1
    go_wp2_with fail
    refine (cloneB _ x j _ (HXJ.out.below HB1.out) hj).mono ?_
    rintro e w4 ⟨vr', rfl, hn4, hb4⟩
    obtain ⟨adR, lenR, capR, rfl⟩ := hn4.shape2
    have HN4 := Lib.hid hn4
    have HNQ := Lib.hid (show NatB 68 w4 (.agg #[.slice none 0 0]) 0 k from ⟨⟨_, rfl, [], Sl.nil _ _ _, Ok.nil, .inl rfl, rfl⟩, pw_pos k⟩)
    have HT0 := Lib.hid (HS0.out.below hb4)
    have HT1 := Lib.hid (HS1.out.below hb4)
    have HB4 := Lib.hid (bel_on HB1.out hb4)
    obtain ⟨z0, hz0, hf0⟩ := HT0.out.one
    obtain ⟨z1, hz1, hf1⟩ := (HT1.out.set (w.heap.size + 1 + 1) 0 (.slice none 0 0)).one
    clear hn4 hb4
    have HF := Lib.hid (fin_nat2 HNQ.out HN4.out HT0.out HT1.out (by decide) (by decide) HB4.out (by omega) (by omega) (by omega) rfl)
    go_wp2_with fail
    refine bodyPost_ret (v := .tuple #[.agg #[.slice none 0 0], .agg #[.slice adR lenR capR], .bool true]) (by simp [results, Tryd.results25, go_sem, HF.out.2.2.2.1, HF.out.2.2.2.2]) rfl ⟨_, _, rfl, HF.out.1, HF.out.2.1, HF.out.2.2.1⟩

end Go.Proofs.YtpchnejdbmoicaaDoor
