/- nat's Div of long numbers. -/
import Derived.Test.YtfohgkabmdhhaaaGreatDoorYn
import Derived.Test.YtfohgkabmdhhaaaGreatDoorYg
import Derived.Test.YtfohgkabmdhhaaaGreatDoorYi
import Derived.Test.YtfohgkabmdhhaaaGreatDoorYh
namespace Go.Proofs.YtfohgkabmdhhaaaGreatDoor
open Go.RowKit Cin

theorem wrapB (v : Value) (xs : List Nat) (n k : Nat) (w : World) (h : Sl 146 .u32 w v xs) (ho : Ok xs) (hb : xs.length ≤ 1000000000000) (hn : val xs = n) (hk : n < pw k) :
    Calls Tryz.prog 166 #[v] w fun e w' => ∃ v', e = .returned v' ∧ NatB 146 w' v' n k ∧ Below w.heap.size w w' :=
  (wrap_any v xs w h ho hb).mono fun _ _ ⟨v', e, h1, h2⟩ => ⟨v', e, ⟨by rw [← hn]; exact h1, hk⟩, h2⟩

set_option maxRecDepth 100000 in
set_option maxHeartbeats 4000000 in
/-- Div, long by long. -/
theorem divBig_any (v u : Value) (x y k j : Nat) (w : World) (h : NatB 146 w v x k) (h' : NatB 146 w u y j) (hk : k ≤ 10000000) (hj : j ≤ 10000000) (hxy : y ≤ x) (hx2 : 18446744073709551616 ≤ x) (hy2 : 4294967296 ≤ y) :
    Calls Tryz.prog 152 #[v, u] w fun e w' => ∃ v' u', e = .returned (.tuple #[v', u', .bool true]) ∧ NatB 146 w' v' (x / y) k ∧ NatB 146 w' u' (x % y) j ∧ Below w.heap.size w w' := by
  obtain ⟨ad, len, cap, rfl, xs, hs, ho, hnm, hx⟩ := h.shape
  obtain ⟨ad', len', cap', rfl, ys, hs', ho', hnm', hy'⟩ := h'.shape
  have hlx := hs.len
  have hly := hs'.len
  have hbx := val_lt ho
  have hby := val_lt ho'
  rw [hx, hlx] at hbx
  rw [hy', hly] at hby
  have hl3 : 2 < len := by
    rcases Nat.lt_or_ge 2 len with e | e
    · exact e
    · have := pw_le e; rw [show pw 2 = 18446744073709551616 from rfl] at this; omega
  have hl2 : 1 < len' := by
    rcases Nat.lt_or_ge 1 len' with e | e
    · exact e
    · have := pw_le e; rw [show pw 1 = 4294967296 from rfl] at this; omega
  have hl : len ≤ k := by have := norm_len hnm (m := k) (by rw [hx]; exact h.2); omega
  have hl' : len' ≤ j := by have := norm_len hnm' (m := j) (by rw [hy']; exact h'.2); omega
  have hll : len' ≤ len := by have := norm_len hnm' (m := len) (by rw [hy']; omega); omega
  have htop : lim ys (ys.length - 1) ≠ 0 := (by rcases hnm' with e | e; (rw [e] at hly; simp at hly; omega); exact e)
  have hlb : ((len' : Int) == 0) = false := beq_eq_false_iff_ne.2 (by omega)
  have hlb1 : ((len' : Int) == 1) = false := beq_eq_false_iff_ne.2 (by omega)
  obtain ⟨c, hc, hc0⟩ : ∃ c : Int, cmpI x y = c ∧ 0 ≤ c ∧ c ≤ 1 := by
    refine ⟨_, rfl, ?_⟩
    unfold cmpI
    repeat' split
    all_goals omega
  have hy0 : 0 < y := by omega
  have H := Lib.hid h
  have H' := Lib.hid h'
  have HS := Lib.hid hs
  have HS' := Lib.hid hs'
  have HT := Lib.hid htop
  have HX := Lib.hid hx
  have HY := Lib.hid hy'
  have HLX := Lib.hid hlx
  have HLY := Lib.hid hly
  clear h h' hs hs' hnm hnm' hx hy' hlx hly htop hbx hby hx2 hy2
  go_enter Tryz.func152, Tryz.ntmps152
  go_wp2_with fail
  have hh := heldN4 (w := w) (c0 := #[Value.slice ad len cap]) (t0 := 27) (c1 := #[Value.slice ad' len' cap']) (t1 := 27) (c2 := #[Value.slice none 0 0]) (t2 := 27) (c3 := #[Value.slice none 0 0]) (t3 := 27)
  have hbX := bel_alloc4 w (Obj.cells #[Value.slice ad len cap] 27) (Obj.cells #[Value.slice ad' len' cap'] 27) (Obj.cells #[Value.slice none 0 0] 27) (Obj.cells #[Value.slice none 0 0] 27)
  generalize (((w.alloc (Obj.cells #[Value.slice ad len cap] 27)).alloc (Obj.cells #[Value.slice ad' len' cap'] 27)).alloc (Obj.cells #[Value.slice none 0 0] 27)).alloc (Obj.cells #[Value.slice none 0 0] 27) = X at *
  have hx0 := cell0 hh.1
  have hd0 := cell0 hh.2.1
  have HS0 := Lib.hid (Slot.of (n := 1) hh.2.2.1 rfl)
  have HS1 := Lib.hid (Slot.of (n := 1) hh.2.2.2.1 rfl)
  have HBX := Lib.hid hbX
  have HX0 := Lib.hid hx0
  have HD0 := Lib.hid hd0
  clear hh hbX hx0 hd0
  refine (cmpB _ _ x y k j _ (H.out.below HBX.out) (H'.out.below HBX.out) hk hj).mono ?_
  rintro e w1 ⟨rfl, hb1⟩
  have hx1 := cell_below HX0.out hb1
  have hd1 := cell_below HD0.out hb1
  have HS0 := Lib.hid (HS0.out.below hb1)
  have HS1 := Lib.hid (HS1.out.below hb1)
  have HB1 := Lib.hid (bel_on HBX.out hb1)
  rw [hc]
  clear hb1
  have hcn : decide (c < 0) = false := decide_eq_false (by omega)
  go_wp2_with fail
  have HX1 := Lib.hid hx1
  have HD1 := Lib.hid hd1
  clear hx1 hd1
  refine (divideLong_any _ _ xs ys _ (HS.out.below HB1.out) (HS'.out.below HB1.out) ho ho' (by have := HLY.out; omega) (by have := HLY.out; have := HLX.out; omega) (by have := HLX.out; omega) HT.out).mono ?_
  rintro e w2 ⟨vq, vr, qs, rs, rfl, hq, hr, okq, okr, hqv, hrv, hql, hrl, hb2⟩
  rw [HX.out, HY.out] at hqv hrv
  have HX2 := Lib.hid (cell_below HX1.out hb2)
  have HD2 := Lib.hid (cell_below HD1.out hb2)
  have HS0 := Lib.hid (HS0.out.below hb2)
  have HS1 := Lib.hid (HS1.out.below hb2)
  have HB2 := Lib.hid (bel_on HB1.out hb2)
  have HQ := Lib.hid hq
  have HR := Lib.hid hr.sl
  have HQV := Lib.hid hqv
  have HRV := Lib.hid hrv
  have hqb : qs.length ≤ 1000000000000 := by have := HLX.out; omega
  have hrb : rs.length ≤ 1000000000000 := by have := HLY.out; omega
  have hqk : x / y < pw k := Nat.lt_of_le_of_lt (Nat.div_le_self _ _) H.out.2
  have hrj : x % y < pw j := Nat.lt_trans (Nat.mod_lt _ hy0) H'.out.2
  have HQK := Lib.hid hqk
  have HRJ := Lib.hid hrj
  clear hb2 hq hr hqv hrv hql hrl hqk hrj
  go_wp2_with fail
  refine (wrapB vq qs (x / y) k _ HQ.out okq hqb HQV.out HQK.out).mono ?_
  rintro e w3 ⟨vq', rfl, hn3, hb3⟩
  obtain ⟨adQ, lenQ, capQ, rfl⟩ := hn3.shape2
  have HR3 := Lib.hid (HR.out.below hb3)
  have HN3 := Lib.hid hn3
  have HS0 := Lib.hid (HS0.out.below hb3)
  have HS1 := Lib.hid (HS1.out.below hb3)
  have HB3 := Lib.hid (bel_on HB2.out hb3)
  clear hn3 hb3
  go_wp2_with fail
  refine (wrapB vr rs (x % y) j _ HR3.out okr hrb HRV.out HRJ.out).mono ?_
  rintro e w4 ⟨vr', rfl, hn4, hb4⟩
  obtain ⟨adR, lenR, capR, rfl⟩ := hn4.shape2
  have HN4 := Lib.hid hn4
  have HNQ := Lib.hid (HN3.out.below hb4)
  have HT0 := Lib.hid (HS0.out.below hb4)
  have HT1 := Lib.hid (HS1.out.below hb4)
  have HB4 := Lib.hid (bel_on HB3.out hb4)
  obtain ⟨z0, hz0, hf0⟩ := HT0.out.one
  obtain ⟨z1, hz1, hf1⟩ := (HT1.out.set (w.heap.size + 1 + 1) 0 (.slice adQ lenQ capQ)).one
  clear hn4 hb4
  have HF := Lib.hid (fin_nat2 HNQ.out HN4.out HT0.out HT1.out (by decide) (by decide) HB4.out (by omega) (by omega) (by omega) rfl)
  go_wp2_with fail
  refine bodyPost_ret (v := .tuple #[.agg #[.slice adQ lenQ capQ], .agg #[.slice adR lenR capR], .bool true]) (by simp [results, Tryz.results152, go_sem, HF.out.2.2.2.1, HF.out.2.2.2.2]) rfl ⟨_, _, rfl, HF.out.1, HF.out.2.1, HF.out.2.2.1⟩

end Go.Proofs.YtfohgkabmdhhaaaGreatDoor
/- nat's Div of a lesser by a greater. -/
namespace Go.Proofs.YtfohgkabmdhhaaaGreatDoor
open Go.RowKit Cin

set_option maxRecDepth 100000 in
set_option maxHeartbeats 2000000 in
/-- clone: the same number in memory of its own. -/
theorem cloneB (v : Value) (x k : Nat) (w : World) (h : NatB 146 w v x k) (hk : k ≤ 10000000) :
    Calls Tryz.prog 181 #[v] w fun e w' => ∃ v', e = .returned v' ∧ NatB 146 w' v' x k ∧ Below w.heap.size w w' := by
  obtain ⟨ad, len, cap, rfl, xs, hs, ho, hnm, hx⟩ := h.shape
  have hlx := hs.len
  have hl : len ≤ k := by have := norm_len hnm (m := k) (by rw [hx]; exact h.2); omega
  have H := Lib.hid h.2
  have HS := Lib.hid hs
  have HNM := Lib.hid hnm
  have HX := Lib.hid hx
  have HLX := Lib.hid hlx
  clear h hs hnm hx hlx
  go_enter Tryz.func181, Tryz.ntmps181
  go_wp2_with fail
  have hh := heldN2 (w := w) (c0 := #[Value.slice ad len cap]) (t0 := 27) (c1 := #[Value.slice none 0 0]) (t1 := 27)
  have hbX := bel_alloc2 w (Obj.cells #[Value.slice ad len cap] 27) (Obj.cells #[Value.slice none 0 0] 27)
  generalize (w.alloc (Obj.cells #[Value.slice ad len cap] 27)).alloc (Obj.cells #[Value.slice none 0 0] 27) = X at *
  have HS0 := Lib.hid (Slot.of (n := 1) hh.2.1 rfl)
  have HBX := Lib.hid hbX
  clear hh hbX
  refine (cloneSl_any _ xs _ (HS.out.below HBX.out) (by have := HLX.out; omega)).mono ?_
  rintro e w1 ⟨v', rfl, how, hb1⟩
  obtain ⟨adR, capR, ev, _, _⟩ := how.sl.shape
  rw [HLX.out] at ev
  subst ev
  have HO := Lib.hid how.sl
  have HT := Lib.hid (HS0.out.below hb1)
  have HB1 := Lib.hid (bel_on HBX.out hb1)
  obtain ⟨z0, hz0, hf0⟩ := HT.out.one
  have HN := Lib.hid (show NatB 146 w1 (.agg #[.slice adR len capR]) x k from ⟨⟨_, rfl, xs, HO.out, ho, HNM.out, HX.out⟩, H.out⟩)
  have HF := Lib.hid (HN.out.slot HT.out (by decide) 0 (.slice adR len capR))
  have HC := Lib.hid (HT.out.set1 (.slice adR len capR))
  clear how hb1
  go_wp2_with fail
  refine bodyPost_ret (v := .agg #[.slice adR len capR]) (by simp [results, Tryz.results181, go_sem, HC.out]) rfl ⟨_, rfl, HF.out, bel_set1 HB1.out (by omega)⟩

set_option maxRecDepth 100000 in
set_option maxHeartbeats 4000000 in
/-- Div of a lesser by a greater, the greater of more than two words. -/
theorem divLess_any (v u : Value) (x y k j : Nat) (w : World) (h : NatB 146 w v x k) (h' : NatB 146 w u y j) (hk : k ≤ 10000000) (hj : j ≤ 10000000) (hxy : x < y) (hy2 : 18446744073709551616 ≤ y) :
    Calls Tryz.prog 152 #[v, u] w fun e w' => ∃ v' u', e = .returned (.tuple #[v', u', .bool true]) ∧ NatB 146 w' v' (x / y) k ∧ NatB 146 w' u' (x % y) j ∧ Below w.heap.size w w' := by
  rw [Nat.div_eq_of_lt hxy, Nat.mod_eq_of_lt hxy]
  obtain ⟨ad, len, cap, rfl, xs, hs, ho, hnm, hx⟩ := h.shape
  obtain ⟨ad', len', cap', rfl, ys, hs', ho', hnm', hy'⟩ := h'.shape
  have hly := hs'.len
  have hby := val_lt ho'
  rw [hy', hly] at hby
  have hl3 : 2 < len' := by
    rcases Nat.lt_or_ge 2 len' with e | e
    · exact e
    · have := pw_le e; rw [show pw 2 = 18446744073709551616 from rfl] at this; omega
  have hl : len ≤ k := by have := hs.len; have := norm_len hnm (m := k) (by rw [hx]; exact h.2); omega
  have hl' : len' ≤ j := by have := norm_len hnm' (m := j) (by rw [hy']; exact h'.2); omega
  have hlb : ((len' : Int) == 0) = false := beq_eq_false_iff_ne.2 (by omega)
  have hc : cmpI x y = -1 := by unfold cmpI; rw [if_pos hxy]
  have H := Lib.hid h
  have H' := Lib.hid h'
  have HXJ := Lib.hid (show NatB 146 w (.agg #[.slice ad len cap]) x j from ⟨h.1, Nat.lt_trans hxy h'.2⟩)
  clear h h' hs hs' hnm hnm' hx hy' hly hby hy2 ho ho'
  by_cases hl2 : len ≤ 2
  · go_enter Tryz.func152, Tryz.ntmps152
    go_wp2_with fail
    have hh := heldN4 (w := w) (c0 := #[Value.slice ad len cap]) (t0 := 27) (c1 := #[Value.slice ad' len' cap']) (t1 := 27) (c2 := #[Value.slice none 0 0]) (t2 := 27) (c3 := #[Value.slice none 0 0]) (t3 := 27)
    have hbX := bel_alloc4 w (Obj.cells #[Value.slice ad len cap] 27) (Obj.cells #[Value.slice ad' len' cap'] 27) (Obj.cells #[Value.slice none 0 0] 27) (Obj.cells #[Value.slice none 0 0] 27)
    generalize (((w.alloc (Obj.cells #[Value.slice ad len cap] 27)).alloc (Obj.cells #[Value.slice ad' len' cap'] 27)).alloc (Obj.cells #[Value.slice none 0 0] 27)).alloc (Obj.cells #[Value.slice none 0 0] 27) = X at *
    have hx0 := cell0 hh.1
    have hd0 := cell0 hh.2.1
    have HS0 := Lib.hid (Slot.of (n := 1) hh.2.2.1 rfl)
    have HS1 := Lib.hid (Slot.of (n := 1) hh.2.2.2.1 rfl)
    have HBX := Lib.hid hbX
    have HX0 := Lib.hid hx0
    have HD0 := Lib.hid hd0
    clear hh hbX hx0 hd0
    refine (cmpB _ _ x y k j _ (H.out.below HBX.out) (H'.out.below HBX.out) hk hj).mono ?_
    rintro e w1 ⟨rfl, hb1⟩
    have hx1 := cell_below HX0.out hb1
    have hd1 := cell_below HD0.out hb1
    have HS0 := Lib.hid (HS0.out.below hb1)
    have HS1 := Lib.hid (HS1.out.below hb1)
    have HB1 := Lib.hid (bel_on HBX.out hb1)
    rw [hc]
    clear hb1
    go_wp2_with fail
    refine (cloneB _ x j _ (HXJ.out.below HB1.out) hj).mono ?_
    rintro e w4 ⟨vr', rfl, hn4, hb4⟩
    obtain ⟨adR, lenR, capR, rfl⟩ := hn4.shape2
    have HN4 := Lib.hid hn4
    have HNQ := Lib.hid (show NatB 146 w4 (.agg #[.slice none 0 0]) 0 k from ⟨⟨_, rfl, [], Sl.nil _ _ _, Ok.nil, .inl rfl, rfl⟩, pw_pos k⟩)
    have HT0 := Lib.hid (HS0.out.below hb4)
    have HT1 := Lib.hid (HS1.out.below hb4)
    have HB4 := Lib.hid (bel_on HB1.out hb4)
    obtain ⟨z0, hz0, hf0⟩ := HT0.out.one
    obtain ⟨z1, hz1, hf1⟩ := (HT1.out.set (w.heap.size + 1 + 1) 0 (.slice none 0 0)).one
    clear hn4 hb4
    have HF := Lib.hid (fin_nat2 HNQ.out HN4.out HT0.out HT1.out (by decide) (by decide) HB4.out (by omega) (by omega) (by omega) rfl)
    go_wp2_with fail
    refine bodyPost_ret (v := .tuple #[.agg #[.slice none 0 0], .agg #[.slice adR lenR capR], .bool true]) (by simp [results, Tryz.results152, go_sem, HF.out.2.2.2.1, HF.out.2.2.2.2]) rfl ⟨_, _, rfl, HF.out.1, HF.out.2.1, HF.out.2.2.1⟩
  · go_enter Tryz.func152, Tryz.ntmps152
    go_wp2_with fail
    have hh := heldN4 (w := w) (c0 := #[Value.slice ad len cap]) (t0 := 27) (c1 := #[Value.slice ad' len' cap']) (t1 := 27) (c2 := #[Value.slice none 0 0]) (t2 := 27) (c3 := #[Value.slice none 0 0]) (t3 := 27)
    have hbX := bel_alloc4 w (Obj.cells #[Value.slice ad len cap] 27) (Obj.cells #[Value.slice ad' len' cap'] 27) (Obj.cells #[Value.slice none 0 0] 27) (Obj.cells #[Value.slice none 0 0] 27)
    generalize (((w.alloc (Obj.cells #[Value.slice ad len cap] 27)).alloc (Obj.cells #[Value.slice ad' len' cap'] 27)).alloc (Obj.cells #[Value.slice none 0 0] 27)).alloc (Obj.cells #[Value.slice none 0 0] 27) = X at *
    have hx0 := cell0 hh.1
    have hd0 := cell0 hh.2.1
    have HS0 := Lib.hid (Slot.of (n := 1) hh.2.2.1 rfl)
    have HS1 := Lib.hid (Slot.of (n := 1) hh.2.2.2.1 rfl)
    have HBX := Lib.hid hbX
    have HX0 := Lib.hid hx0
    have HD0 := Lib.hid hd0
    clear hh hbX hx0 hd0
    refine (cmpB _ _ x y k j _ (H.out.below HBX.out) (H'.out.below HBX.out) hk hj).mono ?_
    rintro e w1 ⟨rfl, hb1⟩
    have hx1 := cell_below HX0.out hb1
    have hd1 := cell_below HD0.out hb1
    have HS0 := Lib.hid (HS0.out.below hb1)
    have HS1 := Lib.hid (HS1.out.below hb1)
    have HB1 := Lib.hid (bel_on HBX.out hb1)
    rw [hc]
    clear hb1
    go_wp2_with fail
    refine (cloneB _ x j _ (HXJ.out.below HB1.out) hj).mono ?_
    rintro e w4 ⟨vr', rfl, hn4, hb4⟩
    obtain ⟨adR, lenR, capR, rfl⟩ := hn4.shape2
    have HN4 := Lib.hid hn4
    have HNQ := Lib.hid (show NatB 146 w4 (.agg #[.slice none 0 0]) 0 k from ⟨⟨_, rfl, [], Sl.nil _ _ _, Ok.nil, .inl rfl, rfl⟩, pw_pos k⟩)
    have HT0 := Lib.hid (HS0.out.below hb4)
    have HT1 := Lib.hid (HS1.out.below hb4)
    have HB4 := Lib.hid (bel_on HB1.out hb4)
    obtain ⟨z0, hz0, hf0⟩ := HT0.out.one
    obtain ⟨z1, hz1, hf1⟩ := (HT1.out.set (w.heap.size + 1 + 1) 0 (.slice none 0 0)).one
    clear hn4 hb4
    have HF := Lib.hid (fin_nat2 HNQ.out HN4.out HT0.out HT1.out (by decide) (by decide) HB4.out (by omega) (by omega) (by omega) rfl)
    go_wp2_with fail
    refine bodyPost_ret (v := .tuple #[.agg #[.slice none 0 0], .agg #[.slice adR lenR capR], .bool true]) (by simp [results, Tryz.results152, go_sem, HF.out.2.2.2.1, HF.out.2.2.2.2]) rfl ⟨_, _, rfl, HF.out.1, HF.out.2.1, HF.out.2.2.1⟩

end Go.Proofs.YtfohgkabmdhhaaaGreatDoor
/- nat's Div by one word, and of all numbers. -/
namespace Go.Proofs.YtfohgkabmdhhaaaGreatDoor
open Go.RowKit Cin

set_option maxRecDepth 100000 in
set_option maxHeartbeats 4000000 in
/-- Div by one word. -/
theorem divOne_any (v u : Value) (x y k j : Nat) (w : World) (h : NatB 146 w v x k) (h' : NatB 146 w u y j) (hk : k ≤ 10000000) (hj : j ≤ 10000000) (hx2 : 18446744073709551616 ≤ x) (hy0 : 0 < y) (hy2 : y < 4294967296) :
    Calls Tryz.prog 152 #[v, u] w fun e w' => ∃ v' u', e = .returned (.tuple #[v', u', .bool true]) ∧ NatB 146 w' v' (x / y) k ∧ NatB 146 w' u' (x % y) j ∧ Below w.heap.size w w' := by
  obtain ⟨ad, len, cap, rfl, xs, hs, ho, hnm, hx⟩ := h.shape
  obtain ⟨ad', len', cap', rfl, ys, hs', ho', hnm', hy'⟩ := h'.shape
  have hlx := hs.len
  have hly := hs'.len
  have hbx := val_lt ho
  rw [hx, hlx] at hbx
  have hl3 : 2 < len := by
    rcases Nat.lt_or_ge 2 len with e | e
    · exact e
    · have := pw_le e; rw [show pw 2 = 18446744073709551616 from rfl] at this; omega
  have hl1 : len' = 1 := by
    have h1 := norm_len hnm' (m := 1) (by rw [hy']; exact hy2)
    rcases Nat.eq_zero_or_pos len' with e | e
    · rw [e] at hly; rw [List.length_eq_zero_iff.1 hly] at hy'; rw [val_nil] at hy'; omega
    · omega
  subst hl1
  have hyl : lim ys 0 = y := by
    have h1 := val_take_succ (xs := ys) (i := 0) (by omega)
    rw [List.take_of_length_le (by omega), List.take_zero, val_nil, pw_zero, hy'] at h1
    omega
  have hl : len ≤ k := by have := norm_len hnm (m := k) (by rw [hx]; exact h.2); omega
  obtain ⟨c, hc, hc0⟩ : ∃ c : Int, cmpI x y = c ∧ 0 ≤ c ∧ c ≤ 1 := by
    refine ⟨_, rfl, ?_⟩
    unfold cmpI
    repeat' split
    all_goals omega
  obtain ⟨bY, oY, e1, hcy, _⟩ := hs'.cell (i := 0) (by omega)
  subst e1
  rw [hyl] at hcy
  have hqk : x / y < pw k := Nat.lt_of_le_of_lt (Nat.div_le_self _ _) h.2
  have hmy := Nat.mod_lt x hy0
  have hrj : x % y < pw j := Nat.lt_trans hmy h'.2
  obtain ⟨r, hr⟩ : ∃ r, x % y = r := ⟨_, rfl⟩
  rw [hr] at hmy hrj ⊢
  have HQK := Lib.hid hqk
  have HRJ := Lib.hid hrj
  have HR := Lib.hid hr
  have H := Lib.hid h
  have H' := Lib.hid h'
  have HS := Lib.hid hs
  have HX := Lib.hid hx
  have HLX := Lib.hid hlx
  have HCY := Lib.hid hcy
  clear h h' hs hs' hnm hnm' hx hy' hlx hly hbx hx2 hyl hqk hrj hr hcy ho'
  go_enter Tryz.func152, Tryz.ntmps152
  go_wp2_with fail
  have hh := heldN4 (w := w) (c0 := #[Value.slice ad len cap]) (t0 := 27) (c1 := #[Value.slice (some ⟨bY, oY, none⟩) 1 cap']) (t1 := 27) (c2 := #[Value.slice none 0 0]) (t2 := 27) (c3 := #[Value.slice none 0 0]) (t3 := 27)
  have hbX := bel_alloc4 w (Obj.cells #[Value.slice ad len cap] 27) (Obj.cells #[Value.slice (some ⟨bY, oY, none⟩) 1 cap'] 27) (Obj.cells #[Value.slice none 0 0] 27) (Obj.cells #[Value.slice none 0 0] 27)
  generalize (((w.alloc (Obj.cells #[Value.slice ad len cap] 27)).alloc (Obj.cells #[Value.slice (some ⟨bY, oY, none⟩) 1 cap'] 27)).alloc (Obj.cells #[Value.slice none 0 0] 27)).alloc (Obj.cells #[Value.slice none 0 0] 27) = X at *
  have hx0 := cell0 hh.1
  have hd0 := cell0 hh.2.1
  have HS0 := Lib.hid (Slot.of (n := 1) hh.2.2.1 rfl)
  have HS1 := Lib.hid (Slot.of (n := 1) hh.2.2.2.1 rfl)
  have HBX := Lib.hid hbX
  have HX0 := Lib.hid hx0
  have HD0 := Lib.hid hd0
  clear hh hbX hx0 hd0
  refine (cmpB _ _ x y k j _ (H.out.below HBX.out) (H'.out.below HBX.out) hk hj).mono ?_
  rintro e w1 ⟨rfl, hb1⟩
  have hx1 := cell_below HX0.out hb1
  have hd1 := cell_below HD0.out hb1
  have HS0 := Lib.hid (HS0.out.below hb1)
  have HS1 := Lib.hid (HS1.out.below hb1)
  have HB1 := Lib.hid (bel_on HBX.out hb1)
  rw [hc]
  clear hb1
  have hcn : decide (c < 0) = false := decide_eq_false (by omega)
  go_wp2_with fail
  have HX1 := Lib.hid hx1
  have HD1 := Lib.hid hd1
  clear hx1 hd1
  refine (cloneSl_any _ xs _ (HS.out.below HB1.out) (by have := HLX.out; omega)).mono ?_
  rintro e w2 ⟨v2, rfl, how, hb2⟩
  obtain ⟨g, cap2, rfl, hg, hg2⟩ : ∃ g cap2, v2 = .slice (some ⟨g, 0, none⟩) len cap2 ∧ w1.heap.size ≤ g ∧ g < w2.heap.size := by
    rcases how.shape with ⟨_, e⟩ | ⟨g, cap2, e, h1, h2, _⟩
    · have := HLX.out; rw [e] at this; simp at this; omega
    · exact ⟨g, cap2, by rw [← HLX.out]; exact e, h1, h2⟩
  have hd2 := cell_below HD1.out hb2
  have hcy2 := cell_below HCY.out (bel_on HB1.out hb2)
  have HOW := Lib.hid how
  have HB2 := Lib.hid hb2
  clear how hb2
  have hcy3 : w2.cell? ⟨bY, oY, none⟩ = some (.int .u32 (y : Nat)) := by simpa using hcy2
  go_wp2_with fail
  refine (divLimb_any g len cap2 xs y _ _ HOW.out HLX.out.symm ho hy0 hy2 (by omega)).mono ?_
  rintro e w3 ⟨zs, rfl, how3, hzl, okz, hzv, hk3⟩
  have hb3 : Below w1.heap.size w1 w3 := HB2.out.trans (hk3.below (B := w1.heap.size) (HB2.out.size) (fun k e => by omega))
  rw [HX.out] at hzv
  rw [HX.out, HR.out]
  have HZ := Lib.hid how3.sl
  have HZV := Lib.hid hzv
  have HT0 := Lib.hid (HS0.out.below hb3)
  have HT1 := Lib.hid (HS1.out.below hb3)
  have HB3 := Lib.hid (bel_on HB1.out hb3)
  clear how3 hzv hk3 hb3 hd2 hcy2 hcy3
  go_wp2_with fail
  refine (wrapB _ zs (x / y) k _ HZ.out okz (by omega) HZV.out HQK.out).mono ?_
  rintro e w4 ⟨vq', rfl, hn3, hb4⟩
  obtain ⟨adQ, lenQ, capQ, rfl⟩ := hn3.shape2
  have HN3 := Lib.hid hn3
  have HT0 := Lib.hid (HT0.out.below hb4)
  have HT1 := Lib.hid (HT1.out.below hb4)
  have HB4 := Lib.hid (bel_on HB3.out hb4)
  clear hn3 hb4
  go_wp2_with fail
  refine (ofB r _ (by omega)).mono ?_
  rintro e w5 ⟨vr', rfl, hn5, hb5⟩
  obtain ⟨adR, lenR, capR, rfl⟩ := hn5.shape2
  have HN5 := Lib.hid (show NatB 146 w5 (.agg #[.slice adR lenR capR]) r j from ⟨hn5.1, HRJ.out⟩)
  have HNQ := Lib.hid (HN3.out.below hb5)
  have HT0 := Lib.hid (HT0.out.below hb5)
  have HT1 := Lib.hid (HT1.out.below hb5)
  have HB5 := Lib.hid (bel_on HB4.out hb5)
  obtain ⟨z0, hz0, hf0⟩ := HT0.out.one
  obtain ⟨z1, hz1, hf1⟩ := (HT1.out.set (w.heap.size + 1 + 1) 0 (.slice adQ lenQ capQ)).one
  clear hn5 hb5
  have HF := Lib.hid (fin_nat2 HNQ.out HN5.out HT0.out HT1.out (by decide) (by decide) HB5.out (by omega) (by omega) (by omega) rfl)
  go_wp2_with fail
  refine bodyPost_ret (v := .tuple #[.agg #[.slice adQ lenQ capQ], .agg #[.slice adR lenR capR], .bool true]) (by simp [results, Tryz.results152, go_sem, HF.out.2.2.2.1, HF.out.2.2.2.2]) rfl ⟨_, _, rfl, HF.out.1, HF.out.2.1, HF.out.2.2.1⟩

/-- Div of all numbers, b not 0. -/
theorem divTells (x y k j : Nat) (hk : k ≤ 10000000) (hj : j ≤ 10000000) (hy : y ≠ 0) : DivTells x y k j := by
  intro w v u h h'
  have hq : x / y < pw k := Nat.lt_of_le_of_lt (Nat.div_le_self _ _) h.2
  have hr : x % y < pw j := Nat.lt_trans (Nat.mod_lt _ (Nat.pos_of_ne_zero hy)) h'.2
  by_cases hs : x < 18446744073709551616 ∧ y < 18446744073709551616
  · exact (divSmall_any v u x y w ⟨h.1, hs.1⟩ ⟨h'.1, hs.2⟩ hy).mono fun _ _ ⟨v', u', e, h1, h2, h3⟩ => ⟨v', u', e, ⟨h1.1, hq⟩, ⟨h2.1, hr⟩, h3⟩
  · rcases Nat.lt_or_ge x y with h1 | h1
    · exact divLess_any v u x y k j w h h' hk hj h1 (by omega)
    · rcases Nat.lt_or_ge y 4294967296 with h2 | h2
      · exact divOne_any v u x y k j w h h' hk hj (by omega) (by omega) h2
      · exact divBig_any v u x y k j w h h' hk hj h1 (by omega) h2

end Go.Proofs.YtfohgkabmdhhaaaGreatDoor
/- Division downwards, and back: plain. -/
namespace Go.Proofs.YtfohgkabmdhhaaaGreatDoor
open Go.RowKit Cin

theorem div_back_nat (X Y : Nat) (hY : 0 < Y) : ∃ q r : Nat, X / Y = q ∧ X % Y = r ∧ r < Y ∧ (X : Int) = (q : Int) * (Y : Int) + (r : Int) := by
  refine ⟨_, _, rfl, rfl, Nat.mod_lt _ hY, ?_⟩
  have h := Nat.div_add_mod X Y
  rw [Nat.mul_comm] at h
  rw [← Int.natCast_mul, ← Int.natCast_add, h]
/-- How often, so often, and what is left. -/
theorem div_back (x y : Int) (hy : y ≠ 0) : divQ x y * y + divR x y = x ∧ (divR x y).natAbs < y.natAbs ∧ (divR x y = 0 ∨ sgnZ (divR x y) = sgnZ y) := by
  obtain ⟨q, r, eq, er, hr, e⟩ := div_back_nat x.natAbs y.natAbs (by omega)
  unfold divQ divR qF rF
  rw [eq, er]
  obtain ⟨Y, hYe⟩ : ∃ Y : Nat, y.natAbs = Y := ⟨_, rfl⟩
  obtain ⟨X, hXe⟩ : ∃ X : Nat, x.natAbs = X := ⟨_, rfl⟩
  rw [hYe] at hr e ⊢
  rw [hXe] at e
  clear eq er
  by_cases hx0 : x < 0 <;> by_cases hy0 : y < 0
  · obtain rfl : x = -(X : Int) := by omega
    obtain rfl : y = -(Y : Int) := by omega
    simp only [hx0, hy0, decide_true, BEq.rfl, Bool.not_true, Bool.false_and, Bool.false_eq_true, if_false, sg, if_true]
    refine ⟨by rw [Int.mul_neg]; omega, by omega, ?_⟩
    unfold sgnZ
    rw [if_pos hy0]
    rcases Nat.eq_zero_or_pos r with h0 | h0
    · left; omega
    · right; rw [if_pos (by omega)]
  · rw [decide_eq_true hx0, decide_eq_false hy0]
    obtain rfl : x = -(X : Int) := by omega
    obtain rfl : y = (Y : Int) := by omega
    rcases Nat.eq_zero_or_pos r with h0 | h0
    · subst h0
      simp only [show (!(true == false)) = true from rfl, Bool.true_and, decide_true, Bool.not_true, Bool.false_eq_true, if_false, sg, if_true]
      exact ⟨by rw [Int.neg_mul]; omega, by omega, .inl rfl⟩
    · simp only [show (!(true == false)) = true from rfl, Bool.true_and, show decide (r = 0) = false from decide_eq_false (by omega), Bool.not_false, Bool.false_eq_true, if_false, sg, if_true]
      refine ⟨?_, by omega, .inr ?_⟩
      · rw [Int.neg_mul, Int.natCast_add, Int.add_mul, Int.natCast_one, Int.one_mul]; omega
      · unfold sgnZ; rw [if_neg (by omega), if_pos (by omega), if_neg (by omega), if_pos (by omega)]
  · rw [decide_eq_false hx0, decide_eq_true hy0]
    obtain rfl : x = (X : Int) := by omega
    obtain rfl : y = -(Y : Int) := by omega
    rcases Nat.eq_zero_or_pos r with h0 | h0
    · subst h0
      simp only [show (!(false == true)) = true from rfl, Bool.true_and, decide_true, Bool.not_true, Bool.false_eq_true, if_false, sg, if_true]
      exact ⟨by rw [Int.neg_mul_neg]; omega, by omega, .inl rfl⟩
    · simp only [show (!(false == true)) = true from rfl, Bool.true_and, show decide (r = 0) = false from decide_eq_false (by omega), Bool.not_false, if_true, sg]
      refine ⟨?_, by omega, .inr ?_⟩
      · rw [Int.neg_mul_neg, Int.natCast_add, Int.add_mul, Int.natCast_one, Int.one_mul]; omega
      · unfold sgnZ; rw [if_pos (by omega), if_pos (by omega)]
  · obtain rfl : x = (X : Int) := by omega
    obtain rfl : y = (Y : Int) := by omega
    simp only [hx0, hy0, decide_false, BEq.rfl, Bool.not_true, Bool.false_and, Bool.false_eq_true, if_false, sg]
    refine ⟨by omega, by omega, ?_⟩
    unfold sgnZ
    rcases Nat.eq_zero_or_pos r with h0 | h0
    · left; omega
    · right; rw [if_neg (by omega), if_pos (by omega), if_neg hy0, if_pos (by omega)]

end Go.Proofs.YtfohgkabmdhhaaaGreatDoor
