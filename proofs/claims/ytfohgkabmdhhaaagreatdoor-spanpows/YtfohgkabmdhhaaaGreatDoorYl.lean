/- nat's Div of long numbers. -/
import Derived.Test.YtfohgkabmdhhaaaGreatDoorYk
import Derived.Test.YtfohgkabmdhhaaaGreatDoorYi
import Derived.Test.YtfohgkabmdhhaaaGreatDoorYa
import Derived.Test.YtfohgkabmdhhaaaGreatDoorYb
import Derived.Test.YtfohgkabmdhhaaaGreatDoorYh
import Derived.Deep.LoopGhost
import Derived.BigGuard
namespace Go.Proofs.YtfohgkabmdhhaaaGreatDoor
open Go.RowKit Cin
theorem wrapB (v : Value) (xs : List Nat) (n k : Nat) (w : World) (h : Sl 146 .u32 w v xs) (ho : Ok xs) (hb : xs.length ≤ 1000000000000) (hn : val xs = n) (hk : n < pw k) :
    Calls Tryz.prog 166 #[v] w fun e w' => ∃ v', e = .returned v' ∧ NatB 146 w' v' n k ∧ Below w.heap.size w w' :=
  (wrap_any v xs w h ho hb).mono fun _ _ ⟨v', e, h1, h2⟩ => ⟨v', e, ⟨by rw [← hn]; exact h1, hk⟩, h2⟩
set_option maxRecDepth 100000 in
set_option maxHeartbeats 4000000 in
theorem divBig_any (v u : Value) (x y k j : Nat) (w : World) (h : NatB 146 w v x k) (h' : NatB 146 w u y j) (hk : k ≤ 10000000) (hj : j ≤ 10000000) (hxy : y ≤ x) (hx2 : 18446744073709551616 ≤ x) (hy2 : 4294967296 ≤ y) :
    Calls Tryz.prog 152 #[v, u] w fun e w' => ∃ v' u', e = .returned (.tuple #[v', u', .bool true]) ∧ NatB 146 w' v' (x / y) k ∧ NatB 146 w' u' (x % y) j ∧ Below w.heap.size w w' := by
  obtain ⟨ad, len, cap, rfl, xs, hs, ho, hnm, hx⟩ := h.shape
  obtain ⟨ad', len', cap', rfl, ys, hs', ho', hnm', hy'⟩ := h'.shape
  have hlx := hs.len
  have hly := hs'.len
  have hbx := val_lt ho
  have hby := val_lt ho'
  rw [hx, hlx] at hbx
  rw [hy', hly] at hby
  have hl3 : 2 < len := by
    rcases Nat.lt_or_ge 2 len with e | e
    · exact e
    · have := pw_le e; rw [show pw 2 = 18446744073709551616 from rfl] at this; omega
  have hl2 : 1 < len' := by
    rcases Nat.lt_or_ge 1 len' with e | e
    · exact e
    · have := pw_le e; rw [show pw 1 = 4294967296 from rfl] at this; omega
  have hl : len ≤ k := by have := norm_len hnm (m := k) (by rw [hx]; exact h.2); omega
  have hl' : len' ≤ j := by have := norm_len hnm' (m := j) (by rw [hy']; exact h'.2); omega
  have hll : len' ≤ len := by have := norm_len hnm' (m := len) (by rw [hy']; omega); omega
  have htop : lim ys (ys.length - 1) ≠ 0 := (by rcases hnm' with e | e; (rw [e] at hly; simp at hly; omega); exact e)
  have hlb : ((len' : Int) == 0) = false := beq_eq_false_iff_ne.2 (by omega)
  have hlb1 : ((len' : Int) == 1) = false := beq_eq_false_iff_ne.2 (by omega)
  obtain ⟨c, hc, hc0⟩ : ∃ c : Int, cmpI x y = c ∧ 0 ≤ c ∧ c ≤ 1 := by
    refine ⟨_, rfl, ?_⟩
    unfold cmpI
    repeat' split
    all_goals omega
  have hy0 : 0 < y := by omega
  have H := Lib.hid h
  have H' := Lib.hid h'
  have HS := Lib.hid hs
  have HS' := Lib.hid hs'
  have HT := Lib.hid htop
  have HX := Lib.hid hx
  have HY := Lib.hid hy'
  have HLX := Lib.hid hlx
  have HLY := Lib.hid hly
  clear h h' hs hs' hnm hnm' hx hy' hlx hly htop hbx hby hx2 hy2
  go_enter Tryz.func152, Tryz.ntmps152
  go_wp2_with fail
  have hh := heldN4 (w := w) (c0 := #[Value.slice ad len cap]) (t0 := 27) (c1 := #[Value.slice ad' len' cap']) (t1 := 27) (c2 := #[Value.slice none 0 0]) (t2 := 27) (c3 := #[Value.slice none 0 0]) (t3 := 27)
  have hbX := bel_alloc4 w (Obj.cells #[Value.slice ad len cap] 27) (Obj.cells #[Value.slice ad' len' cap'] 27) (Obj.cells #[Value.slice none 0 0] 27) (Obj.cells #[Value.slice none 0 0] 27)
  generalize (((w.alloc (Obj.cells #[Value.slice ad len cap] 27)).alloc (Obj.cells #[Value.slice ad' len' cap'] 27)).alloc (Obj.cells #[Value.slice none 0 0] 27)).alloc (Obj.cells #[Value.slice none 0 0] 27) = X at *
  have hx0 := cell0 hh.1
  have hd0 := cell0 hh.2.1
  have HS0 := Lib.hid (Slot.of (n := 1) hh.2.2.1 rfl)
  have HS1 := Lib.hid (Slot.of (n := 1) hh.2.2.2.1 rfl)
  have HBX := Lib.hid hbX
  have HX0 := Lib.hid hx0
  have HD0 := Lib.hid hd0
  clear hh hbX hx0 hd0
  refine (cmpB _ _ x y k j _ (H.out.below HBX.out) (H'.out.below HBX.out) hk hj).mono ?_
  rintro e w1 ⟨rfl, hb1⟩
  have hx1 := cell_below HX0.out hb1
  have hd1 := cell_below HD0.out hb1
  have HS0 := Lib.hid (HS0.out.below hb1)
  have HS1 := Lib.hid (HS1.out.below hb1)
  have HB1 := Lib.hid (bel_on HBX.out hb1)
  rw [hc]
  clear hb1
  have hcn : decide (c < 0) = false := decide_eq_false (by omega)
  go_wp2_with fail
  have HX1 := Lib.hid hx1
  have HD1 := Lib.hid hd1
  clear hx1 hd1
  refine (divideLong_any _ _ xs ys _ (HS.out.below HB1.out) (HS'.out.below HB1.out) ho ho' (by have := HLY.out; omega) (by have := HLY.out; have := HLX.out; omega) (by have := HLX.out; omega) HT.out).mono ?_
  rintro e w2 ⟨vq, vr, qs, rs, rfl, hq, hr, okq, okr, hqv, hrv, hql, hrl, hb2⟩
  rw [HX.out, HY.out] at hqv hrv
  have HX2 := Lib.hid (cell_below HX1.out hb2)
  have HD2 := Lib.hid (cell_below HD1.out hb2)
  have HS0 := Lib.hid (HS0.out.below hb2)
  have HS1 := Lib.hid (HS1.out.below hb2)
  have HB2 := Lib.hid (bel_on HB1.out hb2)
  have HQ := Lib.hid hq
  have HR := Lib.hid hr.sl
  have HQV := Lib.hid hqv
  have HRV := Lib.hid hrv
  have hqb : qs.length ≤ 1000000000000 := by have := HLX.out; omega
  have hrb : rs.length ≤ 1000000000000 := by have := HLY.out; omega
  have hqk : x / y < pw k := Nat.lt_of_le_of_lt (Nat.div_le_self _ _) H.out.2
  have hrj : x % y < pw j := Nat.lt_trans (Nat.mod_lt _ hy0) H'.out.2
  have HQK := Lib.hid hqk
  have HRJ := Lib.hid hrj
  clear hb2 hq hr hqv hrv hql hrl hqk hrj
  go_wp2_with fail
  refine (wrapB vq qs (x / y) k _ HQ.out okq hqb HQV.out HQK.out).mono ?_
  rintro e w3 ⟨vq', rfl, hn3, hb3⟩
  obtain ⟨adQ, lenQ, capQ, rfl⟩ := hn3.shape2
  have HR3 := Lib.hid (HR.out.below hb3)
  have HN3 := Lib.hid hn3
  have HS0 := Lib.hid (HS0.out.below hb3)
  have HS1 := Lib.hid (HS1.out.below hb3)
  have HB3 := Lib.hid (bel_on HB2.out hb3)
  clear hn3 hb3
  go_wp2_with fail
  refine (wrapB vr rs (x % y) j _ HR3.out okr hrb HRV.out HRJ.out).mono ?_
  rintro e w4 ⟨vr', rfl, hn4, hb4⟩
  obtain ⟨adR, lenR, capR, rfl⟩ := hn4.shape2
  have HN4 := Lib.hid hn4
  have HNQ := Lib.hid (HN3.out.below hb4)
  have HT0 := Lib.hid (HS0.out.below hb4)
  have HT1 := Lib.hid (HS1.out.below hb4)
  have HB4 := Lib.hid (bel_on HB3.out hb4)
  obtain ⟨z0, hz0, hf0⟩ := HT0.out.one
  obtain ⟨z1, hz1, hf1⟩ := (HT1.out.set (w.heap.size + 1 + 1) 0 (.slice adQ lenQ capQ)).one
  clear hn4 hb4
  have HF := Lib.hid (fin_nat2 HNQ.out HN4.out HT0.out HT1.out (by decide) (by decide) HB4.out (by omega) (by omega) (by omega) rfl)
  go_wp2_with fail
  refine bodyPost_ret (v := .tuple #[.agg #[.slice adQ lenQ capQ], .agg #[.slice adR lenR capR], .bool true]) (by simp [results, Tryz.results152, go_sem, HF.out.2.2.2.1, HF.out.2.2.2.2]) rfl ⟨_, _, rfl, HF.out.1, HF.out.2.1, HF.out.2.2.1⟩
end Go.Proofs.YtfohgkabmdhhaaaGreatDoor

namespace Go.Proofs.YtfohgkabmdhhaaaGreatDoor
open Go.RowKit Cin
set_option maxRecDepth 100000 in
set_option maxHeartbeats 2000000 in
theorem cloneB (v : Value) (x k : Nat) (w : World) (h : NatB 146 w v x k) (hk : k ≤ 10000000) :
    Calls Tryz.prog 181 #[v] w fun e w' => ∃ v', e = .returned v' ∧ NatB 146 w' v' x k ∧ Below w.heap.size w w' := by
  obtain ⟨ad, len, cap, rfl, xs, hs, ho, hnm, hx⟩ := h.shape
  have hlx := hs.len
  have hl : len ≤ k := by have := norm_len hnm (m := k) (by rw [hx]; exact h.2); omega
  have H := Lib.hid h.2
  have HS := Lib.hid hs
  have HNM := Lib.hid hnm
  have HX := Lib.hid hx
  have HLX := Lib.hid hlx
  clear h hs hnm hx hlx
  go_enter Tryz.func181, Tryz.ntmps181
  go_wp2_with fail
  have hh := heldN2 (w := w) (c0 := #[Value.slice ad len cap]) (t0 := 27) (c1 := #[Value.slice none 0 0]) (t1 := 27)
  have hbX := bel_alloc2 w (Obj.cells #[Value.slice ad len cap] 27) (Obj.cells #[Value.slice none 0 0] 27)
  generalize (w.alloc (Obj.cells #[Value.slice ad len cap] 27)).alloc (Obj.cells #[Value.slice none 0 0] 27) = X at *
  have HS0 := Lib.hid (Slot.of (n := 1) hh.2.1 rfl)
  have HBX := Lib.hid hbX
  clear hh hbX
  refine (cloneSl_any _ xs _ (HS.out.below HBX.out) (by have := HLX.out; omega)).mono ?_
  rintro e w1 ⟨v', rfl, how, hb1⟩
  obtain ⟨adR, capR, ev, _, _⟩ := how.sl.shape
  rw [HLX.out] at ev
  subst ev
  have HO := Lib.hid how.sl
  have HT := Lib.hid (HS0.out.below hb1)
  have HB1 := Lib.hid (bel_on HBX.out hb1)
  obtain ⟨z0, hz0, hf0⟩ := HT.out.one
  have HN := Lib.hid (show NatB 146 w1 (.agg #[.slice adR len capR]) x k from ⟨⟨_, rfl, xs, HO.out, ho, HNM.out, HX.out⟩, H.out⟩)
  have HF := Lib.hid (HN.out.slot HT.out (by decide) 0 (.slice adR len capR))
  have HC := Lib.hid (HT.out.set1 (.slice adR len capR))
  clear how hb1
  go_wp2_with fail
  refine bodyPost_ret (v := .agg #[.slice adR len capR]) (by simp [results, Tryz.results181, go_sem, HC.out]) rfl ⟨_, rfl, HF.out, bel_set1 HB1.out (by omega)⟩
set_option maxRecDepth 100000 in
set_option maxHeartbeats 4000000 in
theorem divLess_any (v u : Value) (x y k j : Nat) (w : World) (h : NatB 146 w v x k) (h' : NatB 146 w u y j) (hk : k ≤ 10000000) (hj : j ≤ 10000000) (hxy : x < y) (hy2 : 18446744073709551616 ≤ y) :
    Calls Tryz.prog 152 #[v, u] w fun e w' => ∃ v' u', e = .returned (.tuple #[v', u', .bool true]) ∧ NatB 146 w' v' (x / y) k ∧ NatB 146 w' u' (x % y) j ∧ Below w.heap.size w w' := by
  rw [Nat.div_eq_of_lt hxy, Nat.mod_eq_of_lt hxy]
  obtain ⟨ad, len, cap, rfl, xs, hs, ho, hnm, hx⟩ := h.shape
  obtain ⟨ad', len', cap', rfl, ys, hs', ho', hnm', hy'⟩ := h'.shape
  have hly := hs'.len
  have hby := val_lt ho'
  rw [hy', hly] at hby
  have hl3 : 2 < len' := by
    rcases Nat.lt_or_ge 2 len' with e | e
    · exact e
    · have := pw_le e; rw [show pw 2 = 18446744073709551616 from rfl] at this; omega
  have hl : len ≤ k := by have := hs.len; have := norm_len hnm (m := k) (by rw [hx]; exact h.2); omega
  have hl' : len' ≤ j := by have := norm_len hnm' (m := j) (by rw [hy']; exact h'.2); omega
  have hlb : ((len' : Int) == 0) = false := beq_eq_false_iff_ne.2 (by omega)
  have hc : cmpI x y = -1 := by unfold cmpI; rw [if_pos hxy]
  have H := Lib.hid h
  have H' := Lib.hid h'
  have HXJ := Lib.hid (show NatB 146 w (.agg #[.slice ad len cap]) x j from ⟨h.1, Nat.lt_trans hxy h'.2⟩)
  clear h h' hs hs' hnm hnm' hx hy' hly hby hy2 ho ho'
  by_cases hl2 : len ≤ 2
  · go_enter Tryz.func152, Tryz.ntmps152
    go_wp2_with fail
    have hh := heldN4 (w := w) (c0 := #[Value.slice ad len cap]) (t0 := 27) (c1 := #[Value.slice ad' len' cap']) (t1 := 27) (c2 := #[Value.slice none 0 0]) (t2 := 27) (c3 := #[Value.slice none 0 0]) (t3 := 27)
    have hbX := bel_alloc4 w (Obj.cells #[Value.slice ad len cap] 27) (Obj.cells #[Value.slice ad' len' cap'] 27) (Obj.cells #[Value.slice none 0 0] 27) (Obj.cells #[Value.slice none 0 0] 27)
    generalize (((w.alloc (Obj.cells #[Value.slice ad len cap] 27)).alloc (Obj.cells #[Value.slice ad' len' cap'] 27)).alloc (Obj.cells #[Value.slice none 0 0] 27)).alloc (Obj.cells #[Value.slice none 0 0] 27) = X at *
    have hx0 := cell0 hh.1
    have hd0 := cell0 hh.2.1
    have HS0 := Lib.hid (Slot.of (n := 1) hh.2.2.1 rfl)
    have HS1 := Lib.hid (Slot.of (n := 1) hh.2.2.2.1 rfl)
    have HBX := Lib.hid hbX
    have HX0 := Lib.hid hx0
    have HD0 := Lib.hid hd0
    clear hh hbX hx0 hd0
    refine (cmpB _ _ x y k j _ (H.out.below HBX.out) (H'.out.below HBX.out) hk hj).mono ?_
    rintro e w1 ⟨rfl, hb1⟩
    have hx1 := cell_below HX0.out hb1
    have hd1 := cell_below HD0.out hb1
    have HS0 := Lib.hid (HS0.out.below hb1)
    have HS1 := Lib.hid (HS1.out.below hb1)
    have HB1 := Lib.hid (bel_on HBX.out hb1)
    rw [hc]
    clear hb1
    go_wp2_with fail
    refine (cloneB _ x j _ (HXJ.out.below HB1.out) hj).mono ?_
    rintro e w4 ⟨vr', rfl, hn4, hb4⟩
    obtain ⟨adR, lenR, capR, rfl⟩ := hn4.shape2
    have HN4 := Lib.hid hn4
    have HNQ := Lib.hid (show NatB 146 w4 (.agg #[.slice none 0 0]) 0 k from ⟨⟨_, rfl, [], Sl.nil _ _ _, Ok.nil, .inl rfl, rfl⟩, pw_pos k⟩)
    have HT0 := Lib.hid (HS0.out.below hb4)
    have HT1 := Lib.hid (HS1.out.below hb4)
    have HB4 := Lib.hid (bel_on HB1.out hb4)
    obtain ⟨z0, hz0, hf0⟩ := HT0.out.one
    obtain ⟨z1, hz1, hf1⟩ := (HT1.out.set (w.heap.size + 1 + 1) 0 (.slice none 0 0)).one
    clear hn4 hb4
    have HF := Lib.hid (fin_nat2 HNQ.out HN4.out HT0.out HT1.out (by decide) (by decide) HB4.out (by omega) (by omega) (by omega) rfl)
    go_wp2_with fail
    refine bodyPost_ret (v := .tuple #[.agg #[.slice none 0 0], .agg #[.slice adR lenR capR], .bool true]) (by simp [results, Tryz.results152, go_sem, HF.out.2.2.2.1, HF.out.2.2.2.2]) rfl ⟨_, _, rfl, HF.out.1, HF.out.2.1, HF.out.2.2.1⟩
  · go_enter Tryz.func152, Tryz.ntmps152
    go_wp2_with fail
    have hh := heldN4 (w := w) (c0 := #[Value.slice ad len cap]) (t0 := 27) (c1 := #[Value.slice ad' len' cap']) (t1 := 27) (c2 := #[Value.slice none 0 0]) (t2 := 27) (c3 := #[Value.slice none 0 0]) (t3 := 27)
    have hbX := bel_alloc4 w (Obj.cells #[Value.slice ad len cap] 27) (Obj.cells #[Value.slice ad' len' cap'] 27) (Obj.cells #[Value.slice none 0 0] 27) (Obj.cells #[Value.slice none 0 0] 27)
    generalize (((w.alloc (Obj.cells #[Value.slice ad len cap] 27)).alloc (Obj.cells #[Value.slice ad' len' cap'] 27)).alloc (Obj.cells #[Value.slice none 0 0] 27)).alloc (Obj.cells #[Value.slice none 0 0] 27) = X at *
    have hx0 := cell0 hh.1
    have hd0 := cell0 hh.2.1
    have HS0 := Lib.hid (Slot.of (n := 1) hh.2.2.1 rfl)
    have HS1 := Lib.hid (Slot.of (n := 1) hh.2.2.2.1 rfl)
    have HBX := Lib.hid hbX
    have HX0 := Lib.hid hx0
    have HD0 := Lib.hid hd0
    clear hh hbX hx0 hd0
    refine (cmpB _ _ x y k j _ (H.out.below HBX.out) (H'.out.below HBX.out) hk hj).mono ?_
    rintro e w1 ⟨rfl, hb1⟩
    have hx1 := cell_below HX0.out hb1
    have hd1 := cell_below HD0.out hb1
    have HS0 := Lib.hid (HS0.out.below hb1)
    have HS1 := Lib.hid (HS1.out.below hb1)
    have HB1 := Lib.hid (bel_on HBX.out hb1)
    rw [hc]
    clear hb1
    go_wp2_with fail
    refine (cloneB _ x j _ (HXJ.out.below HB1.out) hj).mono ?_
    rintro e w4 ⟨vr', rfl, hn4, hb4⟩
    obtain ⟨adR, lenR, capR, rfl⟩ := hn4.shape2
    have HN4 := Lib.hid hn4
    have HNQ := Lib.hid (show NatB 146 w4 (.agg #[.slice none 0 0]) 0 k from ⟨⟨_, rfl, [], Sl.nil _ _ _, Ok.nil, .inl rfl, rfl⟩, pw_pos k⟩)
    have HT0 := Lib.hid (HS0.out.below hb4)
    have HT1 := Lib.hid (HS1.out.below hb4)
    have HB4 := Lib.hid (bel_on HB1.out hb4)
    obtain ⟨z0, hz0, hf0⟩ := HT0.out.one
    obtain ⟨z1, hz1, hf1⟩ := (HT1.out.set (w.heap.size + 1 + 1) 0 (.slice none 0 0)).one
    clear hn4 hb4
    have HF := Lib.hid (fin_nat2 HNQ.out HN4.out HT0.out HT1.out (by decide) (by decide) HB4.out (by omega) (by omega) (by omega) rfl)
    go_wp2_with fail
    refine bodyPost_ret (v := .tuple #[.agg #[.slice none 0 0], .agg #[.slice adR lenR capR], .bool true]) (by simp [results, Tryz.results152, go_sem, HF.out.2.2.2.1, HF.out.2.2.2.2]) rfl ⟨_, _, rfl, HF.out.1, HF.out.2.1, HF.out.2.2.1⟩
end Go.Proofs.YtfohgkabmdhhaaaGreatDoor

namespace Go.Proofs.YtfohgkabmdhhaaaGreatDoor
open Go.RowKit Cin
set_option maxRecDepth 100000 in
set_option maxHeartbeats 4000000 in
theorem divOne_any (v u : Value) (x y k j : Nat) (w : World) (h : NatB 146 w v x k) (h' : NatB 146 w u y j) (hk : k ≤ 10000000) (hj : j ≤ 10000000) (hx2 : 18446744073709551616 ≤ x) (hy0 : 0 < y) (hy2 : y < 4294967296) :
    Calls Tryz.prog 152 #[v, u] w fun e w' => ∃ v' u', e = .returned (.tuple #[v', u', .bool true]) ∧ NatB 146 w' v' (x / y) k ∧ NatB 146 w' u' (x % y) j ∧ Below w.heap.size w w' := by
  obtain ⟨ad, len, cap, rfl, xs, hs, ho, hnm, hx⟩ := h.shape
  obtain ⟨ad', len', cap', rfl, ys, hs', ho', hnm', hy'⟩ := h'.shape
  have hlx := hs.len
  have hly := hs'.len
  have hbx := val_lt ho
  rw [hx, hlx] at hbx
  have hl3 : 2 < len := by
    rcases Nat.lt_or_ge 2 len with e | e
    · exact e
    · have := pw_le e; rw [show pw 2 = 18446744073709551616 from rfl] at this; omega
  have hl1 : len' = 1 := by
    have h1 := norm_len hnm' (m := 1) (by rw [hy']; exact hy2)
    rcases Nat.eq_zero_or_pos len' with e | e
    · rw [e] at hly; rw [List.length_eq_zero_iff.1 hly] at hy'; rw [val_nil] at hy'; omega
    · omega
  subst hl1
  have hyl : lim ys 0 = y := by
    have h1 := val_take_succ (xs := ys) (i := 0) (by omega)
    rw [List.take_of_length_le (by omega), List.take_zero, val_nil, pw_zero, hy'] at h1
    omega
  have hl : len ≤ k := by have := norm_len hnm (m := k) (by rw [hx]; exact h.2); omega
  obtain ⟨c, hc, hc0⟩ : ∃ c : Int, cmpI x y = c ∧ 0 ≤ c ∧ c ≤ 1 := by
    refine ⟨_, rfl, ?_⟩
    unfold cmpI
    repeat' split
    all_goals omega
  obtain ⟨bY, oY, e1, hcy, _⟩ := hs'.cell (i := 0) (by omega)
  subst e1
  rw [hyl] at hcy
  have hqk : x / y < pw k := Nat.lt_of_le_of_lt (Nat.div_le_self _ _) h.2
  have hmy := Nat.mod_lt x hy0
  have hrj : x % y < pw j := Nat.lt_trans hmy h'.2
  obtain ⟨r, hr⟩ : ∃ r, x % y = r := ⟨_, rfl⟩
  rw [hr] at hmy hrj ⊢
  have HQK := Lib.hid hqk
  have HRJ := Lib.hid hrj
  have HR := Lib.hid hr
  have H := Lib.hid h
  have H' := Lib.hid h'
  have HS := Lib.hid hs
  have HX := Lib.hid hx
  have HLX := Lib.hid hlx
  have HCY := Lib.hid hcy
  clear h h' hs hs' hnm hnm' hx hy' hlx hly hbx hx2 hyl hqk hrj hr hcy ho'
  go_enter Tryz.func152, Tryz.ntmps152
  go_wp2_with fail
  have hh := heldN4 (w := w) (c0 := #[Value.slice ad len cap]) (t0 := 27) (c1 := #[Value.slice (some ⟨bY, oY, none⟩) 1 cap']) (t1 := 27) (c2 := #[Value.slice none 0 0]) (t2 := 27) (c3 := #[Value.slice none 0 0]) (t3 := 27)
  have hbX := bel_alloc4 w (Obj.cells #[Value.slice ad len cap] 27) (Obj.cells #[Value.slice (some ⟨bY, oY, none⟩) 1 cap'] 27) (Obj.cells #[Value.slice none 0 0] 27) (Obj.cells #[Value.slice none 0 0] 27)
  generalize (((w.alloc (Obj.cells #[Value.slice ad len cap] 27)).alloc (Obj.cells #[Value.slice (some ⟨bY, oY, none⟩) 1 cap'] 27)).alloc (Obj.cells #[Value.slice none 0 0] 27)).alloc (Obj.cells #[Value.slice none 0 0] 27) = X at *
  have hx0 := cell0 hh.1
  have hd0 := cell0 hh.2.1
  have HS0 := Lib.hid (Slot.of (n := 1) hh.2.2.1 rfl)
  have HS1 := Lib.hid (Slot.of (n := 1) hh.2.2.2.1 rfl)
  have HBX := Lib.hid hbX
  have HX0 := Lib.hid hx0
  have HD0 := Lib.hid hd0
  clear hh hbX hx0 hd0
  refine (cmpB _ _ x y k j _ (H.out.below HBX.out) (H'.out.below HBX.out) hk hj).mono ?_
  rintro e w1 ⟨rfl, hb1⟩
  have hx1 := cell_below HX0.out hb1
  have hd1 := cell_below HD0.out hb1
  have HS0 := Lib.hid (HS0.out.below hb1)
  have HS1 := Lib.hid (HS1.out.below hb1)
  have HB1 := Lib.hid (bel_on HBX.out hb1)
  rw [hc]
  clear hb1
  have hcn : decide (c < 0) = false := decide_eq_false (by omega)
  go_wp2_with fail
  have HX1 := Lib.hid hx1
  have HD1 := Lib.hid hd1
  clear hx1 hd1
  refine (cloneSl_any _ xs _ (HS.out.below HB1.out) (by have := HLX.out; omega)).mono ?_
  rintro e w2 ⟨v2, rfl, how, hb2⟩
  obtain ⟨g, cap2, rfl, hg, hg2⟩ : ∃ g cap2, v2 = .slice (some ⟨g, 0, none⟩) len cap2 ∧ w1.heap.size ≤ g ∧ g < w2.heap.size := by
    rcases how.shape with ⟨_, e⟩ | ⟨g, cap2, e, h1, h2, _⟩
    · have := HLX.out; rw [e] at this; simp at this; omega
    · exact ⟨g, cap2, by rw [← HLX.out]; exact e, h1, h2⟩
  have hd2 := cell_below HD1.out hb2
  have hcy2 := cell_below HCY.out (bel_on HB1.out hb2)
  have HOW := Lib.hid how
  have HB2 := Lib.hid hb2
  clear how hb2
  have hcy3 : w2.cell? ⟨bY, oY, none⟩ = some (.int .u32 (y : Nat)) := by simpa using hcy2
  go_wp2_with fail
  refine (divLimb_any g len cap2 xs y _ _ HOW.out HLX.out.symm ho hy0 hy2 (by omega)).mono ?_
  rintro e w3 ⟨zs, rfl, how3, hzl, okz, hzv, hk3⟩
  have hb3 : Below w1.heap.size w1 w3 := HB2.out.trans (hk3.below (B := w1.heap.size) (HB2.out.size) (fun k e => by omega))
  rw [HX.out] at hzv
  rw [HX.out, HR.out]
  have HZ := Lib.hid how3.sl
  have HZV := Lib.hid hzv
  have HT0 := Lib.hid (HS0.out.below hb3)
  have HT1 := Lib.hid (HS1.out.below hb3)
  have HB3 := Lib.hid (bel_on HB1.out hb3)
  clear how3 hzv hk3 hb3 hd2 hcy2 hcy3
  go_wp2_with fail
  refine (wrapB _ zs (x / y) k _ HZ.out okz (by omega) HZV.out HQK.out).mono ?_
  rintro e w4 ⟨vq', rfl, hn3, hb4⟩
  obtain ⟨adQ, lenQ, capQ, rfl⟩ := hn3.shape2
  have HN3 := Lib.hid hn3
  have HT0 := Lib.hid (HT0.out.below hb4)
  have HT1 := Lib.hid (HT1.out.below hb4)
  have HB4 := Lib.hid (bel_on HB3.out hb4)
  clear hn3 hb4
  go_wp2_with fail
  refine (ofB r _ (by omega)).mono ?_
  rintro e w5 ⟨vr', rfl, hn5, hb5⟩
  obtain ⟨adR, lenR, capR, rfl⟩ := hn5.shape2
  have HN5 := Lib.hid (show NatB 146 w5 (.agg #[.slice adR lenR capR]) r j from ⟨hn5.1, HRJ.out⟩)
  have HNQ := Lib.hid (HN3.out.below hb5)
  have HT0 := Lib.hid (HT0.out.below hb5)
  have HT1 := Lib.hid (HT1.out.below hb5)
  have HB5 := Lib.hid (bel_on HB4.out hb5)
  obtain ⟨z0, hz0, hf0⟩ := HT0.out.one
  obtain ⟨z1, hz1, hf1⟩ := (HT1.out.set (w.heap.size + 1 + 1) 0 (.slice adQ lenQ capQ)).one
  clear hn5 hb5
  have HF := Lib.hid (fin_nat2 HNQ.out HN5.out HT0.out HT1.out (by decide) (by decide) HB5.out (by omega) (by omega) (by omega) rfl)
  go_wp2_with fail
  refine bodyPost_ret (v := .tuple #[.agg #[.slice adQ lenQ capQ], .agg #[.slice adR lenR capR], .bool true]) (by simp [results, Tryz.results152, go_sem, HF.out.2.2.2.1, HF.out.2.2.2.2]) rfl ⟨_, _, rfl, HF.out.1, HF.out.2.1, HF.out.2.2.1⟩
theorem divTells (x y k j : Nat) (hk : k ≤ 10000000) (hj : j ≤ 10000000) (hy : y ≠ 0) : DivTells x y k j := by
  intro w v u h h'
  have hq : x / y < pw k := Nat.lt_of_le_of_lt (Nat.div_le_self _ _) h.2
  have hr : x % y < pw j := Nat.lt_trans (Nat.mod_lt _ (Nat.pos_of_ne_zero hy)) h'.2
  by_cases hs : x < 18446744073709551616 ∧ y < 18446744073709551616
  · exact (divSmall_any v u x y w ⟨h.1, hs.1⟩ ⟨h'.1, hs.2⟩ hy).mono fun _ _ ⟨v', u', e, h1, h2, h3⟩ => ⟨v', u', e, ⟨h1.1, hq⟩, ⟨h2.1, hr⟩, h3⟩
  · rcases Nat.lt_or_ge x y with h1 | h1
    · exact divLess_any v u x y k j w h h' hk hj h1 (by omega)
    · rcases Nat.lt_or_ge y 4294967296 with h2 | h2
      · exact divOne_any v u x y k j w h h' hk hj (by omega) (by omega) h2
      · exact divBig_any v u x y k j w h h' hk hj h1 (by omega) h2
end Go.Proofs.YtfohgkabmdhhaaaGreatDoor

namespace Cin
theorem near_off {s C D x1 y1 P : Int} (hs : s = 1 ∨ s = -1) (hC : 0 ≤ C) (hCD : C ≤ D) (hD : 1 ≤ D) (hx0 : 0 ≤ x1) (hx1 : x1 < P) (hy0 : 0 ≤ y1) (hy1 : y1 < P) :
    -(D * P) < s * (D * y1 - C * x1) ∧ s * (D * y1 - C * x1) < D * P := by
  have h1 : D * y1 < D * P := Int.mul_lt_mul_of_pos_left hy1 (by omega)
  have h2 : 0 ≤ D * y1 := Int.mul_nonneg (by omega) hy0
  have h3 : C * x1 ≤ D * x1 := Int.mul_le_mul_of_nonneg_right hCD hx0
  have h4 : D * x1 < D * P := Int.mul_lt_mul_of_pos_left hx1 (by omega)
  have h5 : 0 ≤ C * x1 := Int.mul_nonneg hC hx0
  rcases hs with rfl | rfl
  · rw [Int.one_mul]; omega
  · rw [Int.neg_mul, Int.one_mul]; omega
theorem gcd_step {U V W q : Int} (hU : 0 ≤ U) (hV : 0 ≤ V) (hW : 0 ≤ W) (hq : 0 ≤ q) (e : W = U - q * V) : Nat.gcd V.natAbs W.natAbs = Nat.gcd U.natAbs V.natAbs := by
  have h : U.natAbs = q.natAbs * V.natAbs + W.natAbs := by
    have h1 : ((q.natAbs * V.natAbs + W.natAbs : Nat) : Int) = U := by
      rw [Int.natCast_add, Int.natCast_mul, Int.natAbs_of_nonneg hq, Int.natAbs_of_nonneg hV, Int.natAbs_of_nonneg hW]; omega
    omega
  rw [h, Nat.gcd_comm (q.natAbs * V.natAbs + W.natAbs), Nat.gcd_mul_right_add_right]
theorem abs_s {s z : Int} (hs : s = 1 ∨ s = -1) (hz : 0 ≤ z) : ((s * z).natAbs : Int) = z ∧ ((-(s * z)).natAbs : Int) = z := by
  rcases hs with rfl | rfl
  · rw [Int.one_mul]; omega
  · rw [Int.neg_mul, Int.one_mul]; omega
def EuSteps (X Y u0 v0 a b c d u v : Int) : Prop :=
  ∃ s A B C D : Int, (s = 1 ∨ s = -1) ∧ a = s * A ∧ b = -(s * B) ∧ c = -(s * C) ∧ d = s * D ∧ (0 ≤ A ∧ 0 ≤ B ∧ 0 ≤ C ∧ 1 ≤ D ∧ C ≤ D ∧ A + C ≤ B + D) ∧
    (A < 2147483648 ∧ B < 2147483648 ∧ C < 2147483648 ∧ D < 2147483648) ∧
    (0 ≤ v ∧ v ≤ u ∧ D * u + B * v = u0 ∧ C * u + A * v = v0 ∧ u = a * u0 + b * v0 ∧ v = c * u0 + d * v0) ∧
    (0 ≤ c * X + d * Y ∧ c * X + d * Y ≤ a * X + b * Y ∧ c * X + d * Y ≤ Y ∧ (b ≠ 0 → a * X + b * Y ≤ Y ∧ c * X + d * Y < Y)) ∧
    Nat.gcd (a * X + b * Y).natAbs (c * X + d * Y).natAbs = Nat.gcd X.natAbs Y.natAbs
theorem EuSteps.start {X Y u0 v0 : Int} (hY : 0 ≤ Y) (hXY : Y ≤ X) (hv : 0 ≤ v0) (huv : v0 ≤ u0) : EuSteps X Y u0 v0 1 0 0 1 u0 v0 := by
  refine ⟨1, 1, 0, 0, 1, .inl rfl, rfl, rfl, rfl, rfl, by omega, by omega, by omega, ?_, ?_⟩
  · refine ⟨by omega, by omega, by omega, fun h => absurd rfl h⟩
  · rw [Int.one_mul, Int.zero_mul, Int.one_mul, Int.zero_mul, Int.add_zero, Int.zero_add]
set_option maxHeartbeats 2000000 in
theorem EuSteps.next {X Y u0 v0 a b c d u v q w P x1 y1 : Int} (h : EuSteps X Y u0 v0 a b c d u v) (hu0 : u0 < 4611686018427387904) (hv0 : v0 ≤ u0) (hv : 1 ≤ v) (hq : 1 ≤ q) (hw0 : 0 ≤ w) (hwv : w < v) (hu : u = q * v + w)
    (hX : X = u0 * P + x1) (hY : Y = v0 * P + y1) (hx0 : 0 ≤ x1) (hx1 : x1 < P) (hy0 : 0 ≤ y1) (hy1 : y1 < P) :
    ∃ F D : Nat, (b - q * d).natAbs = F ∧ d.natAbs = D ∧ F < 4611686018427387904 ∧ D < 2147483648 ∧
      (-4611686018427387904 < q * c ∧ q * c < 4611686018427387904) ∧ (-4611686018427387904 < q * d ∧ q * d < 4611686018427387904) ∧
      (-4611686018427387904 < a - q * c ∧ a - q * c < 4611686018427387904) ∧ (-4611686018427387904 < b - q * d ∧ b - q * d < 4611686018427387904) ∧
      ((F : Int) ≤ w → (F : Int) + D ≤ v - w → EuSteps X Y u0 v0 c d (a - q * c) (b - q * d) v w) := by
  obtain ⟨s, A, B, C, D, hs, ha, hb, hc, hd, ⟨hA0, hB0, hC0, hD1, hCD, hAC⟩, ⟨hA, hB, hC, hD⟩, ⟨hv00, hvu, e1, e2, e3, e4⟩, ⟨t1, t2, t3, t4⟩, hg⟩ := h
  have qC0 : 0 ≤ q * C := Int.mul_nonneg (by omega) hC0
  have qD0 : 0 ≤ (q - 1) * D := Int.mul_nonneg (by omega) (by omega)
  have qDC : 0 ≤ (q - 1) * (D - C) := Int.mul_nonneg (by omega) (by omega)
  rw [Int.sub_mul, Int.one_mul] at qD0
  rw [Int.sub_mul, Int.one_mul, Int.mul_sub] at qDC
  have f1 : a - q * c = s * (A + q * C) := by rw [ha, hc, Int.mul_neg, Int.sub_neg, Int.mul_add, Int.mul_left_comm q s C]
  have f2 : b - q * d = -(s * (B + q * D)) := by rw [hb, hd, Int.mul_add, Int.mul_left_comm q s D]; omega
  have f3 : q * c = -(s * (q * C)) := by rw [hc, Int.mul_neg, Int.mul_left_comm q s C]
  have f4 : q * d = s * (q * D) := by rw [hd, Int.mul_left_comm q s D]
  have g1 : (B + q * D) * v + D * w = u0 := by
    have h1 : D * (q * v) = q * D * v := by rw [← Int.mul_assoc, Int.mul_comm D q]
    rw [hu, Int.mul_add, h1] at e1
    rw [Int.add_mul]; omega
  have g2 : (A + q * C) * v + C * w = v0 := by
    have h1 : C * (q * v) = q * C * v := by rw [← Int.mul_assoc, Int.mul_comm C q]
    rw [hu, Int.mul_add, h1] at e2
    rw [Int.add_mul]; omega
  obtain ⟨C', hC'⟩ : ∃ C', A + q * C = C' := ⟨_, rfl⟩
  obtain ⟨D', hD'⟩ : ∃ D', B + q * D = D' := ⟨_, rfl⟩
  rw [hC'] at f1 g2
  rw [hD'] at f2 g1
  have b1 : 0 ≤ D' * (v - 1) := Int.mul_nonneg (by omega) (by omega)
  have b2 : 0 ≤ C' * (v - 1) := Int.mul_nonneg (by omega) (by omega)
  have b3 : 0 ≤ D * w := Int.mul_nonneg (by omega) hw0
  have b4 : 0 ≤ C * w := Int.mul_nonneg (by omega) hw0
  rw [Int.mul_sub, Int.mul_one] at b1 b2
  have k1 := abs_s hs (show 0 ≤ D' by omega)
  have k2 := abs_s hs (show 0 ≤ C' by omega)
  have k3 := abs_s hs (show 0 ≤ q * C by omega)
  have k4 := abs_s hs (show 0 ≤ q * D by omega)
  have k5 := abs_s hs (show 0 ≤ D by omega)
  rw [← f2] at k1
  rw [← f1] at k2
  rw [← f3] at k3
  rw [← f4] at k4
  rw [← hd] at k5
  refine ⟨_, _, rfl, rfl, by omega, by omega, by omega, by omega, by omega, by omega, fun hF hFD => ?_⟩
  rw [k1.2] at hF hFD
  rw [k5.1] at hFD
  have hD'31 : D' < 2147483648 := by
    rcases Int.lt_or_le D' 2147483648 with h1 | h1
    · exact h1
    · have h2 : 2147483648 * 2147483648 ≤ D' * v := Int.mul_le_mul h1 (by omega) (by decide) (by omega)
      omega
  have hs' : -s = 1 ∨ -s = -1 := by rcases hs with rfl | rfl <;> simp
  have eW : (a - q * c) * X + (b - q * d) * Y = (a * X + b * Y) - q * (c * X + d * Y) := by
    rw [Int.sub_mul, Int.sub_mul, Int.mul_add, Int.mul_assoc, Int.mul_assoc]; omega
  have ew : (a - q * c) * u0 + (b - q * d) * v0 = (a * u0 + b * v0) - q * (c * u0 + d * v0) := by
    rw [Int.sub_mul, Int.sub_mul, Int.mul_add, Int.mul_assoc, Int.mul_assoc]; omega
  have nV := near_off hs hC0 hCD hD1 hx0 hx1 hy0 hy1
  have nW := near_off hs' (show 0 ≤ C' by omega) (show C' ≤ D' by omega) (show 1 ≤ D' by omega) hx0 hx1 hy0 hy1
  have split : ∀ m n : Int, m * X + n * Y = (m * u0 + n * v0) * P + (m * x1 + n * y1) := fun m n => by
    rw [hX, hY, Int.mul_add, Int.mul_add, Int.add_mul, Int.mul_assoc, Int.mul_assoc]; omega
  have eV2 : c * x1 + d * y1 = s * (D * y1 - C * x1) := by
    rw [hc, hd, Int.neg_mul, Int.mul_sub, Int.mul_assoc, Int.mul_assoc]; omega
  have eW2 : (a - q * c) * x1 + (b - q * d) * y1 = -s * (D' * y1 - C' * x1) := by
    rw [f1, f2, Int.neg_mul, Int.neg_mul, Int.mul_sub, Int.mul_assoc, Int.mul_assoc]; omega
  have sV := split c d
  have sW := split (a - q * c) (b - q * d)
  rw [← e4, eV2] at sV
  have ew2 : (a - q * c) * u0 + (b - q * d) * v0 = w := by rw [ew, ← e3, ← e4]; omega
  rw [ew2, eW2] at sW
  rw [← eV2] at nV
  have c1 : 0 ≤ (w - D') * P := Int.mul_nonneg (by omega) (by omega)
  have c2 : 0 ≤ (v - w - (D' + D)) * P := Int.mul_nonneg (by omega) (by omega)
  rw [Int.sub_mul] at c1
  rw [Int.sub_mul, Int.sub_mul, Int.add_mul] at c2
  rw [eV2] at nV
  have hW0 : 0 < (a - q * c) * X + (b - q * d) * Y := by omega
  have hVW : (a - q * c) * X + (b - q * d) * Y < c * X + d * Y := by omega
  refine ⟨-s, C, D, C', D', hs', by rw [hc, Int.neg_mul], by rw [hd, Int.neg_mul, Int.neg_neg], by rw [f1, Int.neg_mul, Int.neg_neg], by rw [f2, Int.neg_mul], by omega, by omega, ⟨hw0, by omega, g1, g2, e4, ew2.symm⟩, ⟨by omega, by omega, by omega, fun _ => by omega⟩, ?_⟩
  rw [← hg]
  exact gcd_step (by omega) t1 (by omega) (by omega) eW
theorem EuSteps.done {X Y u0 v0 a b c d u v : Int} (h : EuSteps X Y u0 v0 a b c d u v) :
    (-2147483648 < a ∧ a < 2147483648 ∧ -2147483648 < b ∧ b < 2147483648 ∧ -2147483648 < c ∧ c < 2147483648 ∧ -2147483648 < d ∧ d < 2147483648) ∧ (0 ≤ a ∧ b ≤ 0 ∧ c ≤ 0 ∧ 0 ≤ d ∨ a ≤ 0 ∧ 0 ≤ b ∧ 0 ≤ c ∧ d ≤ 0) := by
  obtain ⟨s, A, B, C, D, hs, ha, hb, hc, hd, ⟨hA0, hB0, hC0, hD1, hCD, hAC⟩, ⟨hA, hB, hC, hD⟩, _⟩ := h
  rcases hs with rfl | rfl
  · simp only [Int.one_mul] at ha hb hc hd; omega
  · simp only [Int.neg_mul, Int.one_mul, Int.neg_neg] at ha hb hc hd; omega
end Cin

namespace Cin
open Go Go.RowKit
def Four (w : World) (b : Nat) (t : TypeId) (x0 x1 x2 x3 : Value) : Prop := w.heap[b]? = some (.cells #[x0, x1, x2, x3] t (0, 0))
section
variable {w w' : World} {b : Nat} {t : TypeId} {x0 x1 x2 x3 : Value}
theorem Four.below (h : Four w b t x0 x1 x2 x3) (hb : Below w.heap.size w w') : Four w' b t x0 x1 x2 x3 := (hb.block _ (lt_of_heap h)).trans h
theorem Four.lt (h : Four w b t x0 x1 x2 x3) : b < w.heap.size := lt_of_heap h
theorem Four.cells (h : Four w b t x0 x1 x2 x3) : w.cell? ⟨b, 0, none⟩ = some x0 ∧ w.cell? ⟨b, 1, none⟩ = some x1 ∧ w.cell? ⟨b, 2, none⟩ = some x2 ∧ w.cell? ⟨b, 3, none⟩ = some x3 :=
  ⟨by rw [cell_of h]; simp, by rw [cell_of h]; simp, by rw [cell_of h]; simp, by rw [cell_of h]; simp⟩
theorem Four.free (h : Four w b t x0 x1 x2 x3) : w.frozen? ⟨b, 0, none⟩ = false ∧ w.frozen? ⟨b, 1, none⟩ = false ∧ w.frozen? ⟨b, 2, none⟩ = false ∧ w.frozen? ⟨b, 3, none⟩ = false := ⟨free_of h 0, free_of h 1, free_of h 2, free_of h 3⟩
theorem Four.set (h : Four w b t x0 x1 x2 x3) (y0 y1 y2 y3 : Value) : Four ((((w.setCell ⟨b, 0, none⟩ y0).setCell ⟨b, 1, none⟩ y1).setCell ⟨b, 2, none⟩ y2).setCell ⟨b, 3, none⟩ y3) b t y0 y1 y2 y3 := by
  unfold Four at h ⊢
  simp [World.setCell, Array.getElem?_modify, h]
theorem Four.other (h : Four w b t x0 x1 x2 x3) {c : Nat} (hc : b ≠ c) (y0 y1 y2 y3 : Value) : Four ((((w.setCell ⟨c, 0, none⟩ y0).setCell ⟨c, 1, none⟩ y1).setCell ⟨c, 2, none⟩ y2).setCell ⟨c, 3, none⟩ y3) b t x0 x1 x2 x3 := by
  unfold Four at h ⊢
  rw [Below.heap_setCell _ _ _ _ (show b ≠ _ from hc), Below.heap_setCell _ _ _ _ (show b ≠ _ from hc), Below.heap_setCell _ _ _ _ (show b ≠ _ from hc), Below.heap_setCell _ _ _ _ (show b ≠ _ from hc)]
  exact h
theorem Four.drew (h : Four w b t x0 x1 x2 x3) : Four w.drew b t x0 x1 x2 x3 := h
theorem bel_four {B : Nat} {w X : World} {b : Nat} {y0 y1 y2 y3 : Value} (h : Below B w X) (hb : B ≤ b) : Below B w ((((X.setCell ⟨b, 0, none⟩ y0).setCell ⟨b, 1, none⟩ y1).setCell ⟨b, 2, none⟩ y2).setCell ⟨b, 3, none⟩ y3) := bel_set2 (bel_set2 h hb hb) hb hb
end
end Cin
namespace Go.Proofs.YtfohgkabmdhhaaaGreatDoor
open Go.RowKit Cin
set_option maxHeartbeats 1000000 in
theorem gcdWords_any (a b : Nat) (w : World) (ha : a < 18446744073709551616) (hb : b < 18446744073709551616) :
    Calls Tryz.prog 158 #[.int .u64 a, .int .u64 b] w fun e w' => e = .returned (.int .u64 (Nat.gcd a b : Nat)) ∧ Below w.heap.size w w' := by
  go_enter Tryz.func158, Tryz.ntmps158
  go_wp2_with fail
  go_loopg [0, 1] b (fun g x y wr => ∃ A : Nat, x = .int .u64 A ∧ y = .int .u64 g ∧ A < 18446744073709551616 ∧ g < 18446744073709551616 ∧ Nat.gcd A g = Nat.gcd a b ∧ Below w.heap.size w wr)
  case atStart => exact ⟨a, rfl, rfl, ha, hb, rfl, Below.refl _ _⟩
  case round =>
    obtain ⟨A, rfl, rfl, hA, hG, hg, hbel⟩ := hrel
    have HG := Lib.hid hg
    have HBE := Lib.hid hbel
    clear hg hbel
    by_cases h0 : gk = 0
    · subst h0
      rw [Nat.gcd_zero_right] at HG
      go_wp2_with fail
      go_ret
      exact ⟨by rw [← HG.out]; rfl, HBE.out⟩
    · have hne : ((gk : Int) == 0) = false := by simp; exact h0
      obtain ⟨r, hr, er⟩ : ∃ r : Nat, (A : Int).tmod (gk : Int) = (r : Int) ∧ r = A % gk := ⟨A % gk, rfl, rfl⟩
      have hrb := Nat.mod_lt A (Nat.pos_of_ne_zero h0)
      rw [← er] at hrb
      have ER := Lib.hid er
      clear er
      go_wp2_with fail
      go_big_region
      go_wp2_with fail
      go_roundg r
      case measure => exact hrb
      case rel => exact ⟨gk, rfl, rfl, hG, by omega, by rw [← HG.out, ER.out, Nat.gcd_comm A gk, Nat.gcd_rec gk A, Nat.gcd_comm], HBE.out.drew⟩
set_option maxHeartbeats 400000 in
theorem nabs_any (z : Int) (w : World) (h0 : -9223372036854775808 < z) (h1 : z < 9223372036854775808) :
    Calls Tryz.prog 189 #[.int .i64 z] w fun e w' => e = .returned (.int .i64 (z.natAbs : Nat)) ∧ Below w.heap.size w w' := by
  by_cases hz : z < 0
  · go_enter Tryz.func189, Tryz.ntmps189
    go_wp2
    go_ret
    exact ⟨ret_int (by omega), Below.refl _ _⟩
  · go_enter Tryz.func189, Tryz.ntmps189
    go_wp2
    go_ret
    exact ⟨ret_int (by omega), Below.refl _ _⟩
set_option maxHeartbeats 400000 in
theorem moves_any (a b c d : Int) (w : World) :
    Calls Tryz.prog 162 #[.agg #[.int .i64 a, .int .i64 b, .int .i64 c, .int .i64 d]] w fun e w' => e = .returned (.bool (!decide (b = 0))) ∧ Below w.heap.size w w' := by
  by_cases hz : b = 0
  · subst hz
    go_enter Tryz.func162, Tryz.ntmps162
    go_wp2
    go_ret
    exact ⟨rfl, bel_alloc _ _⟩
  · have hb0 : (b != 0) = true := by simpa using hz
    rw [decide_eq_false hz]
    go_enter Tryz.func162, Tryz.ntmps162
    go_wp2
    go_ret
    exact ⟨rfl, bel_alloc _ _⟩
end Go.Proofs.YtfohgkabmdhhaaaGreatDoor

namespace Cin
open Go Go.RowKit
theorem heads {X Y k : Nat} (hX : IsBl X k) (hk : 62 ≤ k) (hYX : Y ≤ X) :
    ∃ u0 v0 x1 y1 P : Nat, X / 2 ^ (k - 62) % 18446744073709551616 = u0 ∧ Y / 2 ^ (k - 62) % 18446744073709551616 = v0 ∧ u0 < 4611686018427387904 ∧ v0 ≤ u0 ∧ X = u0 * P + x1 ∧ Y = v0 * P + y1 ∧ x1 < P ∧ y1 < P := by
  have hP : 0 < 2 ^ (k - 62) := Nat.pow_pos (by decide)
  have h1 : X / 2 ^ (k - 62) < 4611686018427387904 := by
    rw [Nat.div_lt_iff_lt_mul hP]
    have h2 := hX.1
    rw [show k = 62 + (k - 62) by omega, Nat.pow_add] at h2
    simpa using h2
  have h2 : Y / 2 ^ (k - 62) ≤ X / 2 ^ (k - 62) := Nat.div_le_div_right hYX
  refine ⟨_, _, X % 2 ^ (k - 62), Y % 2 ^ (k - 62), 2 ^ (k - 62), Nat.mod_eq_of_lt (by omega), Nat.mod_eq_of_lt (by omega), h1, h2, ?_, ?_, Nat.mod_lt _ hP, Nat.mod_lt _ hP⟩
  · rw [Nat.mul_comm, Nat.div_add_mod]
  · rw [Nat.mul_comm, Nat.div_add_mod]
theorem quot_facts {U V : Int} (hV : 1 ≤ V) (hVU : V ≤ U) : ∃ q r : Int, U / V = q ∧ U - q * V = r ∧ 1 ≤ q ∧ q ≤ U ∧ 0 ≤ r ∧ r < V ∧ U = q * V + r ∧ U.tdiv V = q := by
  have h1 := Int.emod_nonneg U (show V ≠ 0 by omega)
  have h2 := Int.emod_lt_of_pos U (show 0 < V by omega)
  have h3 := Int.mul_ediv_add_emod U V
  rw [Int.mul_comm] at h3
  have h4 : 1 ≤ U / V := Int.le_ediv_of_mul_le (by omega) (by omega)
  have h5 : U / V ≤ U := Int.ediv_le_self _ (by omega)
  exact ⟨_, _, rfl, rfl, h4, h5, by omega, by omega, by omega, Int.tdiv_eq_ediv_of_nonneg (by omega)⟩
end Cin
namespace Go.Proofs.YtfohgkabmdhhaaaGreatDoor
open Go.RowKit Cin
def SurePost (X Y : Nat) (w : World) (e : Ending) (w' : World) : Prop :=
  ∃ a b c d u v u0 v0 : Int, e = .returned (.agg #[.int .i64 a, .int .i64 b, .int .i64 c, .int .i64 d]) ∧ EuSteps X Y u0 v0 a b c d u v ∧ Below w.heap.size w w'
def SureRel (X Y : Nat) (u0 v0 : Int) (R F : Nat) (w : World) (g : Nat) (xu xv : Value) (wr : World) : Prop :=
  ∃ (U V a b c d : Int) (y0 y1 y2 y3 : Value), xu = .int .i64 U ∧ xv = .int .i64 V ∧ g = V.toNat ∧ EuSteps X Y u0 v0 a b c d U V ∧ U < 4611686018427387904 ∧ Four wr F 178 (.int .i64 a) (.int .i64 b) (.int .i64 c) (.int .i64 d) ∧ Four wr R 178 y0 y1 y2 y3 ∧ Below w.heap.size w wr
set_option maxRecDepth 100000 in
set_option maxHeartbeats 4000000 in
theorem sure_any (v u : Value) (X Y L : Nat) (w : World) (h : RefV 146 w v X) (h' : RefV 146 w u Y) (hXY : Y ≤ X) (hL : X < pw L) (hLb : L ≤ 10000000) (hbig : 18446744073709551616 ≤ Y) :
    Calls Tryz.prog 161 #[v, u] w (SurePost X Y w) := by
  obtain ⟨ad, len, cap, xs, rfl, hs⟩ := h.shape
  have H := Lib.hid h
  have H' := Lib.hid h'
  clear h h' hs
  go_enter Tryz.func161, Tryz.ntmps161
  go_wp2_with fail
  refine (bits_any _ X L _ ⟨_, rfl, H.out.below (bel_alloc _ _)⟩ hL (by omega)).mono ?_
  rintro e w1 ⟨k, rfl, hk, hb1⟩
  have hk62 : 65 ≤ k := by
    rcases Nat.lt_or_ge k 65 with h1 | h1
    · have h2 := Nat.pow_le_pow_right (n := 2) (by decide) (show k ≤ 64 by omega)
      have := hk.1
      omega
    · exact h1
  have hk32 : k ≤ 32 * L := by
    rcases hk.2 with e | e
    · omega
    · rcases Nat.lt_or_ge (32 * L) k with h1 | h1
      · have := Nat.pow_le_pow_right (n := 2) (by decide) (show 32 * L ≤ k - 1 by omega)
        rw [pw_two] at hL
        omega
      · exact h1
  obtain ⟨u0, v0, x1, y1, P, eu, ev, hu0, hvu, eX, eY, hx1, hy1⟩ := heads hk (by omega) hXY
  obtain ⟨cut, hcut, ecut⟩ : ∃ cut : Nat, (k : Int) - 62 = (cut : Int) ∧ k - 62 = cut := ⟨k - 62, by omega, rfl⟩
  rw [ecut] at eu ev
  have hcb : cut ≤ 1000000000000 := by omega
  have HR := Lib.hid ((heldN1 (w := w)).below hb1).1
  have HB1 := Lib.hid (bel_on (bel_alloc w (Obj.cells #[Value.int IntKind.i64 0, Value.int IntKind.i64 0, Value.int IntKind.i64 0, Value.int IntKind.i64 0] 178)) hb1)
  obtain ⟨xs, hsx, okx, _, hvx⟩ := H.out.below HB1.out
  obtain ⟨ys, hsy, oky, _, hvy⟩ := H'.out.below HB1.out
  have hs1 := hb1.size
  simp only [World.size_alloc] at hs1
  have HK := Lib.hid (And.intro eX eY)
  clear hk hb1 eX eY ecut
  go_wp2_with fail
  refine (window_any _ xs cut _ hsx okx hcb).mono ?_
  rintro e w2 ⟨rfl, n2, hw2⟩
  have hb2 : Below w1.heap.size w1 w2 := by rw [hw2]; exact bel_drewN (Below.refl _ _) _
  rw [hvx, eu]
  clear hw2
  go_wp2_with fail
  refine (window_any _ ys cut _ (hsy.below hb2) oky hcb).mono ?_
  rintro e w3 ⟨rfl, n3, hw3⟩
  have hb3 : Below w2.heap.size w2 w3 := by rw [hw3]; exact bel_drewN (Below.refl _ _) _
  rw [hvy, ev]
  have HR3 := Lib.hid (show Four w3 w.heap.size 178 (.int .i64 0) (.int .i64 0) (.int .i64 0) (.int .i64 0) from (show Four w1 w.heap.size 178 (.int .i64 0) (.int .i64 0) (.int .i64 0) (.int .i64 0) from HR.out).below (bel_on hb2 hb3))
  have HB3 := Lib.hid (bel_on HB1.out (bel_on hb2 hb3))
  have hsz : w1.heap.size ≤ w3.heap.size := (bel_on hb2 hb3).size
  clear hsx hsy hvx hvy eu ev okx oky hcut hcb hb2 hb3 hw3
  go_wp2_with fail
  have HF := Lib.hid (show Four (w3.alloc (Obj.cells #[Value.int IntKind.i64 1, Value.int IntKind.i64 0, Value.int IntKind.i64 0, Value.int IntKind.i64 1] 178)) w3.heap.size 178 (.int .i64 1) (.int .i64 0) (.int .i64 0) (.int .i64 1) from new_block _ _)
  have HR4 := Lib.hid (HR3.out.below (bel_alloc _ (Obj.cells #[Value.int IntKind.i64 1, Value.int IntKind.i64 0, Value.int IntKind.i64 0, Value.int IntKind.i64 1] 178)))
  have HB4 := Lib.hid (bel_on HB3.out (bel_alloc _ (Obj.cells #[Value.int IntKind.i64 1, Value.int IntKind.i64 0, Value.int IntKind.i64 0, Value.int IntKind.i64 1] 178)))
  clear HR HR3 HB3 HB1
  generalize w3.alloc (Obj.cells #[Value.int IntKind.i64 1, Value.int IntKind.i64 0, Value.int IntKind.i64 0, Value.int IntKind.i64 1] 178) = W at *
  go_loopg [6, 7, 9, 10, 11, 12] v0 (fun g xu xv _ _ _ _ wr => SureRel X Y u0 v0 w.heap.size w3.heap.size w g xu xv wr)
  case atStart => exact ⟨u0, v0, 1, 0, 0, 1, _, _, _, _, rfl, rfl, by simp, EuSteps.start (by omega) (by omega) (by omega) (by omega), by omega, HF.out, HR4.out, HB4.out⟩
  case round =>
    obtain ⟨U, V, a, b, c, d, z0, z1, z2, z3, rfl, rfl, hg, hst, hU62, hF, hRR, hbel⟩ := hrel
    have HST := Lib.hid hst
    clear HF HR4 HB4
    have HF := Lib.hid hF
    have HRR := Lib.hid hRR
    have HBE := Lib.hid hbel
    have HG := Lib.hid hg
    have hVs : 0 ≤ V ∧ V ≤ U := let ⟨_, _, _, _, _, _, _, _, _, _, _, _, ⟨h1, h2, _⟩, _⟩ := hst; ⟨h1, h2⟩
    have hfs := hst.done.1
    clear hst hF hRR hbel hg
    by_cases hV : V = 0
    · subst hV
      obtain ⟨hf0, hf1, hf2, hf3⟩ := HF.out.cells
      obtain ⟨hr0, hr1, hr2, hr3⟩ := HRR.out.cells
      obtain ⟨hq0, hq1, hq2, hq3⟩ := HRR.out.free
      have HSET := Lib.hid (HRR.out.set (.int .i64 a) (.int .i64 b) (.int .i64 c) (.int .i64 d)).cells
      have HEND := Lib.hid (bel_four (b := w.heap.size) (y0 := .int .i64 a) (y1 := .int .i64 b) (y2 := .int .i64 c) (y3 := .int .i64 d) HBE.out (Nat.le_refl _))
      go_wp2_with fail
      refine bodyPost_ret (v := .agg #[.int .i64 a, .int .i64 b, .int .i64 c, .int .i64 d]) (by simp [results, Tryz.results161, go_sem, HSET.out.1, HSET.out.2.1, HSET.out.2.2.1, HSET.out.2.2.2]) rfl ⟨a, b, c, d, _, _, _, _, rfl, HST.out, HEND.out⟩
    · have hV0 : (V == 0) = false := by simpa using hV
      obtain ⟨q, r, eq, er, hq1, hqU, hr0, hrV, hU, etd⟩ := quot_facts (show 1 ≤ V by omega) hVs.2
      obtain ⟨M, hM⟩ : ∃ M, q * V = M := ⟨_, rfl⟩
      rw [hM] at er hU
      have wq : IntKind.i64.wrap (U.tdiv V) = q := by rw [etd, IntWalk.i64_in _ (by omega)]
      have wq2 : IntKind.i64.wrap q = q := IntWalk.i64_in _ (by omega)
      have wM : IntKind.i64.wrap (q * V) = M := by rw [hM, IntWalk.i64_in _ (by omega)]
      have wr1 : IntKind.i64.wrap (U - M) = r := by rw [er, IntWalk.i64_in _ (by omega)]
      obtain ⟨Fn, Dn, eF, eD, hF62, hD31, hqc, hqd, hac, hbd, hnext⟩ := HST.out.next (q := q) (w := r) (P := P) (x1 := x1) (y1 := y1) (by omega) (by omega) (by omega) hq1 hr0 hrV (by omega) (by have := HK.out.1; rw [this]; simp) (by have := HK.out.2; rw [this]; simp) (by omega) (by omega) (by omega) (by omega)
      have HN := Lib.hid hnext
      obtain ⟨qc, eqc⟩ : ∃ z, q * c = z := ⟨_, rfl⟩
      obtain ⟨qd, eqd⟩ : ∃ z, q * d = z := ⟨_, rfl⟩
      rw [eqc] at hqc hac HN
      rw [eqd] at hqd hbd HN eF
      obtain ⟨wx, ewx⟩ : ∃ z, a - qc = z := ⟨_, rfl⟩
      obtain ⟨wy, ewy⟩ : ∃ z, b - qd = z := ⟨_, rfl⟩
      rw [ewx] at hac HN
      rw [ewy] at hbd HN eF
      have w1' : IntKind.i64.wrap (q * c) = qc := by rw [eqc, IntWalk.i64_in _ (by omega)]
      have w2' : IntKind.i64.wrap (q * d) = qd := by rw [eqd, IntWalk.i64_in _ (by omega)]
      have w3' : IntKind.i64.wrap (a - qc) = wx := by rw [ewx, IntWalk.i64_in _ (by omega)]
      have w4' : IntKind.i64.wrap (b - qd) = wy := by rw [ewy, IntWalk.i64_in _ (by omega)]
      obtain ⟨hf0, hf1, hf2, hf3⟩ := HF.out.cells
      clear hnext eq er hU etd hM eqc eqd ewx ewy
      obtain ⟨Z, wZ, eZ⟩ : ∃ Z, IntKind.i64.wrap (V - r) = Z ∧ Z = V - r := ⟨_, IntWalk.i64_in _ (by omega), rfl⟩
      obtain ⟨G, wG, eG⟩ : ∃ G, IntKind.i64.wrap ((Fn : Int) + (Dn : Int)) = G ∧ G = (Fn : Int) + (Dn : Int) := ⟨_, IntWalk.i64_in _ (by omega), rfl⟩
      have EZ := Lib.hid (And.intro eZ eG)
      clear eZ eG
      by_cases c1 : r < (Fn : Int)
      · go_wp2_with fail
        go_big_region
        go_wp2_with fail
        refine wp_region_sched (fun w' => w'.cell? ⟨w3.heap.size, 3, none⟩ = some (.int .i64 d) ∧ Below wr.heap.size wr w') [(0, true), (1, true), (2, false), (3, true), (4, true), (5, true), (6, true), (7, true), (8, true), (10, true), (11, true), (9, false), (12, false), (13, true), (14, true), (15, true)] (by kernel_rfl) (by kernel_rfl) ?_ (fun hHeld => ?_)
        · (try dsimp only)
          exact ⟨hf3, (Below.refl _ wr).drew.drew⟩
        try dsimp only at hHeld
        repeat (refine wpSched_at (by simp only [List.getElem?_toArray, List.getElem?_cons_zero, List.getElem?_cons_succ]; rfl) ?_; (first | (apply wpAt_take rfl; (intro wx hSx; (try dsimp only at hSx); go_simp; (try with_reducible rfl)); simp only [Act.put, List.setIfInBounds_toArray, List.set_cons_zero, List.set_cons_succ]) | (refine wpAt_skip rfl ?_; simp only [Act.put, List.setIfInBounds_toArray, List.set_cons_zero, List.set_cons_succ]) | (refine wpAt_pass rfl hHeld ?_; simp only [Act.put, List.setIfInBounds_toArray, List.set_cons_zero, List.set_cons_succ]) | (refine wpAt_eff rfl (fun K hK => ?_); (skip); go_simp; (first | (go_at_call 189; (with_reducible refine (nabs_any wy _ (by omega) (by omega)).mono ?_); rintro e w' ⟨rfl, hb⟩; rw [eF]; have hS := And.intro trivial (And.intro (cell_below hHeld.1 hb) (bel_on hHeld.2 hb)); clear hb hHeld) | (go_at_call 189; (with_reducible refine (nabs_any d _ (by omega) (by omega)).mono ?_); rintro e w' ⟨rfl, hb⟩; rw [eD]; have hS := And.intro trivial (And.intro (cell_below hHeld.1 hb) (bel_on hHeld.2 hb)); clear hb hHeld)); (refine hK.out _ _ ?_ (fun hHeld => ?_)); ((try dsimp only); ((try simp only [cell_drew, slot_drew, below_drew]); refine ⟨?_, ?_⟩; (first | exact hS.2.1 | with_reducible exact cell_set hHeld.1 (by omega) | with_reducible exact cell_set (cell_set hHeld.1 (by omega)) (by omega)); (first | exact hS.2.2 | with_reducible exact bel_set1 hHeld.2 (by omega) | with_reducible exact bel_set2 hHeld.2 (by omega) (by omega)))); clear hK K; (try clear hS); (try clear hfx0 hx0 x0); (try clear hfy0 hy0 y0); (try clear hfx1 hx1 x1); (try clear hfy1 hy1 y1); (try dsimp only at hHeld))))
        refine wpSched_nil ?_
        rename_i wz _ _
        have HBZ := Lib.hid hHeld.2
        clear hHeld
        have HFZ := Lib.hid (HF.out.below HBZ.out)
        have HRZ := Lib.hid (HRR.out.below HBZ.out)
        have HEZ := Lib.hid (bel_on HBE.out HBZ.out)
        clear hf0 hf1 hf2 hf3
        obtain ⟨hf0, hf1, hf2, hf3⟩ := HFZ.out.cells
        obtain ⟨hr0, hr1, hr2, hr3⟩ := HRZ.out.cells
        obtain ⟨hq0, hq1, hq2, hq3⟩ := HRZ.out.free
        have HSET := Lib.hid (HRZ.out.set (.int .i64 a) (.int .i64 b) (.int .i64 c) (.int .i64 d)).cells
        have HEND := Lib.hid (bel_four (b := w.heap.size) (y0 := .int .i64 a) (y1 := .int .i64 b) (y2 := .int .i64 c) (y3 := .int .i64 d) HEZ.out (Nat.le_refl _))
        go_wp2_with fail
        refine bodyPost_ret (v := .agg #[.int .i64 a, .int .i64 b, .int .i64 c, .int .i64 d]) (by simp [results, Tryz.results161, go_sem, HSET.out.1, HSET.out.2.1, HSET.out.2.2.1, HSET.out.2.2.2]) rfl ⟨a, b, c, d, _, _, _, _, rfl, HST.out, HEND.out⟩
      · have hd1 : decide (r < (Fn : Int)) = false := decide_eq_false c1
        by_cases c2 : Z < G
        · have hd2 : decide (Z < G) = true := decide_eq_true c2
          go_wp2_with fail
          go_big_region
          go_wp2_with fail
          refine wp_region_sched (fun w' => w'.cell? ⟨w3.heap.size, 3, none⟩ = some (.int .i64 d) ∧ Below wr.heap.size wr w') [(0, true), (1, true), (2, false), (3, true), (4, true), (5, true), (6, true), (7, true), (8, true), (10, true), (11, true), (9, false), (12, false), (13, true), (14, true), (15, true)] (by kernel_rfl) (by kernel_rfl) ?_ (fun hHeld => ?_)
          · (try dsimp only)
            exact ⟨hf3, (Below.refl _ wr).drew.drew⟩
          try dsimp only at hHeld
          repeat (refine wpSched_at (by simp only [List.getElem?_toArray, List.getElem?_cons_zero, List.getElem?_cons_succ]; rfl) ?_; (first | (apply wpAt_take rfl; (intro wx hSx; (try dsimp only at hSx); go_simp; (try with_reducible rfl)); simp only [Act.put, List.setIfInBounds_toArray, List.set_cons_zero, List.set_cons_succ]) | (refine wpAt_skip rfl ?_; simp only [Act.put, List.setIfInBounds_toArray, List.set_cons_zero, List.set_cons_succ]) | (refine wpAt_pass rfl hHeld ?_; simp only [Act.put, List.setIfInBounds_toArray, List.set_cons_zero, List.set_cons_succ]) | (refine wpAt_eff rfl (fun K hK => ?_); (skip); go_simp; (first | (go_at_call 189; (with_reducible refine (nabs_any wy _ (by omega) (by omega)).mono ?_); rintro e w' ⟨rfl, hb⟩; rw [eF]; have hS := And.intro trivial (And.intro (cell_below hHeld.1 hb) (bel_on hHeld.2 hb)); clear hb hHeld) | (go_at_call 189; (with_reducible refine (nabs_any d _ (by omega) (by omega)).mono ?_); rintro e w' ⟨rfl, hb⟩; rw [eD]; have hS := And.intro trivial (And.intro (cell_below hHeld.1 hb) (bel_on hHeld.2 hb)); clear hb hHeld)); (refine hK.out _ _ ?_ (fun hHeld => ?_)); ((try dsimp only); ((try simp only [cell_drew, slot_drew, below_drew]); refine ⟨?_, ?_⟩; (first | exact hS.2.1 | with_reducible exact cell_set hHeld.1 (by omega) | with_reducible exact cell_set (cell_set hHeld.1 (by omega)) (by omega)); (first | exact hS.2.2 | with_reducible exact bel_set1 hHeld.2 (by omega) | with_reducible exact bel_set2 hHeld.2 (by omega) (by omega)))); clear hK K; (try clear hS); (try clear hfx0 hx0 x0); (try clear hfy0 hy0 y0); (try clear hfx1 hx1 x1); (try clear hfy1 hy1 y1); (try dsimp only at hHeld))))
          refine wpSched_nil ?_
          rename_i wz _ _
          have HBZ := Lib.hid hHeld.2
          clear hHeld
          have HFZ := Lib.hid (HF.out.below HBZ.out)
          have HRZ := Lib.hid (HRR.out.below HBZ.out)
          have HEZ := Lib.hid (bel_on HBE.out HBZ.out)
          clear hf0 hf1 hf2 hf3
          obtain ⟨hf0, hf1, hf2, hf3⟩ := HFZ.out.cells
          obtain ⟨hr0, hr1, hr2, hr3⟩ := HRZ.out.cells
          obtain ⟨hq0, hq1, hq2, hq3⟩ := HRZ.out.free
          have HSET := Lib.hid (HRZ.out.set (.int .i64 a) (.int .i64 b) (.int .i64 c) (.int .i64 d)).cells
          have HEND := Lib.hid (bel_four (b := w.heap.size) (y0 := .int .i64 a) (y1 := .int .i64 b) (y2 := .int .i64 c) (y3 := .int .i64 d) HEZ.out (Nat.le_refl _))
          go_wp2_with fail
          refine bodyPost_ret (v := .agg #[.int .i64 a, .int .i64 b, .int .i64 c, .int .i64 d]) (by simp [results, Tryz.results161, go_sem, HSET.out.1, HSET.out.2.1, HSET.out.2.2.1, HSET.out.2.2.2]) rfl ⟨a, b, c, d, _, _, _, _, rfl, HST.out, HEND.out⟩
        · have HN2 := Lib.hid (HN.out (by omega) (by have := EZ.out; omega))
          have hd2 : decide (Z < G) = false := decide_eq_false c2
          clear HN
          go_wp2_with fail
          go_big_region
          go_wp2_with fail
          refine wp_region_sched (fun w' => w'.cell? ⟨w3.heap.size, 3, none⟩ = some (.int .i64 d) ∧ Below wr.heap.size wr w') [(0, true), (1, true), (2, false), (3, true), (4, true), (5, true), (6, true), (7, true), (8, true), (10, true), (11, true), (9, false), (12, false), (13, true), (14, true), (15, true)] (by kernel_rfl) (by kernel_rfl) ?_ (fun hHeld => ?_)
          · (try dsimp only)
            exact ⟨hf3, (Below.refl _ wr).drew.drew⟩
          try dsimp only at hHeld
          repeat (refine wpSched_at (by simp only [List.getElem?_toArray, List.getElem?_cons_zero, List.getElem?_cons_succ]; rfl) ?_; (first | (apply wpAt_take rfl; (intro wx hSx; (try dsimp only at hSx); go_simp; (try with_reducible rfl)); simp only [Act.put, List.setIfInBounds_toArray, List.set_cons_zero, List.set_cons_succ]) | (refine wpAt_skip rfl ?_; simp only [Act.put, List.setIfInBounds_toArray, List.set_cons_zero, List.set_cons_succ]) | (refine wpAt_pass rfl hHeld ?_; simp only [Act.put, List.setIfInBounds_toArray, List.set_cons_zero, List.set_cons_succ]) | (refine wpAt_eff rfl (fun K hK => ?_); (skip); go_simp; (first | (go_at_call 189; (with_reducible refine (nabs_any wy _ (by omega) (by omega)).mono ?_); rintro e w' ⟨rfl, hb⟩; rw [eF]; have hS := And.intro trivial (And.intro (cell_below hHeld.1 hb) (bel_on hHeld.2 hb)); clear hb hHeld) | (go_at_call 189; (with_reducible refine (nabs_any d _ (by omega) (by omega)).mono ?_); rintro e w' ⟨rfl, hb⟩; rw [eD]; have hS := And.intro trivial (And.intro (cell_below hHeld.1 hb) (bel_on hHeld.2 hb)); clear hb hHeld)); (refine hK.out _ _ ?_ (fun hHeld => ?_)); ((try dsimp only); ((try simp only [cell_drew, slot_drew, below_drew]); refine ⟨?_, ?_⟩; (first | exact hS.2.1 | with_reducible exact cell_set hHeld.1 (by omega) | with_reducible exact cell_set (cell_set hHeld.1 (by omega)) (by omega)); (first | exact hS.2.2 | with_reducible exact bel_set1 hHeld.2 (by omega) | with_reducible exact bel_set2 hHeld.2 (by omega) (by omega)))); clear hK K; (try clear hS); (try clear hfx0 hx0 x0); (try clear hfy0 hy0 y0); (try clear hfx1 hx1 x1); (try clear hfy1 hy1 y1); (try dsimp only at hHeld))))
          refine wpSched_nil ?_
          rename_i wz _ _
          have HBZ := Lib.hid hHeld.2
          clear hHeld
          have HFZ := Lib.hid (HF.out.below HBZ.out)
          have HRZ := Lib.hid (HRR.out.below HBZ.out)
          have HEZ := Lib.hid (bel_on HBE.out HBZ.out)
          clear hf0 hf1 hf2 hf3
          obtain ⟨hf0, hf1, hf2, hf3⟩ := HFZ.out.cells
          obtain ⟨hq0, hq1', hq2, hq3⟩ := HFZ.out.free
          have HFS := Lib.hid (HFZ.out.set (.int .i64 c) (.int .i64 d) (.int .i64 wx) (.int .i64 wy))
          have hRF : w.heap.size ≠ w3.heap.size := by omega
          have HRS := Lib.hid (HRZ.out.other hRF (.int .i64 c) (.int .i64 d) (.int .i64 wx) (.int .i64 wy))
          have HES := Lib.hid (bel_four (b := w3.heap.size) (y0 := .int .i64 c) (y1 := .int .i64 d) (y2 := .int .i64 wx) (y3 := .int .i64 wy) HEZ.out (by omega))
          go_wp2_with fail
          go_roundg r.toNat
          case measure => have := HG.out; omega
          case rel => exact ⟨V, r, c, d, wx, wy, _, _, _, _, rfl, rfl, rfl, HN2.out, by omega, HFS.out, HRS.out, HES.out⟩
end Go.Proofs.YtfohgkabmdhhaaaGreatDoor
