/- nat's Div of long numbers. -/
import Derived.Test.YtpchnejdbmoicaaDoorD3
import Derived.Test.YtpchnejdbmoicaaDoorI5
namespace Go.Proofs.YtpchnejdbmoicaaDoor
open Go.RowKit Cin

theorem wrapB (v : Value) (xs : List Nat) (n k : Nat) (w : World) (h : Sl 68 .u32 w v xs) (ho : Ok xs) (hb : xs.length ≤ 1000000000000) (hn : val xs = n) (hk : n < pw k) :
    Calls Tryd.prog 49 #[v] w fun e w' => ∃ v', e = .returned v' ∧ NatB 68 w' v' n k ∧ Below w.heap.size w w' :=
  (wrap_any v xs w h ho hb).mono fun _ _ ⟨v', e, h1, h2⟩ => ⟨v', e, ⟨by rw [← hn]; exact h1, hk⟩, h2⟩

set_option maxRecDepth 100000 in
set_option maxHeartbeats 4000000 in
/-- Div, long by long. -/
theorem divBig_any (v u : Value) (x y k j : Nat) (w : World) (h : NatB 68 w v x k) (h' : NatB 68 w u y j) (hk : k ≤ 10000000) (hj : j ≤ 10000000) (hxy : y ≤ x) (hx2 : 18446744073709551616 ≤ x) (hy2 : 4294967296 ≤ y) :
    Calls Tryd.prog 25 #[v, u] w fun e w' => ∃ v' u', e = .returned (.tuple #[v', u', .bool true]) ∧ NatB 68 w' v' (x / y) k ∧ NatB 68 w' u' (x % y) j ∧ Below w.heap.size w w' := by
  obtain ⟨ad, len, cap, rfl, xs, hs, ho, hnm, hx⟩ := h.shape
  obtain ⟨ad', len', cap', rfl, ys, hs', ho', hnm', hy'⟩ := h'.shape
  have hlx := hs.len
  have hly := hs'.len
  have hbx := val_lt ho
  have hby := val_lt ho'
  rw [hx, hlx] at hbx
  rw [hy', hly] at hby
  have hl3 : 2 < len := by
    rcases Nat.lt_or_ge 2 len with e | e
    · exact e
    · have := pw_le e; rw [show pw 2 = 18446744073709551616 from rfl] at this; omega
  have hl2 : 1 < len' := by
    rcases Nat.lt_or_ge 1 len' with e | e
    · exact e
    · have := pw_le e; rw [show pw 1 = 4294967296 from rfl] at this; omega
  have hl : len ≤ k := by have := norm_len hnm (m := k) (by rw [hx]; exact h.2); omega
  have hl' : len' ≤ j := by have := norm_len hnm' (m := j) (by rw [hy']; exact h'.2); omega
  have hll : len' ≤ len := by have := norm_len hnm' (m := len) (by rw [hy']; omega); omega
  have htop : lim ys (ys.length - 1) ≠ 0 := (by rcases hnm' with e | e; (rw [e] at hly; simp at hly; omega); exact e)
  have hlb : ((len' : Int) == 0) = false := beq_eq_false_iff_ne.2 (by omega)
  have hlb1 : ((len' : Int) == 1) = false := beq_eq_false_iff_ne.2 (by omega)
  obtain ⟨c, hc, hc0⟩ : ∃ c : Int, cmpI x y = c ∧ 0 ≤ c ∧ c ≤ 1 := by
    refine ⟨_, rfl, ?_⟩
    unfold cmpI
    repeat' split
    all_goals omega
  have hy0 : 0 < y := by omega
  have H := Lib.hid h
  have H' := Lib.hid h'
  have HS := Lib.hid hs
  have HS' := Lib.hid hs'
  have HT := Lib.hid htop
  have HX := Lib.hid hx
  have HY := Lib.hid hy'
  have HLX := Lib.hid hlx
  have HLY := Lib.hid hly
  clear h h' hs hs' hnm hnm' hx hy' hlx hly htop hbx hby hx2 hy2
  go_enter Tryd.func25, Tryd.ntmps25
  go_wp2_with fail
  have hh := heldN4 (w := w) (c0 := #[Value.slice ad len cap]) (t0 := 25) (c1 := #[Value.slice ad' len' cap']) (t1 := 25) (c2 := #[Value.slice none 0 0]) (t2 := 25) (c3 := #[Value.slice none 0 0]) (t3 := 25)
  have hbX := bel_alloc4 w (Obj.cells #[Value.slice ad len cap] 25) (Obj.cells #[Value.slice ad' len' cap'] 25) (Obj.cells #[Value.slice none 0 0] 25) (Obj.cells #[Value.slice none 0 0] 25)
  generalize (((w.alloc (Obj.cells #[Value.slice ad len cap] 25)).alloc (Obj.cells #[Value.slice ad' len' cap'] 25)).alloc (Obj.cells #[Value.slice none 0 0] 25)).alloc (Obj.cells #[Value.slice none 0 0] 25) = X at *
  have hx0 := cell0 hh.1
  have hd0 := cell0 hh.2.1
  have HS0 := Lib.hid (Slot.of (n := 1) hh.2.2.1 rfl)
  have HS1 := Lib.hid (Slot.of (n := 1) hh.2.2.2.1 rfl)
  have HBX := Lib.hid hbX
  have HX0 := Lib.hid hx0
  have HD0 := Lib.hid hd0
  clear hh hbX hx0 hd0
  refine (cmpB _ _ x y k j _ (H.out.below HBX.out) (H'.out.below HBX.out) hk hj).mono ?_
  rintro e w1 ⟨rfl, hb1⟩
  have hx1 := cell_below HX0.out hb1
  have hd1 := cell_below HD0.out hb1
  have HS0 := Lib.hid (HS0.out.below hb1)
  have HS1 := Lib.hid (HS1.out.below hb1)
  have HB1 := Lib.hid (bel_on HBX.out hb1)
  rw [hc]
  clear hb1
  have hcn : decide (c < 0) = false := decide_eq_false (by omega)
  go_wp2_with fail
  have HX1 := Lib.hid hx1
  have HD1 := Lib.hid hd1
  clear hx1 hd1
  refine (divideLong_any _ _ xs ys _ (HS.out.below HB1.out) (HS'.out.below HB1.out) ho ho' (by have := HLY.out; omega) (by have := HLY.out; have := HLX.out; omega) (by have := HLX.out; omega) HT.out).mono ?_
  rintro e w2 ⟨vq, vr, qs, rs, rfl, hq, hr, okq, okr, hqv, hrv, hql, hrl, hb2⟩
  rw [HX.out, HY.out] at hqv hrv
  have HX2 := Lib.hid (cell_below HX1.out hb2)
  have HD2 := Lib.hid (cell_below HD1.out hb2)
  have HS0 := Lib.hid (HS0.out.below hb2)
  have HS1 := Lib.hid (HS1.out.below hb2)
  have HB2 := Lib.hid (bel_on HB1.out hb2)
  have HQ := Lib.hid hq
  have HR := Lib.hid hr.sl
  have HQV := Lib.hid hqv
  have HRV := Lib.hid hrv
  have hqb : qs.length ≤ 1000000000000 := by have := HLX.out; omega
  have hrb : rs.length ≤ 1000000000000 := by have := HLY.out; omega
  have hqk : x / y < pw k := Nat.lt_of_le_of_lt (Nat.div_le_self _ _) H.out.2
  have hrj : x % y < pw j := Nat.lt_trans (Nat.mod_lt _ hy0) H'.out.2
  have HQK := Lib.hid hqk
  have HRJ := Lib.hid hrj
  clear hb2 hq hr hqv hrv hql hrl hqk hrj
  go_wp2_with fail
  refine (wrapB vq qs (x / y) k _ HQ.out okq hqb HQV.out HQK.out).mono ?_
  rintro e w3 ⟨vq', rfl, hn3, hb3⟩
  obtain ⟨adQ, lenQ, capQ, rfl⟩ := hn3.shape2
  have HR3 := Lib.hid (HR.out.below hb3)
  have HN3 := Lib.hid hn3
  have HS0 := Lib.hid (HS0.out.below hb3)
  have HS1 := Lib.hid (HS1.out.below hb3)
  have HB3 := Lib.hid (bel_on HB2.out hb3)
  clear hn3 hb3
  go_wp2_with fail
  refine (wrapB vr rs (x % y) j _ HR3.out okr hrb HRV.out HRJ.out).mono ?_
  rintro e w4 ⟨vr', rfl, hn4, hb4⟩
  obtain ⟨adR, lenR, capR, rfl⟩ := hn4.shape2
  have HN4 := Lib.hid hn4
  have HNQ := Lib.hid (HN3.out.below hb4)
  have HT0 := Lib.hid (HS0.out.below hb4)
  have HT1 := Lib.hid (HS1.out.below hb4)
  have HB4 := Lib.hid (bel_on HB3.out hb4)
  obtain ⟨z0, hz0, hf0⟩ := HT0.out.one
  obtain ⟨z1, hz1, hf1⟩ := (HT1.out.set (w.heap.size + 1 + 1) 0 (.slice adQ lenQ capQ)).one
  clear hn4 hb4
  have HF := Lib.hid (fin_nat2 HNQ.out HN4.out HT0.out HT1.out (by decide) (by decide) HB4.out (by omega) (by omega) (by omega) rfl)
  go_wp2_with fail
  refine bodyPost_ret (v := .tuple #[.agg #[.slice adQ lenQ capQ], .agg #[.slice adR lenR capR], .bool true]) (by simp [results, Tryd.results25, go_sem, HF.out.2.2.2.1, HF.out.2.2.2.2]) rfl ⟨_, _, rfl, HF.out.1, HF.out.2.1, HF.out.2.2.1⟩

end Go.Proofs.YtpchnejdbmoicaaDoor
