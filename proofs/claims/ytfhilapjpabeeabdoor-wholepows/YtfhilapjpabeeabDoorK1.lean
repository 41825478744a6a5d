/- Contracts of whole's Pow, of the document's IntOf(1) and PowInt. -/
import Derived.Test.YtfhilapjpabeeabDoorJ1
import Derived.Test.YtfhilapjpabeeabDoorI6
namespace Cin
open Go
theorem pow_bound {x k e : Nat} (hx : x < pw k) : x ^ e < pw (k * e + 1) := by
  induction e with
  | zero => show 1 < pw (0 + 1); decide
  | succ e ih =>
    rw [Nat.pow_succ, Nat.mul_succ]
    have h := lt_pw_mul ih hx
    rw [show k * e + 1 + k = k * e + k + 1 by omega] at h
    exact h
theorem half_step (m j : Nat) : m / 2 ^ j = 2 * (m / 2 ^ (j + 1)) + m / 2 ^ j % 2 := by
  rw [Nat.pow_succ, ← Nat.div_div_eq_div_mul]
  omega
theorem and_one_i64 (t : Nat) (h : t < 256) : Go.bits .and .i64 (t : Int) 1 = ((t % 2 : Nat) : Int) := by
  show IntKind.i64.wrap ((BitVec.ofInt 64 (t : Int) &&& BitVec.ofInt 64 ((1 : Nat) : Int)).toNat : Int) = _
  rw [BitVec.toNat_and, ofInt_u64 t (by omega), ofInt_u64 1 (by decide), Nat.and_one_is_mod, IntWalk.i64_in _ (by omega)]
theorem neg_pow (a : Nat) : ∀ m : Nat, (-(a : Int)) ^ m = if m % 2 = 1 then -((a ^ m : Nat) : Int) else ((a ^ m : Nat) : Int)
  | 0 => by simp
  | m + 1 => by
    rw [Int.pow_succ, neg_pow a m, Nat.pow_succ]
    by_cases h : m % 2 = 1
    · rw [if_pos h, if_neg (by omega), Int.neg_mul_neg]; simp
    · rw [if_neg h, if_pos (by omega), Int.mul_neg]; simp
theorem sg_pow (x : Int) (m : Nat) : sg (decide (x < 0) && decide (m % 2 = 1)) (x.natAbs ^ m) = x ^ m := by
  by_cases h : x < 0
  · obtain ⟨a, rfl⟩ : ∃ a : Nat, x = -(a : Int) := ⟨x.natAbs, by omega⟩
    rw [decide_eq_true h, Bool.true_and, neg_pow, Int.natAbs_neg, Int.natAbs_natCast]
    unfold sg
    by_cases h1 : m % 2 = 1
    · rw [decide_eq_true h1, if_pos rfl, if_pos h1]
    · rw [decide_eq_false h1, if_neg (by simp), if_neg h1]
  · obtain ⟨a, rfl⟩ := Int.eq_ofNat_of_zero_le (show 0 ≤ x by omega)
    rw [decide_eq_false h, Bool.false_and, Int.natAbs_natCast]
    unfold sg
    rw [if_neg (by simp)]; simp
/-- A number so often by itself: below 0 as 0, beyond 255 as that. -/
def cut255 (n : Int) : Nat := if n < 0 then 0 else if 255 < n then 255 else n.toNat
theorem cut255_le (n : Int) : cut255 n ≤ 255 := by unfold cut255; split; omega; split <;> omega
end Cin
namespace Go.Proofs.YtfhilapjpabeeabDoor
open Go.RowKit Cin

theorem min_max_255 (n : Int) : min (max n 0) 255 = ((cut255 n : Nat) : Int) := by
  unfold cut255
  split
  · omega
  · split <;> omega

set_option maxRecDepth 100000 in
set_option maxHeartbeats 2000000 in
/-- Pow. -/
theorem pow_any (v : Value) (x : Int) (n : Int) (k : Nat) (w : World) (h : IntB 80 w v x k) (hk : k ≤ 1000) (hk1 : 1 ≤ k) (hn0 : -9223372036854775808 ≤ n) (hn1 : n < 9223372036854775808) :
    Calls Tryd.prog 16 #[v, .int .i64 n] w fun e w' => ∃ v', e = .returned v' ∧ IntB 80 w' v' (x ^ cut255 n) (k * 255 + 1) ∧ Below w.heap.size w w' := by
  obtain ⟨bx, ad, len, cap, rfl, hr⟩ := h.shape2
  have H := Lib.hid h.part.1
  have HBX := Lib.hid hr.out
  clear h hr
  obtain ⟨m, hm, hm255⟩ : ∃ m : Nat, cut255 n = m ∧ m ≤ 255 := ⟨_, rfl, cut255_le n⟩
  have hmm := min_max_255 n
  rw [hm] at hmm ⊢
  clear hm
  go_enter Tryd.func16, Tryd.ntmps16
  go_wp2_with fail
  refine (ofB_one _).mono ?_
  rintro e w1 ⟨v1, rfl, hn1', hb1⟩
  obtain ⟨ad1, l1, c1, rfl⟩ := hn1'.shape2
  have hbA := bel_alloc w1 (Obj.cells #[Value.slice ad1 l1 c1] 24)
  have hh := ((heldN2 (w := w)).below hb1).new #[Value.slice ad1 l1 c1] 24
  have hs1 := hb1.size
  simp only [World.size_alloc] at hs1
  have HN1 := Lib.hid (hn1'.below hbA)
  have HB1 := Lib.hid (bel_on (bel_on (bel_alloc2 _ _ _) hb1) hbA)
  have HHA := Lib.hid hh
  have hP : w1.heap.size < (w1.alloc (Obj.cells #[Value.slice ad1 l1 c1] 24)).heap.size := by simp
  clear hn1' hb1 hbA hh
  obtain ⟨L, hL, hLb⟩ : ∃ L : Nat, Lib.bitLen m = L ∧ IsBl m L := ⟨_, rfl, isBl_len m (by omega)⟩
  have HM0 := Lib.hid (show m / 2 ^ L = 0 from Nat.div_eq_of_lt hLb.1)
  have hLs : L ≤ 8 := by
    rcases hLb.2 with h0 | h0
    · omega
    · rcases Nat.lt_or_ge 8 L with h3 | h3
      · have := Nat.pow_le_pow_right (n := 2) (by decide) (show 8 ≤ L - 1 by omega)
        omega
      · exact h3
  clear hLb
  go_wp2_with fail
  refine (Tryd.bits_Len (m : Int) _ (by omega) (by omega)).mono ?_
  rintro e w2 ⟨rfl, rfl⟩
  rw [Int.toNat_natCast, hL]
  generalize w1.alloc (Obj.cells #[Value.slice ad1 l1 c1] 24) = X at *
  clear hL
  go_wp2_with fail
  go_loopw [6] (fun ix wr => ∃ (j : Nat) (adp : Option Addr) (lp cp : Nat), j ≤ L ∧ ix = .int .i64 ((j : Int) - 1) ∧ wr.cell? ⟨w1.heap.size, 0, none⟩ = some (.slice adp lp cp) ∧ Slot wr w1.heap.size 24 1 ∧ NatB 80 wr (.agg #[.slice adp lp cp]) (x.natAbs ^ (m / 2 ^ j)) (k * 255 + 1) ∧
      wr.cell? ⟨w.heap.size, 0, none⟩ = some (.bool bx) ∧ wr.cell? ⟨w.heap.size, 1, none⟩ = some (.slice ad len cap) ∧ Slot wr (w.heap.size + 1) 26 2 ∧ Below w.heap.size w wr) (fun ix _ => (intOf ix + 1).toNat)
  case atStart =>
    refine ⟨L, ad1, l1, c1, Nat.le_refl _, rfl, cell0 HHA.out.1, Slot.of HHA.out.1 rfl, ?_, cell0 HHA.out.2.1, cell1 HHA.out.2.1, Slot.of HHA.out.2.2.1 rfl, HB1.out⟩
    rw [HM0.out, Nat.pow_zero]
    exact HN1.out.mono (by omega)
  case round =>
    obtain ⟨j, adp, lp, cp, hj, rfl, hcp, hsp, hnp, hca0, hca1, hsr, hbel⟩ := hrel
    have HSP := Lib.hid hsp
    have HNP := Lib.hid hnp
    have HSR := Lib.hid hsr
    have HBE := Lib.hid hbel
    have hPl := hsp.lt
    clear hsp hnp hsr hbel
    by_cases hj0 : j = 0
    · subst hj0
      rw [Nat.pow_zero, Nat.div_one] at HNP
      have HKB := Lib.hid (show k * 255 + 1 ≤ 10000000 by omega)
      have hand := and_one_i64 m (by omega)
      have HSG := Lib.hid (show sg (bx && decide (m % 2 = 1)) (x.natAbs ^ m) = x ^ m by rw [HBX.out]; exact sg_pow x m)
      rcases Nat.mod_two_eq_zero_or_one m with h2 | h2
      all_goals
        rw [h2] at hand HSG
        cases bx
        all_goals
          go_wp2_with fail
          first
            | (with_reducible refine (signed_any false (.agg #[.slice adp lp cp]) (x.natAbs ^ m) (k * 255 + 1) _ ?_ HKB.out).mono ?_)
            | (with_reducible refine (signed_any true (.agg #[.slice adp lp cp]) (x.natAbs ^ m) (k * 255 + 1) _ ?_ HKB.out).mono ?_)
          · exact HNP.out
          rintro e w5 ⟨v5, rfl, hn5, hb5⟩
          replace hn5 : IntB 80 w5 v5 (x ^ m) (k * 255 + 1) := by rw [← HSG.out]; exact hn5
          clear hand hca0 hca1 hcp
          obtain ⟨bbR, adR, lenR, capR, rfl, hrR⟩ := hn5.shape2
          have hslR := (HSR.out.below hb5)
          obtain ⟨xR, yR, hxR, hyR, hfxR, hfyR⟩ := hslR.two
          have HRR := Lib.hid (fin_int hn5 hslR (by decide) (bel_on HBE.out hb5) (by omega))
          clear hrR hslR hn5 hb5
          go_wp2
          refine bodyPost_ret (v := .agg #[.bool bbR, .slice adR lenR capR]) (by simp [results, Tryd.results16, go_sem, HRR.out.2.2.1, HRR.out.2.2.2]) rfl (⟨_, rfl, HRR.out.1, HRR.out.2.1⟩)
    · obtain ⟨i, rfl⟩ : ∃ i, j = i + 1 := ⟨j - 1, by omega⟩
      have ei : ((i + 1 : Nat) : Int) - 1 = (i : Int) := by omega
      have hm1 : m / 2 ^ (i + 1) ≤ m := Nat.div_le_self _ _
      have hstep := half_step m i
      obtain ⟨bit, hbit, ebit⟩ : ∃ bit : Nat, bit < 2 ∧ m / 2 ^ i % 2 = bit := ⟨_, Nat.mod_lt _ (by decide), rfl⟩
      rw [ebit] at hstep
      have hle : m / 2 ^ i ≤ m := Nat.div_le_self _ _
      have HB0 := Lib.hid (pow_bound (e := 2 * (m / 2 ^ (i + 1))) H.out.2)
      have HB2 := Lib.hid (pow_bound (e := m / 2 ^ i) H.out.2)
      generalize hq : m / 2 ^ (i + 1) = q at *
      generalize hp : m / 2 ^ i = p at *
      clear hq
      have HP := Lib.hid hp
      have HST := Lib.hid hstep
      clear hp hstep
      go_wp2_with fail
      refine (mulB _ _ (x.natAbs ^ q) (x.natAbs ^ q) (k * 255 + 1) (k * 255 + 1) _ HNP.out HNP.out (by omega) (by omega)).mono ?_
      rintro e w3 ⟨v3, rfl, hn3, hb3⟩
      rw [← Nat.pow_add, ← Nat.two_mul] at hn3
      obtain ⟨ad3, l3, c3, rfl⟩ := hn3.shape2
      have hsp3 := HSP.out.below hb3
      obtain ⟨xx, hxx, hff⟩ := hsp3.one
      have hcp3 := hsp3.set1 (.slice ad3 l3 c3)
      have HN3 := Lib.hid (show NatB 80 (w3.setCell ⟨w1.heap.size, 0, none⟩ (.slice ad3 l3 c3)) (.agg #[.slice ad3 l3 c3]) (x.natAbs ^ (2 * q)) (k * (2 * q) + 1) from ⟨(hn3.slot hsp3 (by decide) 0 _).1, HB0.out⟩)
      have HSP3 := Lib.hid (hsp3.set w1.heap.size 0 (.slice ad3 l3 c3))
      have hca03 := cell_set (b' := w1.heap.size) (o' := 0) (u := .slice ad3 l3 c3) (cell_below hca0 hb3) (by omega)
      have hca13 := cell_set (b' := w1.heap.size) (o' := 0) (u := .slice ad3 l3 c3) (cell_below hca1 hb3) (by omega)
      have HSR3 := Lib.hid ((HSR.out.below hb3).set w1.heap.size 0 (.slice ad3 l3 c3))
      have HBE3 := Lib.hid (bel_set1 (b := w1.heap.size) (o := 0) (u := .slice ad3 l3 c3) (bel_on HBE.out hb3) (by omega))
      clear hn3 hb3 hsp3 hca0 hca1 hcp
      have hand : bits BinOp.and IntKind.i64 ((m : Int) / 2 ^ i) 1 = (bit : Int) := by
        have h1 := and_one_i64 p (by omega)
        rw [← HP.out] at h1
        rw [show ((m : Int) / 2 ^ i) = ((m / 2 ^ i : Nat) : Int) by simp, h1, HP.out, ebit]
      rcases Nat.lt_or_ge bit 1 with hb | hb
      · obtain rfl : bit = 0 := by omega
        have HNF := Lib.hid (show NatB 80 (w3.setCell ⟨w1.heap.size, 0, none⟩ (.slice ad3 l3 c3)) (.agg #[.slice ad3 l3 c3]) (x.natAbs ^ (m / 2 ^ i)) (k * 255 + 1) from by
          rw [HP.out, HST.out, Nat.add_zero]
          exact HN3.out.mono (by have := HST.out; have : k * (2 * q) ≤ k * 255 := Nat.mul_le_mul_left _ (by omega); omega))
        clear ebit
        go_wp2_with fail
        exact ⟨⟨i, ad3, l3, c3, by omega, by go_num, hcp3, HSP3.out, HNF.out, hca03, hca13, HSR3.out, HBE3.out⟩, by simp [intOf]⟩
      · obtain rfl : bit = 1 := by omega
        clear ebit
        go_wp2_with fail
        generalize w3.setCell ⟨w1.heap.size, 0, none⟩ (.slice ad3 l3 c3) = Y at *
        clear hxx hff
        have hq2 : k * (2 * q) ≤ k * 255 := Nat.mul_le_mul_left _ (by have := HST.out; omega)
        refine (mulB _ _ (x.natAbs ^ (2 * q)) x.natAbs (k * (2 * q) + 1) k _ HN3.out (H.out.below HBE3.out) (by omega) (by omega)).mono ?_
        rintro e w4 ⟨v4, rfl, hn4, hb4⟩
        rw [← Nat.pow_succ] at hn4
        obtain ⟨ad4, l4, c4, rfl⟩ := hn4.shape2
        have hsp4 := HSP3.out.below hb4
        obtain ⟨xx, hxx, hff⟩ := hsp4.one
        have hcp4 := hsp4.set1 (.slice ad4 l4 c4)
        have HN4 := Lib.hid (show NatB 80 (w4.setCell ⟨w1.heap.size, 0, none⟩ (.slice ad4 l4 c4)) (.agg #[.slice ad4 l4 c4]) (x.natAbs ^ (m / 2 ^ i)) (k * 255 + 1) from by
          rw [HP.out]
          refine ⟨?_, lt_pw_mono HB2.out (by have : k * p ≤ k * 255 := Nat.mul_le_mul_left _ (by omega); omega)⟩
          have h1 := (hn4.slot hsp4 (by decide) 0 (.slice ad4 l4 c4)).1
          rw [HST.out]
          exact h1)
        have HSP4 := Lib.hid (hsp4.set w1.heap.size 0 (.slice ad4 l4 c4))
        have hca04 := cell_set (b' := w1.heap.size) (o' := 0) (u := .slice ad4 l4 c4) (cell_below hca03 hb4) (by omega)
        have hca14 := cell_set (b' := w1.heap.size) (o' := 0) (u := .slice ad4 l4 c4) (cell_below hca13 hb4) (by omega)
        have HSR4 := Lib.hid ((HSR3.out.below hb4).set w1.heap.size 0 (.slice ad4 l4 c4))
        have HBE4 := Lib.hid (bel_set1 (b := w1.heap.size) (o := 0) (u := .slice ad4 l4 c4) (bel_on HBE3.out hb4) (by omega))
        clear hn4 hb4 hsp4 hca03 hca13 hcp3 hand
        go_wp2_with fail
        exact ⟨⟨i, ad4, l4, c4, by omega, by go_num, hcp4, HSP4.out, HN4.out, hca04, hca14, HSR4.out, HBE4.out⟩, by simp [intOf]⟩

set_option maxHeartbeats 800000 in
/-- NatOf(1), IntOf(1). -/
theorem rnatOf_one (w : World) : Calls Tryd.prog 42 #[.int .u64 1] w fun e w' => ∃ v', e = .returned v' ∧ RefB w' v' 1 1 ∧ Below w.heap.size w w' := by
  have hand : bits BinOp.and IntKind.u64 1 4294967295 = 1 := and_mask32 (t := 1) (by decide)
  go_enter Tryd.func42, Tryd.ntmps42
  go_wp2_with fail
  have hblk := Blk.new w 80 .u32 [1, 0]
  refine (rtrim_any _ [1, 0] _ (Sl.of_blk hblk) (Ok.cons (by decide) (Ok.cons (by decide) Ok.nil)) (by decide)).mono ?_
  rintro e w1 ⟨v1, rfl, hr, rfl⟩
  have HR := Lib.hid hr
  clear hr hblk hand
  go_wp2
  go_ret
  exact ⟨_, rfl, ⟨HR.out, by decide⟩, bel_alloc _ _⟩

set_option maxHeartbeats 800000 in
theorem rintOf_one (w : World) : Calls Tryd.prog 47 #[.int .i64 1] w fun e w' => ∃ v', e = .returned v' ∧ IntB 80 w' v' 1 1 ∧ Below w.heap.size w w' := by
  go_enter Tryd.func47, Tryd.ntmps47
  go_wp2_with fail
  refine (rnatOf_one _).mono ?_
  rintro e w1 ⟨v1, rfl, hn1, hb1⟩
  obtain ⟨ad1, l1, c1, xs1, rfl, _⟩ := hn1.1.shape
  have hI : IntB 80 w1 (.agg #[.bool false, .slice ad1 l1 c1]) 1 1 := intB_of (b := false) (n := 1) hn1.1 hn1.2 rfl
  have HSL := Lib.hid (Slot.of (n := 2) ((heldN1 (w := w)).below hb1).1 rfl)
  have HRR := Lib.hid (fin_int hI HSL.out (by decide) (bel_on (bel_alloc _ _) hb1) (Nat.le_refl _))
  obtain ⟨xR, yR, hxR, hyR, hfxR, hfyR⟩ := HSL.out.two
  clear hn1 hb1 hI
  go_wp2
  refine bodyPost_ret (v := .agg #[.bool false, .slice ad1 l1 c1]) (by simp [results, Tryd.results47, go_sem, HRR.out.2.2.1, HRR.out.2.2.2]) rfl ⟨_, rfl, HRR.out.1, HRR.out.2.1⟩

set_option maxRecDepth 100000 in
set_option maxHeartbeats 2000000 in
/-- PowInt. -/
theorem rpow_any (v : Value) (x : Int) (n : Int) (k : Nat) (w : World) (h : IntB 80 w v x k) (hk : k ≤ 1000) (hk1 : 1 ≤ k) (hn0 : -9223372036854775808 ≤ n) (hn1 : n < 9223372036854775808) :
    Calls Tryd.prog 17 #[v, .int .i64 n] w fun e w' => ∃ v', e = .returned v' ∧ IntB 80 w' v' (x ^ cut255 n) (k * 255 + 1) ∧ Below w.heap.size w w' := by
  obtain ⟨bx, ad, len, cap, rfl, hr⟩ := h.shape2
  have H := Lib.hid h
  clear h hr
  obtain ⟨m, hm, hm255⟩ : ∃ m : Nat, cut255 n = m ∧ m ≤ 255 := ⟨_, rfl, cut255_le n⟩
  have hmm := min_max_255 n
  rw [hm] at hmm ⊢
  clear hm
  go_enter Tryd.func17, Tryd.ntmps17
  go_wp2_with fail
  refine (rintOf_one _).mono ?_
  rintro e w1 ⟨v1, rfl, hn1', hb1⟩
  obtain ⟨b1, ad1, l1, c1, rfl, hs1'⟩ := hn1'.shape2
  have hbA := bel_alloc w1 (Obj.cells #[Value.bool b1, Value.slice ad1 l1 c1] 29)
  have hh := ((heldN2 (w := w)).below hb1).new #[Value.bool b1, Value.slice ad1 l1 c1] 29
  have hs1 := hb1.size
  simp only [World.size_alloc] at hs1
  have HN1 := Lib.hid (hn1'.below hbA)
  have HB1 := Lib.hid (bel_on (bel_on (bel_alloc2 _ _ _) hb1) hbA)
  have HHA := Lib.hid hh
  clear hn1' hb1 hbA hh hs1'
  go_wp2_with fail
  generalize w1.alloc (Obj.cells #[Value.bool b1, Value.slice ad1 l1 c1] 29) = X at *
  go_loopw [6] (fun ix wr => ∃ (j : Nat) (bp : Bool) (adp : Option Addr) (lp cp : Nat), j ≤ m ∧ ix = .int .i64 j ∧ wr.cell? ⟨w1.heap.size, 0, none⟩ = some (.bool bp) ∧ wr.cell? ⟨w1.heap.size, 1, none⟩ = some (.slice adp lp cp) ∧ Slot wr w1.heap.size 29 2 ∧ IntB 80 wr (.agg #[.bool bp, .slice adp lp cp]) (x ^ j) (k * j + 1) ∧
      wr.cell? ⟨w.heap.size, 0, none⟩ = some (.bool bx) ∧ wr.cell? ⟨w.heap.size, 1, none⟩ = some (.slice ad len cap) ∧ Slot wr (w.heap.size + 1) 29 2 ∧ Below w.heap.size w wr) (fun ix _ => m - (intOf ix).toNat)
  case atStart => exact ⟨0, b1, ad1, l1, c1, Nat.zero_le _, rfl, cell0 HHA.out.1, cell1 HHA.out.1, Slot.of HHA.out.1 rfl, by rw [Int.pow_zero]; exact HN1.out, cell0 HHA.out.2.1, cell1 HHA.out.2.1, Slot.of HHA.out.2.2.1 rfl, HB1.out⟩
  case round =>
    obtain ⟨j, bp, adp, lp, cp, hj, rfl, hcp0, hcp1, hsp, hnp, hca0, hca1, hsr, hbel⟩ := hrel
    have HSP := Lib.hid hsp
    have HNP := Lib.hid hnp
    have HSR := Lib.hid hsr
    have HBE := Lib.hid hbel
    have hPl := hsp.lt
    have hkj : k * j ≤ k * 255 := Nat.mul_le_mul_left _ (by omega)
    clear hsp hnp hsr hbel
    by_cases hlt : j < m
    · have hjd : decide ((j : Int) < (m : Int)) = true := by rw [decide_eq_true_iff]; omega
      go_wp2_with fail
      refine (rimul_any _ _ (x ^ j) x (k * j + 1) k _ HNP.out (H.out.below HBE.out) (by omega) (by omega)).mono ?_
      rintro e w3 ⟨v3, rfl, hn3, hb3⟩
      rw [← Int.pow_succ] at hn3
      obtain ⟨b3, ad3, l3, c3, rfl, hs3⟩ := hn3.shape2
      have hsp3 := HSP.out.below hb3
      obtain ⟨xx, yy, hxx, hyy, hff, hgg⟩ := hsp3.two
      have hq := hsp3.set2 (.bool b3) (.slice ad3 l3 c3)
      have HQ0 := Lib.hid hq
      have HN3 := Lib.hid (show IntB 80 ((w3.setCell ⟨w1.heap.size, 0, none⟩ (.bool b3)).setCell ⟨w1.heap.size, 1, none⟩ (.slice ad3 l3 c3)) (.agg #[.bool b3, .slice ad3 l3 c3]) (x ^ (j + 1)) (k * (j + 1) + 1) from by
        rw [Nat.mul_succ, show k * j + k + 1 = k * j + 1 + k by omega]
        exact (hn3.slot hsp3 (by decide) 0 _).slot (hsp3.set _ _ _) (by decide) 1 _)
      have HSP3 := Lib.hid ((hsp3.set w1.heap.size 0 (.bool b3)).set w1.heap.size 1 (.slice ad3 l3 c3))
      have HCA0 := Lib.hid (cell_set (b' := w1.heap.size) (o' := 1) (u := .slice ad3 l3 c3) (cell_set (b' := w1.heap.size) (o' := 0) (u := .bool b3) (cell_below hca0 hb3) (by omega)) (by omega))
      have HCA1 := Lib.hid (cell_set (b' := w1.heap.size) (o' := 1) (u := .slice ad3 l3 c3) (cell_set (b' := w1.heap.size) (o' := 0) (u := .bool b3) (cell_below hca1 hb3) (by omega)) (by omega))
      have HSR3 := Lib.hid (((HSR.out.below hb3).set w1.heap.size 0 (.bool b3)).set w1.heap.size 1 (.slice ad3 l3 c3))
      have HBE3 := Lib.hid (bel_set2 (b := w1.heap.size) (o := 0) (u := .bool b3) (b' := w1.heap.size) (o' := 1) (u' := .slice ad3 l3 c3) (bel_on HBE.out hb3) (by omega) (by omega))
      clear hn3 hb3 hsp3 hca0 hca1 hcp0 hcp1 hq hs3
      go_wp2_with fail
      exact ⟨⟨j + 1, b3, ad3, l3, c3, by omega, by go_num, HQ0.out.1, HQ0.out.2, HSP3.out, HN3.out, HCA0.out, HCA1.out, HSR3.out, HBE3.out⟩, by simp [intOf]; omega⟩
    · obtain rfl : j = m := by omega
      have hjd : decide ((j : Int) < (j : Int)) = false := by simp
      have HRR := Lib.hid (fin_int (HNP.out.mono (show k * j + 1 ≤ k * 255 + 1 by omega)) HSR.out (by decide) HBE.out (by omega))
      obtain ⟨xx, yy, hxx, hyy, hff, hgg⟩ := HSR.out.two
      go_wp2_with fail
      refine bodyPost_ret (v := .agg #[.bool bp, .slice adp lp cp]) (by simp [results, Tryd.results17, go_sem, HRR.out.2.2.1, HRR.out.2.2.2]) rfl ⟨_, rfl, HRR.out.1, HRR.out.2.1⟩

end Go.Proofs.YtfhilapjpabeeabDoor
