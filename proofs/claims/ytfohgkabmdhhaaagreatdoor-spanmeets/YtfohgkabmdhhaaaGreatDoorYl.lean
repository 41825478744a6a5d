/- Contracts of whole's Pow, of the document's IntOf(1) and PowInt. -/
import Derived.Test.YtfohgkabmdhhaaaGreatDoorYk
import Derived.Test.YtfohgkabmdhhaaaGreatDoorYh
import Derived.Test.YtfohgkabmdhhaaaGreatDoorYc
namespace Cin
open Go
theorem pow_bound {x k e : Nat} (hx : x < pw k) : x ^ e < pw (k * e + 1) := by
  induction e with
  | zero => show 1 < pw (0 + 1); decide
  | succ e ih =>
    rw [Nat.pow_succ, Nat.mul_succ]
    have h := lt_pw_mul ih hx
    rw [show k * e + 1 + k = k * e + k + 1 by omega] at h
    exact h
theorem half_step (m j : Nat) : m / 2 ^ j = 2 * (m / 2 ^ (j + 1)) + m / 2 ^ j % 2 := by
  rw [Nat.pow_succ, ← Nat.div_div_eq_div_mul]
  omega
theorem and_one_i64 (t : Nat) (h : t < 256) : Go.bits .and .i64 (t : Int) 1 = ((t % 2 : Nat) : Int) := by
  show IntKind.i64.wrap ((BitVec.ofInt 64 (t : Int) &&& BitVec.ofInt 64 ((1 : Nat) : Int)).toNat : Int) = _
  rw [BitVec.toNat_and, ofInt_u64 t (by omega), ofInt_u64 1 (by decide), Nat.and_one_is_mod, IntWalk.i64_in _ (by omega)]
theorem neg_pow (a : Nat) : ∀ m : Nat, (-(a : Int)) ^ m = if m % 2 = 1 then -((a ^ m : Nat) : Int) else ((a ^ m : Nat) : Int)
  | 0 => by simp
  | m + 1 => by
    rw [Int.pow_succ, neg_pow a m, Nat.pow_succ]
    by_cases h : m % 2 = 1
    · rw [if_pos h, if_neg (by omega), Int.neg_mul_neg]; simp
    · rw [if_neg h, if_pos (by omega), Int.mul_neg]; simp
theorem sg_pow (x : Int) (m : Nat) : sg (decide (x < 0) && decide (m % 2 = 1)) (x.natAbs ^ m) = x ^ m := by
  by_cases h : x < 0
  · obtain ⟨a, rfl⟩ : ∃ a : Nat, x = -(a : Int) := ⟨x.natAbs, by omega⟩
    rw [decide_eq_true h, Bool.true_and, neg_pow, Int.natAbs_neg, Int.natAbs_natCast]
    unfold sg
    by_cases h1 : m % 2 = 1
    · rw [decide_eq_true h1, if_pos rfl, if_pos h1]
    · rw [decide_eq_false h1, if_neg (by simp), if_neg h1]
  · obtain ⟨a, rfl⟩ := Int.eq_ofNat_of_zero_le (show 0 ≤ x by omega)
    rw [decide_eq_false h, Bool.false_and, Int.natAbs_natCast]
    unfold sg
    rw [if_neg (by simp)]; simp
/-- A number so often by itself: below 0 as 0, beyond 255 as that. -/
def cut255 (n : Int) : Nat := if n < 0 then 0 else if 255 < n then 255 else n.toNat
theorem cut255_le (n : Int) : cut255 n ≤ 255 := by unfold cut255; split; omega; split <;> omega
end Cin
namespace Go.Proofs.YtfohgkabmdhhaaaGreatDoor
open Go.RowKit Cin

theorem min_max_255 (n : Int) : min (max n 0) 255 = ((cut255 n : Nat) : Int) := by
  unfold cut255
  split
  · omega
  · split <;> omega

set_option maxRecDepth 100000 in
set_option maxHeartbeats 2000000 in
/-- Pow. -/
theorem pow_any (v : Value) (x : Int) (n : Int) (k : Nat) (w : World) (h : IntB 146 w v x k) (hk : k ≤ 1000) (hk1 : 1 ≤ k) (_hn0 : -9223372036854775808 ≤ n) (_hn1 : n < 9223372036854775808) :
    Calls Tryz.prog 101 #[v, .int .i64 n] w fun e w' => ∃ v', e = .returned v' ∧ IntB 146 w' v' (x ^ cut255 n) (k * 255 + 1) ∧ Below w.heap.size w w' := by
  obtain ⟨bx, ad, len, cap, rfl, hr⟩ := h.shape2
  have H := Lib.hid h.part.1
  have HBX := Lib.hid hr.out
  clear h hr
  obtain ⟨m, hm, hm255⟩ : ∃ m : Nat, cut255 n = m ∧ m ≤ 255 := ⟨_, rfl, cut255_le n⟩
  have hmm := min_max_255 n
  rw [hm] at hmm ⊢
  clear hm
  go_enter Tryz.func101, Tryz.ntmps101
  go_wp2_with fail
  refine (ofB_one _).mono ?_
  rintro e w1 ⟨v1, rfl, hn1', hb1⟩
  obtain ⟨ad1, l1, c1, rfl⟩ := hn1'.shape2
  have hbA := bel_alloc w1 (Obj.cells #[Value.slice ad1 l1 c1] 27)
  have hh := ((heldN2 (w := w)).below hb1).new #[Value.slice ad1 l1 c1] 27
  have hs1 := hb1.size
  simp only [World.size_alloc] at hs1
  have HN1 := Lib.hid (hn1'.below hbA)
  have HB1 := Lib.hid (bel_on (bel_on (bel_alloc2 _ _ _) hb1) hbA)
  have HHA := Lib.hid hh
  have hP : w1.heap.size < (w1.alloc (Obj.cells #[Value.slice ad1 l1 c1] 27)).heap.size := by simp
  clear hn1' hb1 hbA hh
  obtain ⟨L, hL, hLb⟩ : ∃ L : Nat, Lib.bitLen m = L ∧ IsBl m L := ⟨_, rfl, isBl_len m (by omega)⟩
  have HM0 := Lib.hid (show m / 2 ^ L = 0 from Nat.div_eq_of_lt hLb.1)
  have hLs : L ≤ 8 := by
    rcases hLb.2 with h0 | h0
    · omega
    · rcases Nat.lt_or_ge 8 L with h3 | h3
      · have := Nat.pow_le_pow_right (n := 2) (by decide) (show 8 ≤ L - 1 by omega)
        omega
      · exact h3
  clear hLb
  go_wp2_with fail
  refine (Tryz.bits_Len (m : Int) _ (by omega) (by omega)).mono ?_
  rintro e w2 ⟨rfl, rfl⟩
  rw [Int.toNat_natCast, hL]
  generalize w1.alloc (Obj.cells #[Value.slice ad1 l1 c1] 27) = X at *
  clear hL
  go_wp2_with fail
  go_loopw [6] (fun ix wr => ∃ (j : Nat) (adp : Option Addr) (lp cp : Nat), j ≤ L ∧ ix = .int .i64 ((j : Int) - 1) ∧ wr.cell? ⟨w1.heap.size, 0, none⟩ = some (.slice adp lp cp) ∧ Slot wr w1.heap.size 27 1 ∧ NatB 146 wr (.agg #[.slice adp lp cp]) (x.natAbs ^ (m / 2 ^ j)) (k * 255 + 1) ∧
      wr.cell? ⟨w.heap.size, 0, none⟩ = some (.bool bx) ∧ wr.cell? ⟨w.heap.size, 1, none⟩ = some (.slice ad len cap) ∧ Slot wr (w.heap.size + 1) 29 2 ∧ Below w.heap.size w wr) (fun ix _ => (intOf ix + 1).toNat)
  case atStart =>
    refine ⟨L, ad1, l1, c1, Nat.le_refl _, rfl, cell0 HHA.out.1, Slot.of HHA.out.1 rfl, ?_, cell0 HHA.out.2.1, cell1 HHA.out.2.1, Slot.of HHA.out.2.2.1 rfl, HB1.out⟩
    rw [HM0.out, Nat.pow_zero]
    exact HN1.out.mono (by omega)
  case round =>
    obtain ⟨j, adp, lp, cp, hj, rfl, hcp, hsp, hnp, hca0, hca1, hsr, hbel⟩ := hrel
    have HSP := Lib.hid hsp
    have HNP := Lib.hid hnp
    have HSR := Lib.hid hsr
    have HBE := Lib.hid hbel
    have hPl := hsp.lt
    clear hsp hnp hsr hbel
    by_cases hj0 : j = 0
    · subst hj0
      rw [Nat.pow_zero, Nat.div_one] at HNP
      have HKB := Lib.hid (show k * 255 + 1 ≤ 10000000 by omega)
      have hand := and_one_i64 m (by omega)
      have HSG := Lib.hid (show sg (bx && decide (m % 2 = 1)) (x.natAbs ^ m) = x ^ m by rw [HBX.out]; exact sg_pow x m)
      rcases Nat.mod_two_eq_zero_or_one m with h2 | h2
      all_goals
        rw [h2] at hand HSG
        cases bx
        all_goals
          go_wp2_with fail
          first
            | (with_reducible refine (signed_any false (.agg #[.slice adp lp cp]) (x.natAbs ^ m) (k * 255 + 1) _ ?_ HKB.out).mono ?_)
            | (with_reducible refine (signed_any true (.agg #[.slice adp lp cp]) (x.natAbs ^ m) (k * 255 + 1) _ ?_ HKB.out).mono ?_)
          · exact HNP.out
          rintro e w5 ⟨v5, rfl, hn5, hb5⟩
          replace hn5 : IntB 146 w5 v5 (x ^ m) (k * 255 + 1) := by rw [← HSG.out]; exact hn5
          clear hand hca0 hca1 hcp
          obtain ⟨bbR, adR, lenR, capR, rfl, hrR⟩ := hn5.shape2
          have hslR := (HSR.out.below hb5)
          obtain ⟨xR, yR, hxR, hyR, hfxR, hfyR⟩ := hslR.two
          have HRR := Lib.hid (fin_int hn5 hslR (by decide) (bel_on HBE.out hb5) (by omega))
          clear hrR hslR hn5 hb5
          go_wp2
          refine bodyPost_ret (v := .agg #[.bool bbR, .slice adR lenR capR]) (by simp [results, Tryz.results101, go_sem, HRR.out.2.2.1, HRR.out.2.2.2]) rfl (⟨_, rfl, HRR.out.1, HRR.out.2.1⟩)
    · obtain ⟨i, rfl⟩ : ∃ i, j = i + 1 := ⟨j - 1, by omega⟩
      have ei : ((i + 1 : Nat) : Int) - 1 = (i : Int) := by omega
      have hm1 : m / 2 ^ (i + 1) ≤ m := Nat.div_le_self _ _
      have hstep := half_step m i
      obtain ⟨bit, hbit, ebit⟩ : ∃ bit : Nat, bit < 2 ∧ m / 2 ^ i % 2 = bit := ⟨_, Nat.mod_lt _ (by decide), rfl⟩
      rw [ebit] at hstep
      have hle : m / 2 ^ i ≤ m := Nat.div_le_self _ _
      have HB0 := Lib.hid (pow_bound (e := 2 * (m / 2 ^ (i + 1))) H.out.2)
      have HB2 := Lib.hid (pow_bound (e := m / 2 ^ i) H.out.2)
      generalize hq : m / 2 ^ (i + 1) = q at *
      generalize hp : m / 2 ^ i = p at *
      clear hq
      have HP := Lib.hid hp
      have HST := Lib.hid hstep
      clear hp hstep
      go_wp2_with fail
      refine (mulB _ _ (x.natAbs ^ q) (x.natAbs ^ q) (k * 255 + 1) (k * 255 + 1) _ HNP.out HNP.out (by omega) (by omega)).mono ?_
      rintro e w3 ⟨v3, rfl, hn3, hb3⟩
      rw [← Nat.pow_add, ← Nat.two_mul] at hn3
      obtain ⟨ad3, l3, c3, rfl⟩ := hn3.shape2
      have hsp3 := HSP.out.below hb3
      obtain ⟨xx, hxx, hff⟩ := hsp3.one
      have hcp3 := hsp3.set1 (.slice ad3 l3 c3)
      have HN3 := Lib.hid (show NatB 146 (w3.setCell ⟨w1.heap.size, 0, none⟩ (.slice ad3 l3 c3)) (.agg #[.slice ad3 l3 c3]) (x.natAbs ^ (2 * q)) (k * (2 * q) + 1) from ⟨(hn3.slot hsp3 (by decide) 0 _).1, HB0.out⟩)
      have HSP3 := Lib.hid (hsp3.set w1.heap.size 0 (.slice ad3 l3 c3))
      have hca03 := cell_set (b' := w1.heap.size) (o' := 0) (u := .slice ad3 l3 c3) (cell_below hca0 hb3) (by omega)
      have hca13 := cell_set (b' := w1.heap.size) (o' := 0) (u := .slice ad3 l3 c3) (cell_below hca1 hb3) (by omega)
      have HSR3 := Lib.hid ((HSR.out.below hb3).set w1.heap.size 0 (.slice ad3 l3 c3))
      have HBE3 := Lib.hid (bel_set1 (b := w1.heap.size) (o := 0) (u := .slice ad3 l3 c3) (bel_on HBE.out hb3) (by omega))
      clear hn3 hb3 hsp3 hca0 hca1 hcp
      have hand : bits BinOp.and IntKind.i64 ((m : Int) / 2 ^ i) 1 = (bit : Int) := by
        have h1 := and_one_i64 p (by omega)
        rw [← HP.out] at h1
        rw [show ((m : Int) / 2 ^ i) = ((m / 2 ^ i : Nat) : Int) by simp, h1, HP.out, ebit]
      rcases Nat.lt_or_ge bit 1 with hb | hb
      · obtain rfl : bit = 0 := by omega
        have HNF := Lib.hid (show NatB 146 (w3.setCell ⟨w1.heap.size, 0, none⟩ (.slice ad3 l3 c3)) (.agg #[.slice ad3 l3 c3]) (x.natAbs ^ (m / 2 ^ i)) (k * 255 + 1) from by
          rw [HP.out, HST.out, Nat.add_zero]
          exact HN3.out.mono (by have := HST.out; have : k * (2 * q) ≤ k * 255 := Nat.mul_le_mul_left _ (by omega); omega))
        clear ebit
        go_wp2_with fail
        exact ⟨⟨i, ad3, l3, c3, by omega, by go_num, hcp3, HSP3.out, HNF.out, hca03, hca13, HSR3.out, HBE3.out⟩, by simp [intOf]⟩
      · obtain rfl : bit = 1 := by omega
        clear ebit
        go_wp2_with fail
        generalize w3.setCell ⟨w1.heap.size, 0, none⟩ (.slice ad3 l3 c3) = Y at *
        clear hxx hff
        have hq2 : k * (2 * q) ≤ k * 255 := Nat.mul_le_mul_left _ (by have := HST.out; omega)
        refine (mulB _ _ (x.natAbs ^ (2 * q)) x.natAbs (k * (2 * q) + 1) k _ HN3.out (H.out.below HBE3.out) (by omega) (by omega)).mono ?_
        rintro e w4 ⟨v4, rfl, hn4, hb4⟩
        rw [← Nat.pow_succ] at hn4
        obtain ⟨ad4, l4, c4, rfl⟩ := hn4.shape2
        have hsp4 := HSP3.out.below hb4
        obtain ⟨xx, hxx, hff⟩ := hsp4.one
        have hcp4 := hsp4.set1 (.slice ad4 l4 c4)
        have HN4 := Lib.hid (show NatB 146 (w4.setCell ⟨w1.heap.size, 0, none⟩ (.slice ad4 l4 c4)) (.agg #[.slice ad4 l4 c4]) (x.natAbs ^ (m / 2 ^ i)) (k * 255 + 1) from by
          rw [HP.out]
          refine ⟨?_, lt_pw_mono HB2.out (by have : k * p ≤ k * 255 := Nat.mul_le_mul_left _ (by omega); omega)⟩
          have h1 := (hn4.slot hsp4 (by decide) 0 (.slice ad4 l4 c4)).1
          rw [HST.out]
          exact h1)
        have HSP4 := Lib.hid (hsp4.set w1.heap.size 0 (.slice ad4 l4 c4))
        have hca04 := cell_set (b' := w1.heap.size) (o' := 0) (u := .slice ad4 l4 c4) (cell_below hca03 hb4) (by omega)
        have hca14 := cell_set (b' := w1.heap.size) (o' := 0) (u := .slice ad4 l4 c4) (cell_below hca13 hb4) (by omega)
        have HSR4 := Lib.hid ((HSR3.out.below hb4).set w1.heap.size 0 (.slice ad4 l4 c4))
        have HBE4 := Lib.hid (bel_set1 (b := w1.heap.size) (o := 0) (u := .slice ad4 l4 c4) (bel_on HBE3.out hb4) (by omega))
        clear hn4 hb4 hsp4 hca03 hca13 hcp3 hand
        go_wp2_with fail
        exact ⟨⟨i, ad4, l4, c4, by omega, by go_num, hcp4, HSP4.out, HN4.out, hca04, hca14, HSR4.out, HBE4.out⟩, by simp [intOf]⟩

set_option maxHeartbeats 800000 in
/-- NatOf(1), IntOf(1). -/
theorem rnatOf_one (w : World) : Calls Tryz.prog 92 #[.int .u64 1] w fun e w' => ∃ v', e = .returned v' ∧ RefB w' v' 1 1 ∧ Below w.heap.size w w' := by
  have hand : bits BinOp.and IntKind.u64 1 4294967295 = 1 := and_mask32 (t := 1) (by decide)
  go_enter Tryz.func92, Tryz.ntmps92
  go_wp2_with fail
  have hblk := Blk.new w 146 .u32 [1, 0]
  refine (rtrim_any _ [1, 0] _ (Sl.of_blk hblk) (Ok.cons (by decide) (Ok.cons (by decide) Ok.nil)) (by decide)).mono ?_
  rintro e w1 ⟨v1, rfl, hr, rfl⟩
  have HR := Lib.hid hr
  clear hr hblk hand
  go_wp2
  go_ret
  exact ⟨_, rfl, ⟨HR.out, by decide⟩, bel_alloc _ _⟩

set_option maxHeartbeats 800000 in
theorem rintOf_one (w : World) : Calls Tryz.prog 105 #[.int .i64 1] w fun e w' => ∃ v', e = .returned v' ∧ IntB 146 w' v' 1 1 ∧ Below w.heap.size w w' := by
  go_enter Tryz.func105, Tryz.ntmps105
  go_wp2_with fail
  refine (rnatOf_one _).mono ?_
  rintro e w1 ⟨v1, rfl, hn1, hb1⟩
  obtain ⟨ad1, l1, c1, xs1, rfl, _⟩ := hn1.1.shape
  have hI : IntB 146 w1 (.agg #[.bool false, .slice ad1 l1 c1]) 1 1 := intB_of (b := false) (n := 1) hn1.1 hn1.2 rfl
  have HSL := Lib.hid (Slot.of (n := 2) ((heldN1 (w := w)).below hb1).1 rfl)
  have HRR := Lib.hid (fin_int hI HSL.out (by decide) (bel_on (bel_alloc _ _) hb1) (Nat.le_refl _))
  obtain ⟨xR, yR, hxR, hyR, hfxR, hfyR⟩ := HSL.out.two
  clear hn1 hb1 hI
  go_wp2
  refine bodyPost_ret (v := .agg #[.bool false, .slice ad1 l1 c1]) (by simp [results, Tryz.results105, go_sem, HRR.out.2.2.1, HRR.out.2.2.2]) rfl ⟨_, rfl, HRR.out.1, HRR.out.2.1⟩

end Go.Proofs.YtfohgkabmdhhaaaGreatDoor
/- Contracts of the document's Shl and Shr. -/
namespace Cin
open Go Go.RowKit
theorem or_u32 {a lo s : Nat} (ha : a < 2 ^ s) (hl : lo % 2 ^ s = 0) (ha2 : a < 4294967296) (hl2 : lo < 4294967296) : bits .or .u32 (a : Int) (lo : Int) = ((a + lo : Nat) : Int) := by
  rw [u32_or_nat _ _ ha2 hl2, Nat.or_comm, nat_join s _ _ hl ha, Nat.add_comm]
theorem low_mul {x s : Nat} (hs : s < 32) : (x * 2 ^ s % 4294967296) % 2 ^ s = 0 := by
  have e : 4294967296 = 2 ^ (32 - s) * 2 ^ s := by rw [← Nat.pow_add, show 32 - s + s = 32 by omega]
  rw [e, Nat.mul_mod_mul_right]
  exact Nat.mul_mod_left _ _
/-- One word of a shift upwards. -/
theorem shl_step {xs os : List Nat} {i q s S t lo hi : Nat} (hl : os.length = S) (hok : Ok os) (hv : val os = val (xs.take i) * (pw q * 2 ^ s)) (hz : ∀ j, i + q < j → lim os j = 0) (ht : lim os (i + q) < 2 ^ s) (hs : s < 32) (hi' : i + q + 1 < S)
    (hx : lim xs i < 4294967296) (et : t = lim xs i * 2 ^ s) (elo : lo = t % 4294967296) (ehi : hi = t / 4294967296) :
    lim os (i + q) + lo < 4294967296 ∧ hi < 2 ^ s ∧ lo % 2 ^ s = 0 ∧ ((os.set (i + q) (lim os (i + q) + lo)).set (i + q + 1) hi).length = S ∧ Ok ((os.set (i + q) (lim os (i + q) + lo)).set (i + q + 1) hi) ∧
      val ((os.set (i + q) (lim os (i + q) + lo)).set (i + q + 1) hi) = val (xs.take (i + 1)) * (pw q * 2 ^ s) ∧ (∀ j, i + 1 + q < j → lim ((os.set (i + q) (lim os (i + q) + lo)).set (i + q + 1) hi) j = 0) ∧ lim ((os.set (i + q) (lim os (i + q) + lo)).set (i + q + 1) hi) (i + 1 + q) < 2 ^ s := by
  have hp : 2 ^ s ≤ 2147483648 := by have := Nat.pow_le_pow_right (n := 2) (by decide) (show s ≤ 31 by omega); simpa using this
  have hlo0 : lo % 2 ^ s = 0 := by rw [elo, et]; exact low_mul hs
  have hpos : 0 < 2 ^ s := Nat.pow_pos (by decide)
  have hhi : hi < 2 ^ s := by
    rw [ehi, Nat.div_lt_iff_lt_mul (by decide), et, Nat.mul_comm (2 ^ s)]
    exact Nat.mul_lt_mul_of_pos_right hx hpos
  have hlo : lim os (i + q) + lo < 4294967296 := by
    have h1 : lo < 4294967296 := by omega
    have e : 4294967296 = 2 ^ (32 - s) * 2 ^ s := by rw [← Nat.pow_add, show 32 - s + s = 32 by omega]
    obtain ⟨c, hc⟩ := Nat.dvd_of_mod_eq_zero hlo0
    have h2 : c < 2 ^ (32 - s) := by
      rw [hc, e, Nat.mul_comm (2 ^ (32 - s))] at h1
      exact Nat.lt_of_mul_lt_mul_left h1
    have h3 : 2 ^ s * (c + 1) ≤ 2 ^ s * 2 ^ (32 - s) := Nat.mul_le_mul_left _ h2
    rw [Nat.mul_comm (2 ^ s) (2 ^ (32 - s)), ← e, Nat.mul_add] at h3
    omega
  refine ⟨hlo, hhi, hlo0, by rw [List.length_set, List.length_set, hl], (hok.set _ _ hlo).set _ _ (by omega), ?_, fun j hj => ?_, ?_⟩
  · have e1 := val_set (xs := os) (i := i + q) (by omega) (lim os (i + q) + lo)
    have e2 := val_set (xs := os.set (i + q) (lim os (i + q) + lo)) (i := i + q + 1) (by rw [List.length_set]; omega) hi
    rw [lim_set_other (by omega), hz (i + q + 1) (by omega), Nat.mul_zero, Nat.add_zero] at e2
    rw [e2]
    have e3 : val (os.set (i + q) (lim os (i + q) + lo)) = val os + pw (i + q) * lo := by rw [Nat.mul_add] at e1; omega
    have e4 : t = lo + 4294967296 * hi := by omega
    have e5 : pw (i + q) * lo + pw (i + q + 1) * hi = pw (i + q) * t := by rw [e4, pw_succ, Nat.mul_add, Nat.mul_comm 4294967296 (pw (i + q)), Nat.mul_assoc]
    have e6 : pw (i + q) * t = pw i * lim xs i * (pw q * 2 ^ s) := by
      rw [et, pw_add, Nat.mul_assoc, Nat.mul_assoc, ← Nat.mul_assoc (pw q), Nat.mul_comm (pw q) (lim xs i), Nat.mul_assoc (lim xs i)]
    rw [e3, hv, val_take_step, Nat.add_mul, ← e6, ← e5]
    omega
  · rw [lim_set_other (by omega), lim_set_other (by omega)]; exact hz j (by omega)
  · rw [show i + 1 + q = i + q + 1 by omega, lim_set_same (by rw [List.length_set]; omega)]; exact hhi
end Cin
namespace Go.Proofs.YtfohgkabmdhhaaaGreatDoor
open Go.RowKit Cin

set_option maxRecDepth 100000 in
set_option maxHeartbeats 2000000 in
/-- Shl: times a power of 2. -/
theorem refShl_any (v : Value) (x N k : Nat) (w : World) (h : RefB w v x k) (hk : k ≤ 1000000) (hN : N ≤ 1048576) :
    Calls Tryz.prog 126 #[v, .int .i64 N] w fun e w' => ∃ v', e = .returned v' ∧ RefB w' v' (x * 2 ^ N) (k + N / 32 + 1) ∧ Below w.heap.size w w' := by
  obtain ⟨⟨xs, hs, ho, hnm, hval⟩, hx⟩ := h
  obtain ⟨ad, cap, rfl, hc, _⟩ := hs.shape
  obtain ⟨i0, hi0, hz0, hz1, hz2⟩ := info_parts info_u32
  have hl : xs.length ≤ k := norm_len hnm (by rw [hval]; exact hx)
  obtain ⟨n, hn⟩ : ∃ n : Nat, xs.length = n := ⟨_, rfl⟩
  obtain ⟨q, eq, eq'⟩ : ∃ q : Nat, (N : Int) / 32 = (q : Int) ∧ q = N / 32 := ⟨N / 32, by omega, rfl⟩
  obtain ⟨s, es, es'⟩ : ∃ s : Nat, (N : Int) % 32 = (s : Int) ∧ s = N % 32 := ⟨N % 32, by omega, rfl⟩
  have hs32 : s < 32 := by omega
  have hpw : 2 ^ N = pw q * 2 ^ s := by rw [eq', es']; exact pow2_split32 N
  obtain ⟨nq, enq, enq'⟩ : ∃ a : Nat, (n : Int) + (q : Int) = (a : Int) ∧ a = n + q := ⟨n + q, by omega, rfl⟩
  obtain ⟨S, eS, eS'⟩ : ∃ a : Nat, (nq : Int) + 1 = (a : Int) ∧ a = n + q + 1 := ⟨n + q + 1, by omega, rfl⟩
  rw [hn] at hs hl hc ⊢
  have HS := Lib.hid hs
  have HVAL := Lib.hid hval
  have HX := Lib.hid hx
  have HLN := Lib.hid hn
  have HPW := Lib.hid hpw
  have HQ := Lib.hid eq'
  have HSS := Lib.hid eS'
  have hSb : S ≤ 3000000 := by omega
  have hqb : q ≤ 100000 := by omega
  have hnqb : nq ≤ 3000000 := by omega
  have HD := Lib.hid (show ∀ b' o' n' c', Value.slice ad n cap = .slice (some ⟨b', o', none⟩) n' c' → ¬ (b' = w.heap.size) from fun b' o' n' c' e => by have := hs.lt e; omega)
  clear hs hval hx hn hpw eq' es' enq' eS' hnm hc
  go_enter Tryz.func126, Tryz.ntmps126
  go_wp2_with (at_make; refine wpList_make_ints _ rfl _ _ 37 rfl 146 i0 .u32 Tryz.underlying37 hi0 hz0 hz1 .i64 .i64 _ _ S S rfl rfl (by omega) (by omega) (Nat.le_refl _) (by rw [hz2]; omega) (by omega) ?_)
  have hkW : Blk (w.alloc (Obj.cells (ints IntKind.u32 (List.replicate S 0)) 146)) w.heap.size 146 .u32 (List.replicate S 0) := Blk.new _ _ _ _
  have hbW := bel_alloc w (Obj.cells (ints IntKind.u32 (List.replicate S 0)) 146)
  generalize w.alloc (Obj.cells (ints IntKind.u32 (List.replicate S 0)) 146) = W at *
  have HL := Lib.hid (HS.out.below hbW)
  have HBW := Lib.hid hbW
  have HKW := Lib.hid hkW
  clear hbW hkW hi0 hz0 hz1 hz2
  go_loopw [6, 7] (fun ix _ wr => ∃ (i : Nat) (os : List Nat), i ≤ n ∧ ix = .int .i64 i ∧ os.length = S ∧ Ok os ∧ val os = val (xs.take i) * (pw q * 2 ^ s) ∧ (∀ j, i + q < j → lim os j = 0) ∧ lim os (i + q) < 2 ^ s ∧
      Blk wr w.heap.size 146 .u32 os ∧ Keep (· = w.heap.size) W wr) (fun ix _ _ => n - (intOf ix).toNat)
  case atStart => exact ⟨0, List.replicate S 0, Nat.zero_le _, rfl, by simp, Ok.replicate _, by rw [val_replicate, List.take_zero, val_nil, Nat.zero_mul], fun j _ => lim_replicate _ _, by rw [lim_replicate]; exact Nat.pow_pos (by decide), HKW.out, Keep.refl _ _⟩
  case round =>
    obtain ⟨i, os, hi, rfl, hol, hok, hv, hz, ht0, hblk, hkeep⟩ := hrel
    by_cases hlt : i < n
    · have hSq : i + q + 1 < S := by have := HSS.out; omega
      have hlim : lim xs i < 4294967296 := lim_lt ho _
      have hp : 2 ^ s ≤ 2147483648 := by have := Nat.pow_le_pow_right (n := 2) (by decide) (show s ≤ 31 by omega); simpa using this
      have hxb : lim xs i * 2 ^ s ≤ 4294967295 * 2147483648 := Nat.mul_le_mul (by omega) hp
      obtain ⟨t, hsh, et⟩ : ∃ t : Nat, IntKind.u64.wrap (((lim xs i : Nat) : Int) * 2 ^ s) = (t : Int) ∧ t = lim xs i * 2 ^ s := ⟨_, by
        rw [IntKind.wrap_u64, show (((lim xs i : Nat) : Int) * 2 ^ s) = ((lim xs i * 2 ^ s : Nat) : Int) by simp]; omega, rfl⟩
      have htb : t < 9223372036854775808 := by omega
      obtain ⟨lo, elo⟩ : ∃ lo : Nat, lo = t % 4294967296 := ⟨_, rfl⟩
      obtain ⟨hh, ehh, ehh'⟩ : ∃ hh : Nat, ((t : Int) / 4294967296) = (hh : Int) ∧ hh = t / 4294967296 := ⟨t / 4294967296, by omega, rfl⟩
      have hand : bits BinOp.and IntKind.u64 (t : Int) 4294967295 = (lo : Int) := by rw [and_mask32 (by omega), elo]
      have hlob : lo < 4294967296 := by omega
      have hhb : hh < 4294967296 := by omega
      have R := shl_step hol hok hv hz ht0 hs32 hSq hlim et elo ehh'
      obtain ⟨iq, eiq, eiq'⟩ : ∃ a : Nat, (i : Int) + (q : Int) = (a : Int) ∧ i + q = a := ⟨i + q, by omega, rfl⟩
      have hz1 := hz (i + q + 1) (by omega)
      rw [eiq'] at R hSq ht0 hz1
      have hcell2 := hblk.cell (i := iq) (by rw [hol]; omega)
      have hf := hblk.free iq
      have hcell3 := hblk.cell (i := iq + 1) (by rw [hol]; omega)
      have hf3 := hblk.free (iq + 1)
      rw [hz1] at hcell3
      have hob := lim_lt hok iq
      have hor1 : bits BinOp.or IntKind.u32 ((lim os iq : Nat) : Int) (lo : Int) = ((lim os iq + lo : Nat) : Int) := or_u32 ht0 R.2.2.1 hob hlob
      obtain ⟨o1, eo1⟩ : ∃ o1 : Nat, lim os iq + lo = o1 := ⟨_, rfl⟩
      rw [eo1] at hor1 R
      have hor2 : bits BinOp.or IntKind.u32 ((0 : Nat) : Int) (hh : Int) = (hh : Int) := by
        have := or_u32 (a := 0) (lo := hh) (s := 0) (by decide) (Nat.mod_one _) (by decide) hhb
        rw [this, Nat.zero_add]
      have hor3 : bits BinOp.or IntKind.u32 0 (hh : Int) = (hh : Int) := hor2
      obtain ⟨bx, offx, rfl, hcell, hblt⟩ := (HL.out.keep hkeep HD.out).cell (i := i) (by have := HLN.out; omega)
      have hne : w.heap.size ≠ bx := fun e => HD.out _ _ _ _ rfl e.symm
      have HB2 := Lib.hid ((hblk.set iq o1).set (iq + 1) hh)
      have HK2 := Lib.hid ((hkeep.setCell (a := ⟨w.heap.size, iq, none⟩) rfl (.int .u32 (o1 : Nat))).setCell (a := ⟨w.heap.size, iq + 1, none⟩) rfl (.int .u32 (hh : Nat)))
      have hcell4 : (wr.setCell ⟨w.heap.size, iq, none⟩ (.int .u32 (o1 : Nat))).cell? ⟨w.heap.size, iq + 1, none⟩ = some (.int .u32 ((0 : Nat) : Int)) := by
        rw [World.cell?_setCell_other _ _ _ _ (by intro e; injection e; omega)]; exact hcell3
      have HR := Lib.hid R
      have EIQ := Lib.hid eiq'
      have wq1 : IntKind.i64.wrap ((iq : Int) + 1) = (iq : Int) + 1 := IntWalk.i64_in _ (by omega)
      have hiqS : (iq : Int) < (S : Int) := by omega
      have hiqS2 : (iq : Int) + 1 < (S : Int) := by omega
      clear R hol hok hv hz ht0 hblk hkeep et elo ehh' eo1 eiq' hz1 hor2
      go_wp2_with fail
      obtain ⟨r1, r2, r3, r4, r5, r6, r7, r8⟩ := HR.out
      have e0 := EIQ.out
      subst e0
      exact ⟨⟨i + 1, _, by omega, by go_num, r4, r5, r6, r7, r8, HB2.out, HK2.out⟩, by simp [intOf]; omega⟩
    · obtain rfl : i = n := by omega
      rw [List.take_of_length_le (by have := HLN.out; omega), HVAL.out, ← HPW.out] at hv
      have hsl := Sl.of_blk hblk
      rw [hol] at hsl
      have HV := Lib.hid hv
      have HSL := Lib.hid hsl
      have HB3 := Lib.hid (HBW.out.trans (hkeep.below (B := w.heap.size) HBW.out.size (fun k e => by omega)))
      have hln : os.length ≤ 1000000000000 := by rw [hol]; omega
      have HLT := Lib.hid (show x * 2 ^ N < pw (k + N / 32 + 1) by
        rw [HPW.out, ← HQ.out, show k + q + 1 = k + (q + 1) by omega, pw_add]
        refine Nat.mul_lt_mul'' HX.out ?_
        rw [pw_succ, Nat.mul_comm]
        have hp : 2 ^ s ≤ 2147483648 := by have := Nat.pow_le_pow_right (n := 2) (by decide) (show s ≤ 31 by omega); simpa using this
        exact Nat.mul_lt_mul_of_pos_right (by omega) (pw_pos q))
      clear hv hsl hblk hkeep hol hz ht0
      go_wp2_with fail
      refine (rtrim_any _ os _ HSL.out hok hln).mono ?_
      rintro e w2 ⟨v2, rfl, hr2, rfl⟩
      rw [HV.out] at hr2
      have HR2 := Lib.hid hr2
      clear hr2
      go_wp2
      go_ret
      exact ⟨_, rfl, ⟨HR2.out, HLT.out⟩, HB3.out⟩

end Go.Proofs.YtfohgkabmdhhaaaGreatDoor
