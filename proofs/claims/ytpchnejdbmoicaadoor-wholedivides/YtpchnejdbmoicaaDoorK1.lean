/- Contracts of whole's Pow, of the document's IntOf(1) and PowInt. -/
import Derived.Test.YtpchnejdbmoicaaDoorJ1
import Derived.Test.YtpchnejdbmoicaaDoorI6
namespace Cin
open Go
theorem pow_bound {x k e : Nat} (hx : x < pw k) : x ^ e < pw (k * e + 1) := by
  induction e with
  | zero => show 1 < pw (0 + 1); decide
  | succ e ih =>
    rw [Nat.pow_succ, Nat.mul_succ]
    have h := lt_pw_mul ih hx
    rw [show k * e + 1 + k = k * e + k + 1 by omega] at h
    exact h
theorem half_step (m j : Nat) : m / 2 ^ j = 2 * (m / 2 ^ (j + 1)) + m / 2 ^ j % 2 := by
  rw [Nat.pow_succ, ← Nat.div_div_eq_div_mul]
  omega
theorem and_one_i64 (t : Nat) (h : t < 256) : Go.bits .and .i64 (t : Int) 1 = ((t % 2 : Nat) : Int) := by
  show IntKind.i64.wrap ((BitVec.ofInt 64 (t : Int) &&& BitVec.ofInt 64 ((1 : Nat) : Int)).toNat : Int) = _
  rw [BitVec.toNat_and, ofInt_u64 t (by omega), ofInt_u64 1 (by decide), Nat.and_one_is_mod, IntWalk.i64_in _ (by omega)]
theorem neg_pow (a : Nat) : ∀ m : Nat, (-(a : Int)) ^ m = if m % 2 = 1 then -((a ^ m : Nat) : Int) else ((a ^ m : Nat) : Int)
  | 0 => by simp
  | m + 1 => by
    rw [Int.pow_succ, neg_pow a m, Nat.pow_succ]
    by_cases h : m % 2 = 1
    · rw [if_pos h, if_neg (by omega), Int.neg_mul_neg]; simp
    · rw [if_neg h, if_pos (by omega), Int.mul_neg]; simp
theorem sg_pow (x : Int) (m : Nat) : sg (decide (x < 0) && decide (m % 2 = 1)) (x.natAbs ^ m) = x ^ m := by
  by_cases h : x < 0
  · obtain ⟨a, rfl⟩ : ∃ a : Nat, x = -(a : Int) := ⟨x.natAbs, by omega⟩
    rw [decide_eq_true h, Bool.true_and, neg_pow, Int.natAbs_neg, Int.natAbs_natCast]
    unfold sg
    by_cases h1 : m % 2 = 1
    · rw [decide_eq_true h1, if_pos rfl, if_pos h1]
    · rw [decide_eq_false h1, if_neg (by simp), if_neg h1]
  · obtain ⟨a, rfl⟩ := Int.eq_ofNat_of_zero_le (show 0 ≤ x by omega)
    rw [decide_eq_false h, Bool.false_and, Int.natAbs_natCast]
    unfold sg
    rw [if_neg (by simp)]; simp
/-- A number so often by itself: below 0 as 0, beyond 255 as that. -/
def cut255 (n : Int) : Nat := if n < 0 then 0 else if 255 < n then 255 else n.toNat
theorem cut255_le (n : Int) : cut255 n ≤ 255 := by unfold cut255; split; omega; split <;> omega
end Cin
namespace Go.Proofs.YtpchnejdbmoicaaDoor
open Go.RowKit Cin

theorem min_max_255 (n : Int) : min (max n 0) 255 = ((cut255 n : Nat) : Int) := by
  unfold cut255
  split
  · omega
  · split <;> omega

set_option maxHeartbeats 800000 in
/-- NatOf(1), IntOf(1). -/
theorem rnatOf_one (w : World) : Calls Tryd.prog 72 #[.int .u64 1] w fun e w' => ∃ v', e = .returned v' ∧ RefB w' v' 1 1 ∧ Below w.heap.size w w' := by
  have hand : bits BinOp.and IntKind.u64 1 4294967295 = 1 := and_mask32 (t := 1) (by decide)
  go_enter Tryd.func72, Tryd.ntmps72
  go_wp2_with fail
  have hblk := Blk.new w 68 .u32 [1, 0]
  refine (rtrim_any _ [1, 0] _ (Sl.of_blk hblk) (Ok.cons (by decide) (Ok.cons (by decide) Ok.nil)) (by decide)).mono ?_
  rintro e w1 ⟨v1, rfl, hr, rfl⟩
  have HR := Lib.hid hr
  clear hr hblk hand
  go_wp2
  go_ret
  exact ⟨_, rfl, ⟨HR.out, by decide⟩, bel_alloc _ _⟩

end Go.Proofs.YtpchnejdbmoicaaDoor
