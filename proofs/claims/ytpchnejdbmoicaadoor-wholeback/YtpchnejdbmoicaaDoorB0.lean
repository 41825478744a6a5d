/- Division downwards, and back: plain. -/
import Derived.Test.YtpchnejdbmoicaaDoorI6
namespace Go.Proofs.YtpchnejdbmoicaaDoor
open Go.RowKit Cin

theorem div_back_nat (X Y : Nat) (hY : 0 < Y) : ∃ q r : Nat, X / Y = q ∧ X % Y = r ∧ r < Y ∧ (X : Int) = (q : Int) * (Y : Int) + (r : Int) := by
  refine ⟨_, _, rfl, rfl, Nat.mod_lt _ hY, ?_⟩
  have h := Nat.div_add_mod X Y
  rw [Nat.mul_comm] at h
  rw [← Int.natCast_mul, ← Int.natCast_add, h]
/-- How often, so often, and what is left. -/
theorem div_back (x y : Int) (hy : y ≠ 0) : divQ x y * y + divR x y = x ∧ (divR x y).natAbs < y.natAbs ∧ (divR x y = 0 ∨ sgnZ (divR x y) = sgnZ y) := by
  obtain ⟨q, r, eq, er, hr, e⟩ := div_back_nat x.natAbs y.natAbs (by omega)
  unfold divQ divR qF rF
  rw [eq, er]
  obtain ⟨Y, hYe⟩ : ∃ Y : Nat, y.natAbs = Y := ⟨_, rfl⟩
  obtain ⟨X, hXe⟩ : ∃ X : Nat, x.natAbs = X := ⟨_, rfl⟩
  rw [hYe] at hr e ⊢
  rw [hXe] at e
  clear eq er
  by_cases hx0 : x < 0 <;> by_cases hy0 : y < 0
  · obtain rfl : x = -(X : Int) := by omega
    obtain rfl : y = -(Y : Int) := by omega
    simp only [hx0, hy0, decide_true, BEq.rfl, Bool.not_true, Bool.false_and, Bool.false_eq_true, if_false, sg, if_true]
    refine ⟨by rw [Int.mul_neg]; omega, by omega, ?_⟩
    unfold sgnZ
    rw [if_pos hy0]
    rcases Nat.eq_zero_or_pos r with h0 | h0
    · left; omega
    · right; rw [if_pos (by omega)]
  · rw [decide_eq_true hx0, decide_eq_false hy0]
    obtain rfl : x = -(X : Int) := by omega
    obtain rfl : y = (Y : Int) := by omega
    rcases Nat.eq_zero_or_pos r with h0 | h0
    · subst h0
      simp only [show (!(true == false)) = true from rfl, Bool.true_and, decide_true, Bool.not_true, Bool.false_eq_true, if_false, sg, if_true]
      exact ⟨by rw [Int.neg_mul]; omega, by omega, .inl rfl⟩
    · simp only [show (!(true == false)) = true from rfl, Bool.true_and, show decide (r = 0) = false from decide_eq_false (by omega), Bool.not_false, Bool.false_eq_true, if_false, sg, if_true]
      refine ⟨?_, by omega, .inr ?_⟩
      · rw [Int.neg_mul, Int.natCast_add, Int.add_mul, Int.natCast_one, Int.one_mul]; omega
      · unfold sgnZ; rw [if_neg (by omega), if_pos (by omega), if_neg (by omega), if_pos (by omega)]
  · rw [decide_eq_false hx0, decide_eq_true hy0]
    obtain rfl : x = (X : Int) := by omega
    obtain rfl : y = -(Y : Int) := by omega
    rcases Nat.eq_zero_or_pos r with h0 | h0
    · subst h0
      simp only [show (!(false == true)) = true from rfl, Bool.true_and, decide_true, Bool.not_true, Bool.false_eq_true, if_false, sg, if_true]
      exact ⟨by rw [Int.neg_mul_neg]; omega, by omega, .inl rfl⟩
    · simp only [show (!(false == true)) = true from rfl, Bool.true_and, show decide (r = 0) = false from decide_eq_false (by omega), Bool.not_false, if_true, sg]
      refine ⟨?_, by omega, .inr ?_⟩
      · rw [Int.neg_mul_neg, Int.natCast_add, Int.add_mul, Int.natCast_one, Int.one_mul]; omega
      · unfold sgnZ; rw [if_pos (by omega), if_pos (by omega)]
  · obtain rfl : x = (X : Int) := by omega
    obtain rfl : y = (Y : Int) := by omega
    simp only [hx0, hy0, decide_false, BEq.rfl, Bool.not_true, Bool.false_and, Bool.false_eq_true, if_false, sg]
    refine ⟨by omega, by omega, ?_⟩
    unfold sgnZ
    rcases Nat.eq_zero_or_pos r with h0 | h0
    · left; omega
    · right; rw [if_neg (by omega), if_pos (by omega), if_neg hy0, if_pos (by omega)]

end Go.Proofs.YtpchnejdbmoicaaDoor
