/- Gcd's sure steps, and going them with the numbers themselves: plain. -/
import Derived.Test.YtpchnejdbmoicaaDoorNum
namespace Cin

/-- What is cut off below the heads comes to less than the greater factor, of their last place. -/
theorem near_off {s C D x1 y1 P : Int} (hs : s = 1 ∨ s = -1) (hC : 0 ≤ C) (hCD : C ≤ D) (hD : 1 ≤ D) (hx0 : 0 ≤ x1) (hx1 : x1 < P) (hy0 : 0 ≤ y1) (hy1 : y1 < P) :
    -(D * P) < s * (D * y1 - C * x1) ∧ s * (D * y1 - C * x1) < D * P := by
  have h1 : D * y1 < D * P := Int.mul_lt_mul_of_pos_left hy1 (by omega)
  have h2 : 0 ≤ D * y1 := Int.mul_nonneg (by omega) hy0
  have h3 : C * x1 ≤ D * x1 := Int.mul_le_mul_of_nonneg_right hCD hx0
  have h4 : D * x1 < D * P := Int.mul_lt_mul_of_pos_left hx1 (by omega)
  have h5 : 0 ≤ C * x1 := Int.mul_nonneg hC hx0
  rcases hs with rfl | rfl
  · rw [Int.one_mul]; omega
  · rw [Int.neg_mul, Int.one_mul]; omega

theorem gcd_step {U V W q : Int} (hU : 0 ≤ U) (hV : 0 ≤ V) (hW : 0 ≤ W) (hq : 0 ≤ q) (e : W = U - q * V) : Nat.gcd V.natAbs W.natAbs = Nat.gcd U.natAbs V.natAbs := by
  have h : U.natAbs = q.natAbs * V.natAbs + W.natAbs := by
    have h1 : ((q.natAbs * V.natAbs + W.natAbs : Nat) : Int) = U := by
      rw [Int.natCast_add, Int.natCast_mul, Int.natAbs_of_nonneg hq, Int.natAbs_of_nonneg hV, Int.natAbs_of_nonneg hW]; omega
    omega
  rw [h, Nat.gcd_comm (q.natAbs * V.natAbs + W.natAbs), Nat.gcd_mul_right_add_right]

theorem abs_s {s z : Int} (hs : s = 1 ∨ s = -1) (hz : 0 ≤ z) : ((s * z).natAbs : Int) = z ∧ ((-(s * z)).natAbs : Int) = z := by
  rcases hs with rfl | rfl
  · rw [Int.one_mul]; omega
  · rw [Int.neg_mul, Int.one_mul]; omega

/-- What some steps of Euclid have made of x and y, and of their heads. -/
def EuSteps (X Y u0 v0 a b c d u v : Int) : Prop :=
  ∃ s A B C D : Int, (s = 1 ∨ s = -1) ∧ a = s * A ∧ b = -(s * B) ∧ c = -(s * C) ∧ d = s * D ∧ (0 ≤ A ∧ 0 ≤ B ∧ 0 ≤ C ∧ 1 ≤ D ∧ C ≤ D ∧ A + C ≤ B + D) ∧
    (A < 2147483648 ∧ B < 2147483648 ∧ C < 2147483648 ∧ D < 2147483648) ∧
    (0 ≤ v ∧ v ≤ u ∧ D * u + B * v = u0 ∧ C * u + A * v = v0 ∧ u = a * u0 + b * v0 ∧ v = c * u0 + d * v0) ∧
    (0 ≤ c * X + d * Y ∧ c * X + d * Y ≤ a * X + b * Y ∧ c * X + d * Y ≤ Y ∧ (b ≠ 0 → a * X + b * Y ≤ Y ∧ c * X + d * Y < Y)) ∧
    Nat.gcd (a * X + b * Y).natAbs (c * X + d * Y).natAbs = Nat.gcd X.natAbs Y.natAbs

theorem EuSteps.start {X Y u0 v0 : Int} (hY : 0 ≤ Y) (hXY : Y ≤ X) (hv : 0 ≤ v0) (huv : v0 ≤ u0) : EuSteps X Y u0 v0 1 0 0 1 u0 v0 := by
  refine ⟨1, 1, 0, 0, 1, .inl rfl, rfl, rfl, rfl, rfl, by omega, by omega, by omega, ?_, ?_⟩
  · refine ⟨by omega, by omega, by omega, fun h => absurd rfl h⟩
  · rw [Int.one_mul, Int.zero_mul, Int.one_mul, Int.zero_mul, Int.add_zero, Int.zero_add]

set_option maxHeartbeats 2000000 in
theorem EuSteps.next {X Y u0 v0 a b c d u v q w P x1 y1 : Int} (h : EuSteps X Y u0 v0 a b c d u v) (hu0 : u0 < 4611686018427387904) (hv0 : v0 ≤ u0) (hv : 1 ≤ v) (hq : 1 ≤ q) (hw0 : 0 ≤ w) (hwv : w < v) (hu : u = q * v + w)
    (hX : X = u0 * P + x1) (hY : Y = v0 * P + y1) (hx0 : 0 ≤ x1) (hx1 : x1 < P) (hy0 : 0 ≤ y1) (hy1 : y1 < P) :
    ∃ F D : Nat, (b - q * d).natAbs = F ∧ d.natAbs = D ∧ F < 4611686018427387904 ∧ D < 2147483648 ∧
      (-4611686018427387904 < q * c ∧ q * c < 4611686018427387904) ∧ (-4611686018427387904 < q * d ∧ q * d < 4611686018427387904) ∧
      (-4611686018427387904 < a - q * c ∧ a - q * c < 4611686018427387904) ∧ (-4611686018427387904 < b - q * d ∧ b - q * d < 4611686018427387904) ∧
      ((F : Int) ≤ w → (F : Int) + D ≤ v - w → EuSteps X Y u0 v0 c d (a - q * c) (b - q * d) v w) := by
  obtain ⟨s, A, B, C, D, hs, ha, hb, hc, hd, ⟨hA0, hB0, hC0, hD1, hCD, hAC⟩, ⟨hA, hB, hC, hD⟩, ⟨hv00, hvu, e1, e2, e3, e4⟩, ⟨t1, t2, t3, t4⟩, hg⟩ := h
  have qC0 : 0 ≤ q * C := Int.mul_nonneg (by omega) hC0
  have qD0 : 0 ≤ (q - 1) * D := Int.mul_nonneg (by omega) (by omega)
  have qDC : 0 ≤ (q - 1) * (D - C) := Int.mul_nonneg (by omega) (by omega)
  rw [Int.sub_mul, Int.one_mul] at qD0
  rw [Int.sub_mul, Int.one_mul, Int.mul_sub] at qDC
  have f1 : a - q * c = s * (A + q * C) := by rw [ha, hc, Int.mul_neg, Int.sub_neg, Int.mul_add, Int.mul_left_comm q s C]
  have f2 : b - q * d = -(s * (B + q * D)) := by rw [hb, hd, Int.mul_add, Int.mul_left_comm q s D]; omega
  have f3 : q * c = -(s * (q * C)) := by rw [hc, Int.mul_neg, Int.mul_left_comm q s C]
  have f4 : q * d = s * (q * D) := by rw [hd, Int.mul_left_comm q s D]
  have g1 : (B + q * D) * v + D * w = u0 := by
    have h1 : D * (q * v) = q * D * v := by rw [← Int.mul_assoc, Int.mul_comm D q]
    rw [hu, Int.mul_add, h1] at e1
    rw [Int.add_mul]; omega
  have g2 : (A + q * C) * v + C * w = v0 := by
    have h1 : C * (q * v) = q * C * v := by rw [← Int.mul_assoc, Int.mul_comm C q]
    rw [hu, Int.mul_add, h1] at e2
    rw [Int.add_mul]; omega
  obtain ⟨C', hC'⟩ : ∃ C', A + q * C = C' := ⟨_, rfl⟩
  obtain ⟨D', hD'⟩ : ∃ D', B + q * D = D' := ⟨_, rfl⟩
  rw [hC'] at f1 g2
  rw [hD'] at f2 g1
  have b1 : 0 ≤ D' * (v - 1) := Int.mul_nonneg (by omega) (by omega)
  have b2 : 0 ≤ C' * (v - 1) := Int.mul_nonneg (by omega) (by omega)
  have b3 : 0 ≤ D * w := Int.mul_nonneg (by omega) hw0
  have b4 : 0 ≤ C * w := Int.mul_nonneg (by omega) hw0
  rw [Int.mul_sub, Int.mul_one] at b1 b2
  have k1 := abs_s hs (show 0 ≤ D' by omega)
  have k2 := abs_s hs (show 0 ≤ C' by omega)
  have k3 := abs_s hs (show 0 ≤ q * C by omega)
  have k4 := abs_s hs (show 0 ≤ q * D by omega)
  have k5 := abs_s hs (show 0 ≤ D by omega)
  rw [← f2] at k1
  rw [← f1] at k2
  rw [← f3] at k3
  rw [← f4] at k4
  rw [← hd] at k5
  refine ⟨_, _, rfl, rfl, by omega, by omega, by omega, by omega, by omega, by omega, fun hF hFD => ?_⟩
  rw [k1.2] at hF hFD
  rw [k5.1] at hFD
  have hD'31 : D' < 2147483648 := by
    rcases Int.lt_or_le D' 2147483648 with h1 | h1
    · exact h1
    · have h2 : 2147483648 * 2147483648 ≤ D' * v := Int.mul_le_mul h1 (by omega) (by decide) (by omega)
      omega
  have hs' : -s = 1 ∨ -s = -1 := by rcases hs with rfl | rfl <;> simp
  have eW : (a - q * c) * X + (b - q * d) * Y = (a * X + b * Y) - q * (c * X + d * Y) := by
    rw [Int.sub_mul, Int.sub_mul, Int.mul_add, Int.mul_assoc, Int.mul_assoc]; omega
  have ew : (a - q * c) * u0 + (b - q * d) * v0 = (a * u0 + b * v0) - q * (c * u0 + d * v0) := by
    rw [Int.sub_mul, Int.sub_mul, Int.mul_add, Int.mul_assoc, Int.mul_assoc]; omega
  have nV := near_off hs hC0 hCD hD1 hx0 hx1 hy0 hy1
  have nW := near_off hs' (show 0 ≤ C' by omega) (show C' ≤ D' by omega) (show 1 ≤ D' by omega) hx0 hx1 hy0 hy1
  have split : ∀ m n : Int, m * X + n * Y = (m * u0 + n * v0) * P + (m * x1 + n * y1) := fun m n => by
    rw [hX, hY, Int.mul_add, Int.mul_add, Int.add_mul, Int.mul_assoc, Int.mul_assoc]; omega
  have eV2 : c * x1 + d * y1 = s * (D * y1 - C * x1) := by
    rw [hc, hd, Int.neg_mul, Int.mul_sub, Int.mul_assoc, Int.mul_assoc]; omega
  have eW2 : (a - q * c) * x1 + (b - q * d) * y1 = -s * (D' * y1 - C' * x1) := by
    rw [f1, f2, Int.neg_mul, Int.neg_mul, Int.mul_sub, Int.mul_assoc, Int.mul_assoc]; omega
  have sV := split c d
  have sW := split (a - q * c) (b - q * d)
  rw [← e4, eV2] at sV
  have ew2 : (a - q * c) * u0 + (b - q * d) * v0 = w := by rw [ew, ← e3, ← e4]; omega
  rw [ew2, eW2] at sW
  rw [← eV2] at nV
  have c1 : 0 ≤ (w - D') * P := Int.mul_nonneg (by omega) (by omega)
  have c2 : 0 ≤ (v - w - (D' + D)) * P := Int.mul_nonneg (by omega) (by omega)
  rw [Int.sub_mul] at c1
  rw [Int.sub_mul, Int.sub_mul, Int.add_mul] at c2
  rw [eV2] at nV
  have hW0 : 0 < (a - q * c) * X + (b - q * d) * Y := by omega
  have hVW : (a - q * c) * X + (b - q * d) * Y < c * X + d * Y := by omega
  refine ⟨-s, C, D, C', D', hs', by rw [hc, Int.neg_mul], by rw [hd, Int.neg_mul, Int.neg_neg], by rw [f1, Int.neg_mul, Int.neg_neg], by rw [f2, Int.neg_mul], by omega, by omega, ⟨hw0, by omega, g1, g2, e4, ew2.symm⟩, ⟨by omega, by omega, by omega, fun _ => by omega⟩, ?_⟩
  rw [← hg]
  exact gcd_step (by omega) t1 (by omega) (by omega) eW

/-- The factors, and what they make, at the end. -/
theorem EuSteps.done {X Y u0 v0 a b c d u v : Int} (h : EuSteps X Y u0 v0 a b c d u v) :
    (-2147483648 < a ∧ a < 2147483648 ∧ -2147483648 < b ∧ b < 2147483648 ∧ -2147483648 < c ∧ c < 2147483648 ∧ -2147483648 < d ∧ d < 2147483648) ∧ (0 ≤ a ∧ b ≤ 0 ∧ c ≤ 0 ∧ 0 ≤ d ∨ a ≤ 0 ∧ 0 ≤ b ∧ 0 ≤ c ∧ d ≤ 0) := by
  obtain ⟨s, A, B, C, D, hs, ha, hb, hc, hd, ⟨hA0, hB0, hC0, hD1, hCD, hAC⟩, ⟨hA, hB, hC, hD⟩, _⟩ := h
  rcases hs with rfl | rfl
  · simp only [Int.one_mul] at ha hb hc hd; omega
  · simp only [Int.neg_mul, Int.one_mul, Int.neg_neg] at ha hb hc hd; omega

end Cin
