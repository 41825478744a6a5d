/- Intervals: plain facts of products and powers. No program. -/
import Derived.Test.YtfohgkabmdhhaaaGreatDoorYt
import Derived.Test.YtfohgkabmdhhaaaGreatDoorYx
namespace Cin
open Go Go.RowKit

/-- The lesser and the greater one. -/
def mn (x y : Rat) : Rat := if x ≤ y then x else y
def mx (x y : Rat) : Rat := if x ≤ y then y else x
theorem mn_l (x y : Rat) : mn x y ≤ x := by unfold mn; split <;> grind
theorem mn_r (x y : Rat) : mn x y ≤ y := by unfold mn; split <;> grind
theorem mx_l (x y : Rat) : x ≤ mx x y := by unfold mx; split <;> grind
theorem mx_r (x y : Rat) : y ≤ mx x y := by unfold mx; split <;> grind
theorem mn_or (x y : Rat) : mn x y = x ∨ mn x y = y := by unfold mn; split <;> simp
theorem mx_or (x y : Rat) : mx x y = x ∨ mx x y = y := by unfold mx; split <;> simp
def mn4 (p q r s : Rat) : Rat := mn (mn p q) (mn r s)
def mx4 (p q r s : Rat) : Rat := mx (mx p q) (mx r s)
theorem mn4_le (p q r s : Rat) : mn4 p q r s ≤ p ∧ mn4 p q r s ≤ q ∧ mn4 p q r s ≤ r ∧ mn4 p q r s ≤ s := by
  have a1 := mn_l p q
  have a2 := mn_r p q
  have a3 := mn_l r s
  have a4 := mn_r r s
  have a5 := mn_l (mn p q) (mn r s)
  have a6 := mn_r (mn p q) (mn r s)
  unfold mn4
  refine ⟨?_, ?_, ?_, ?_⟩ <;> grind
theorem mx4_ge (p q r s : Rat) : p ≤ mx4 p q r s ∧ q ≤ mx4 p q r s ∧ r ≤ mx4 p q r s ∧ s ≤ mx4 p q r s := by
  have a1 := mx_l p q
  have a2 := mx_r p q
  have a3 := mx_l r s
  have a4 := mx_r r s
  have a5 := mx_l (mx p q) (mx r s)
  have a6 := mx_r (mx p q) (mx r s)
  unfold mx4
  refine ⟨?_, ?_, ?_, ?_⟩ <;> grind
theorem mn4_or (p q r s : Rat) : mn4 p q r s = p ∨ mn4 p q r s = q ∨ mn4 p q r s = r ∨ mn4 p q r s = s := by
  have a1 := mn_or p q
  have a2 := mn_or r s
  have a3 := mn_or (mn p q) (mn r s)
  unfold mn4
  grind
theorem mx4_or (p q r s : Rat) : mx4 p q r s = p ∨ mx4 p q r s = q ∨ mx4 p q r s = r ∨ mx4 p q r s = s := by
  have a1 := mx_or p q
  have a2 := mx_or r s
  have a3 := mx_or (mx p q) (mx r s)
  unfold mx4
  grind
theorem eq_mn4 {l p q r s : Rat} (h1 : l ≤ p) (h2 : l ≤ q) (h3 : l ≤ r) (h4 : l ≤ s) (h : l = p ∨ l = q ∨ l = r ∨ l = s) : l = mn4 p q r s := by
  have a := mn4_le p q r s
  have b := mn4_or p q r s
  grind
theorem eq_mx4 {l p q r s : Rat} (h1 : p ≤ l) (h2 : q ≤ l) (h3 : r ≤ l) (h4 : s ≤ l) (h : l = p ∨ l = q ∨ l = r ∨ l = s) : l = mx4 p q r s := by
  have a := mx4_ge p q r s
  have b := mx4_or p q r s
  grind
/-- All products of two intervals. -/
def mLo (a b c d : Rat) : Rat := mn4 (a * c) (a * d) (b * c) (b * d)
def mHi (a b c d : Rat) : Rat := mx4 (a * c) (a * d) (b * c) (b * d)
theorem mLo_comm (a b c d : Rat) : mLo a b c d = mLo c d a b := by
  have h := mn4_le (a * c) (a * d) (b * c) (b * d)
  have g := mn4_or (a * c) (a * d) (b * c) (b * d)
  have e1 := Rat.mul_comm a c
  have e2 := Rat.mul_comm a d
  have e3 := Rat.mul_comm b c
  have e4 := Rat.mul_comm b d
  unfold mLo
  refine eq_mn4 ?_ ?_ ?_ ?_ ?_ <;> grind
theorem mHi_comm (a b c d : Rat) : mHi a b c d = mHi c d a b := by
  have h := mx4_ge (a * c) (a * d) (b * c) (b * d)
  have g := mx4_or (a * c) (a * d) (b * c) (b * d)
  have e1 := Rat.mul_comm a c
  have e2 := Rat.mul_comm a d
  have e3 := Rat.mul_comm b c
  have e4 := Rat.mul_comm b d
  unfold mHi
  refine eq_mx4 ?_ ?_ ?_ ?_ ?_ <;> grind
theorem mul_up {x y z : Rat} (h : x ≤ y) (hz : 0 ≤ z) : x * z ≤ y * z := Rat.mul_le_mul_of_nonneg_right h hz
theorem mul_dn {x y z : Rat} (h : x ≤ y) (hz : z ≤ 0) : y * z ≤ x * z := by
  have := Rat.mul_le_mul_of_nonneg_right h (c := -z) (by grind)
  grind
theorem mul_up' {x y z : Rat} (h : x ≤ y) (hz : 0 ≤ z) : z * x ≤ z * y := Rat.mul_le_mul_of_nonneg_left h hz
theorem mul_dn' {x y z : Rat} (h : x ≤ y) (hz : z ≤ 0) : z * y ≤ z * x := by
  have := mul_dn h hz
  grind
/-- What lies between lies between the products. -/
theorem mul_in {a b c d x y : Rat} (h1 : a ≤ x) (h2 : x ≤ b) (h3 : c ≤ y) (h4 : y ≤ d) : mLo a b c d ≤ x * y ∧ x * y ≤ mHi a b c d := by
  have g1 := mn4_le (a * c) (a * d) (b * c) (b * d)
  have g2 := mx4_ge (a * c) (a * d) (b * c) (b * d)
  unfold mLo mHi
  have k : ∀ z : Rat, (a * z ≤ x * z ∧ x * z ≤ b * z) ∨ (b * z ≤ x * z ∧ x * z ≤ a * z) := fun z => by
    rcases Rat.le_total (a := 0) (b := z) with hz | hz
    · exact .inl ⟨mul_up h1 hz, mul_up h2 hz⟩
    · exact .inr ⟨mul_dn h2 hz, mul_dn h1 hz⟩
  have kc := k c
  have kd := k d
  have l : (x * c ≤ x * y ∧ x * y ≤ x * d) ∨ (x * d ≤ x * y ∧ x * y ≤ x * c) := by
    rcases Rat.le_total (a := 0) (b := x) with hz | hz
    · exact .inl ⟨mul_up' h3 hz, mul_up' h4 hz⟩
    · exact .inr ⟨mul_dn' h4 hz, mul_dn' h3 hz⟩
  clear k
  constructor <;> grind
theorem mul_more {a b c d a' b' : Rat} (h1 : a ≤ a') (h2 : a' ≤ b') (h3 : b' ≤ b) (h4 : c ≤ d) : mLo a b c d ≤ mLo a' b' c d ∧ mHi a' b' c d ≤ mHi a b c d := by
  have e1 := mul_in (a := a) (b := b) (c := c) (d := d) (x := a') (y := c) h1 (by grind) (by grind) h4
  have e2 := mul_in (a := a) (b := b) (c := c) (d := d) (x := a') (y := d) h1 (by grind) h4 (by grind)
  have e3 := mul_in (a := a) (b := b) (c := c) (d := d) (x := b') (y := c) (by grind) h3 (by grind) h4
  have e4 := mul_in (a := a) (b := b) (c := c) (d := d) (x := b') (y := d) (by grind) h3 h4 (by grind)
  have g1 := mn4_or (a' * c) (a' * d) (b' * c) (b' * d)
  have g2 := mx4_or (a' * c) (a' * d) (b' * c) (b' * d)
  have f1 : mLo a' b' c d = mn4 (a' * c) (a' * d) (b' * c) (b' * d) := rfl
  have f2 : mHi a' b' c d = mx4 (a' * c) (a' * d) (b' * c) (b' * d) := rfl
  rw [f1, f2]
  constructor
  · rcases g1 with g | g | g | g <;> rw [g] <;> grind
  · rcases g2 with g | g | g | g <;> rw [g] <;> grind
/-- Of what has nothing below 0. -/
theorem mul_fz {a b c d : Rat} (h0 : 0 ≤ a) (h1 : a ≤ b) (h2 : c ≤ d) :
    (if c < 0 then b * c else a * c) = mLo a b c d ∧ (if d < 0 then a * d else b * d) = mHi a b c d := by
  have p1 := mul_up' h2 h0
  have p2 := mul_up' h2 (z := b) (by grind)
  constructor
  · split
    · next h =>
      have q := mul_dn h1 (z := c) (by grind)
      refine eq_mn4 ?_ ?_ ?_ ?_ (by simp) <;> grind
    · next h =>
      have q := mul_up h1 (z := c) (by grind)
      have r := mul_up h1 (z := d) (by grind)
      refine eq_mn4 ?_ ?_ ?_ ?_ (by simp) <;> grind
  · split
    · next h =>
      have q := mul_dn h1 (z := d) (by grind)
      have r := mul_dn h1 (z := c) (by grind)
      refine eq_mx4 ?_ ?_ ?_ ?_ (by simp) <;> grind
    · next h =>
      have q := mul_up h1 (z := d) (by grind)
      refine eq_mx4 ?_ ?_ ?_ ?_ (by simp) <;> grind
theorem mLo_turn (a b c d : Rat) : -mHi (-b) (-a) c d = mLo a b c d := by
  have g := mx4_ge (-b * c) (-b * d) (-a * c) (-a * d)
  have o := mx4_or (-b * c) (-b * d) (-a * c) (-a * d)
  have f : mHi (-b) (-a) c d = mx4 (-b * c) (-b * d) (-a * c) (-a * d) := rfl
  rw [f]
  refine eq_mn4 ?_ ?_ ?_ ?_ ?_ <;> grind
theorem mHi_turn (a b c d : Rat) : -mLo (-b) (-a) c d = mHi a b c d := by
  have g := mn4_le (-b * c) (-b * d) (-a * c) (-a * d)
  have o := mn4_or (-b * c) (-b * d) (-a * c) (-a * d)
  have f : mLo (-b) (-a) c d = mn4 (-b * c) (-b * d) (-a * c) (-a * d) := rfl
  rw [f]
  refine eq_mx4 ?_ ?_ ?_ ?_ ?_ <;> grind
/-- Of what has 0 inside both. -/
theorem mul_both {a b c d : Rat} (h1 : a < 0) (h2 : 0 < b) (h3 : c < 0) (h4 : 0 < d) : mn (a * d) (b * c) = mLo a b c d ∧ mx (a * c) (b * d) = mHi a b c d := by
  have p1 := mul_dn (x := a) (y := b) (z := c) (by grind) (by grind)
  have p2 := mul_up (x := a) (y := b) (z := d) (by grind) (by grind)
  have p3 := mul_dn' (x := c) (y := d) (z := a) (by grind) (by grind)
  have p4 := mul_up' (x := c) (y := d) (z := b) (by grind) (by grind)
  have m1 := mn_l (a * d) (b * c)
  have m2 := mn_r (a * d) (b * c)
  have m3 := mx_l (a * c) (b * d)
  have m4 := mx_r (a * c) (b * d)
  have o1 := mn_or (a * d) (b * c)
  have o2 := mx_or (a * c) (b * d)
  constructor
  · refine eq_mn4 ?_ ?_ ?_ ?_ ?_ <;> grind
  · refine eq_mx4 ?_ ?_ ?_ ?_ ?_ <;> grind
/-- Times a number. -/
theorem mul_sc {a b : Rat} (h : a ≤ b) (r : Rat) : (if r < 0 then b * r else a * r) = mLo a b r r ∧ (if r < 0 then a * r else b * r) = mHi a b r r := by
  constructor
  · split
    · next hr =>
      have := mul_dn h (z := r) (by grind)
      refine eq_mn4 ?_ ?_ ?_ ?_ (by simp) <;> grind
    · next hr =>
      have := mul_up h (z := r) (by grind)
      refine eq_mn4 ?_ ?_ ?_ ?_ (by simp) <;> grind
  · split
    · next hr =>
      have := mul_dn h (z := r) (by grind)
      refine eq_mx4 ?_ ?_ ?_ ?_ (by simp) <;> grind
    · next hr =>
      have := mul_up h (z := r) (by grind)
      refine eq_mx4 ?_ ?_ ?_ ?_ (by simp) <;> grind
/-- Powers. -/
theorem pow_up {x y : Rat} (h0 : 0 ≤ x) (h : x ≤ y) : ∀ n : Nat, x ^ n ≤ y ^ n
  | 0 => by rw [Rat.pow_zero, Rat.pow_zero]; grind
  | n + 1 => by
    rw [Rat.pow_succ, Rat.pow_succ]
    have := pow_up h0 h n
    have a := mul_up this h0
    have b := mul_up' h (z := y ^ n) (Rat.pow_nonneg (by grind))
    grind
theorem negq_pow (x : Rat) : ∀ n : Nat, (-x) ^ n = if n % 2 = 1 then -x ^ n else x ^ n
  | 0 => by rw [Rat.pow_zero, Rat.pow_zero]; rfl
  | n + 1 => by
    rw [Rat.pow_succ, Rat.pow_succ, negq_pow x n]
    by_cases h : n % 2 = 1
    · rw [if_pos h, if_neg (by omega)]; grind
    · rw [if_neg h, if_pos (by omega)]; grind
theorem pow_odd {x y : Rat} {n : Nat} (hn : n % 2 = 1) (h : x ≤ y) : x ^ n ≤ y ^ n := by
  have ex := negq_pow x n
  have ey := negq_pow y n
  rw [if_pos hn] at ex ey
  rcases Rat.le_total (a := 0) (b := x) with hx | hx
  · exact pow_up hx h n
  · rcases Rat.le_total (a := 0) (b := y) with hy | hy
    · have a := Rat.pow_nonneg (n := n) hy
      have b := Rat.pow_nonneg (n := n) (a := -x) (by grind)
      grind
    · have := pow_up (x := -y) (y := -x) (by grind) (by grind) n
      grind
theorem pow_even {x y : Rat} {n : Nat} (hn : n % 2 = 0) (h1 : -y ≤ x) (h2 : x ≤ y) : x ^ n ≤ y ^ n := by
  have ex := negq_pow x n
  rw [if_neg (by omega)] at ex
  rcases Rat.le_total (a := 0) (b := x) with hx | hx
  · exact pow_up hx h2 n
  · have := pow_up (x := -x) (y := y) (by grind) (by grind) n
    grind
theorem pow_ev0 {x : Rat} {n : Nat} (hn : n % 2 = 0) : 0 ≤ x ^ n := by
  have ex := negq_pow x n
  rw [if_neg (by omega)] at ex
  rcases Rat.le_total (a := 0) (b := x) with hx | hx
  · exact Rat.pow_nonneg hx
  · have := Rat.pow_nonneg (n := n) (a := -x) (by grind)
    grind
theorem zero_pow {n : Nat} (hn : n ≠ 0) : (0 : Rat) ^ n = 0 := by
  obtain ⟨m, rfl⟩ := Nat.exists_eq_succ_of_ne_zero hn
  rw [Rat.pow_succ, Rat.mul_zero]
/-- All powers of an interval. -/
def inZ (a b : Rat) (n : Nat) : Prop := n ≠ 0 ∧ n % 2 = 0 ∧ a < 0 ∧ 0 < b
instance (a b : Rat) (n : Nat) : Decidable (inZ a b n) := by unfold inZ; infer_instance
def pLo (a b : Rat) (n : Nat) : Rat := if inZ a b n then 0 else mn (a ^ n) (b ^ n)
def pHi (a b : Rat) (n : Nat) : Rat := mx (a ^ n) (b ^ n)
theorem mn_of {x y : Rat} (h : x ≤ y) : mn x y = x := if_pos h
theorem mn_of' {x y : Rat} (h : y ≤ x) : mn x y = y := by unfold mn; split <;> grind
theorem mx_of {x y : Rat} (h : x ≤ y) : mx x y = y := if_pos h
theorem mx_of' {x y : Rat} (h : y ≤ x) : mx x y = x := by unfold mx; split <;> grind
theorem pow_1 {a b : Rat} {n : Nat} (h : a ≤ b) (hc : n % 2 = 1 ∨ 0 ≤ a) : a ^ n = pLo a b n ∧ b ^ n = pHi a b n := by
  have h1 : a ^ n ≤ b ^ n := hc.elim (fun hn => pow_odd hn h) (fun h0 => pow_up h0 h n)
  unfold pLo pHi
  rw [if_neg (fun hz => by have := hz.2.1; have := hz.2.2.1; rcases hc with hc | hc; omega; grind), mn_of h1, mx_of h1]
  exact ⟨rfl, rfl⟩
theorem pow_2 {a b : Rat} {n : Nat} (h : a ≤ b) (hn : n % 2 = 0) (hc : n = 0 ∨ b ≤ 0) : b ^ n = pLo a b n ∧ a ^ n = pHi a b n := by
  have h1 : b ^ n ≤ a ^ n := by
    rcases hc with rfl | hb
    · rw [Rat.pow_zero, Rat.pow_zero]; grind
    · have ex := negq_pow a n
      have ey := negq_pow b n
      rw [if_neg (by omega)] at ex ey
      have := pow_up (x := -b) (y := -a) (by grind) (by grind) n
      grind
  unfold pLo pHi
  rw [if_neg (fun hz => by have := hz.1; have := hz.2.2.2; rcases hc with hc | hc; omega; grind), mn_of' h1, mx_of' h1]
  exact ⟨rfl, rfl⟩
theorem pow_3 {a b : Rat} {n : Nat} (hn : n % 2 = 0) (h0 : n ≠ 0) (ha : a < 0) (hb : 0 < b) : (0 : Rat) = pLo a b n ∧ (mx (-a) b) ^ n = pHi a b n := by
  unfold pLo
  rw [if_pos ⟨h0, hn, ha, hb⟩]
  refine ⟨rfl, ?_⟩
  have ex := negq_pow a n
  rw [if_neg (by omega)] at ex
  unfold pHi
  rcases Rat.le_total (a := -a) (b := b) with h | h
  · rw [mx_of h, mx_of]
    rw [← ex]; exact pow_up (by grind) h n
  · rw [mx_of' h, mx_of', ex]
    rw [← ex]; exact pow_up (by grind) h n
theorem pow_in {a b x : Rat} (h1 : a ≤ x) (h2 : x ≤ b) (n : Nat) : pLo a b n ≤ x ^ n ∧ x ^ n ≤ pHi a b n := by
  by_cases hc : n % 2 = 1 ∨ 0 ≤ a
  · obtain ⟨e1, e2⟩ := pow_1 (a := a) (b := b) (n := n) (by grind) hc
    rw [← e1, ← e2]
    rcases hc with hc | hc
    · exact ⟨pow_odd hc h1, pow_odd hc h2⟩
    · exact ⟨pow_up hc h1 n, pow_up (by grind) h2 n⟩
  · have hn : n % 2 = 0 := by omega
    by_cases hd : n = 0 ∨ b ≤ 0
    · obtain ⟨e1, e2⟩ := pow_2 (a := a) (b := b) (n := n) (by grind) hn hd
      rw [← e1, ← e2]
      rcases hd with rfl | hd
      · rw [Rat.pow_zero, Rat.pow_zero, Rat.pow_zero]; grind
      · have ex := negq_pow a n
        have ey := negq_pow b n
        have ez := negq_pow x n
        rw [if_neg (by omega)] at ex ey ez
        have := pow_up (x := -b) (y := -x) (by grind) (by grind) n
        have := pow_up (x := -x) (y := -a) (by grind) (by grind) n
        grind
    · obtain ⟨e1, e2⟩ := pow_3 (a := a) (b := b) (n := n) hn (by omega) (by grind) (by grind)
      rw [← e1, ← e2]
      have m1 := mx_l (-a) b
      have m2 := mx_r (-a) b
      exact ⟨pow_ev0 hn, pow_even hn (by grind) (by grind)⟩
theorem pow_more {a b a' b' : Rat} (h1 : a ≤ a') (h2 : a' ≤ b') (h3 : b' ≤ b) (n : Nat) : pLo a b n ≤ pLo a' b' n ∧ pHi a' b' n ≤ pHi a b n := by
  have e1 := pow_in (a := a) (b := b) (x := a') h1 (by grind) n
  have e2 := pow_in (a := a) (b := b) (x := b') (by grind) h3 n
  constructor
  · by_cases h : inZ a' b' n
    · have h' : inZ a b n := ⟨h.1, h.2.1, by have := h.2.2.1; grind, by have := h.2.2.2; grind⟩
      unfold pLo
      rw [if_pos h, if_pos h']; grind
    · have : pLo a' b' n = mn (a' ^ n) (b' ^ n) := if_neg h
      rw [this]
      have := mn_or (a' ^ n) (b' ^ n)
      grind
  · have := mx_or (a' ^ n) (b' ^ n)
    have f : pHi a' b' n = mx (a' ^ n) (b' ^ n) := rfl
    rw [f]
    grind

end Cin
/- Contracts of package span. -/
namespace Go.Proofs.YtfohgkabmdhhaaaGreatDoor
open Go.RowKit Cin

/-- An interval in the program's memory, and the document's. -/
def SpQ (w : World) (a b c d a' b' c' d' : Value) (x y : Rat) (k : Nat) : Prop := QB w a b c d x k ∧ QB w a' b' c' d' y k
def SpB (w : World) (v : Value) (x y : Rat) (k : Nat) : Prop := ∃ a b c d a' b' c' d', v = .agg #[a, b, c, d, a', b', c', d'] ∧ SpQ w a b c d a' b' c' d' x y k
def DsQ (w : World) (a b d a' b' d' : Value) (x y : Rat) (k : Nat) : Prop := DQ w a b d x k ∧ DQ w a' b' d' y k
def DsB (w : World) (v : Value) (x y : Rat) (k : Nat) : Prop := ∃ a b d a' b' d', v = .agg #[a, b, d, a', b', d'] ∧ DsQ w a b d a' b' d' x y k
theorem spl {w : World} {a b c d a' b' c' d' : Value} {x y : Rat} {k : Nat} (h : SpQ w a b c d a' b' c' d' x y k) : [a, b, c, d, a', b', c', d'].all Value.oneCell' = true := by
  have p := qpl h.1
  have p' := qpl h.2
  simp only [List.all_cons, List.all_nil, Bool.and_true, Bool.and_eq_true] at p p' ⊢
  exact ⟨p.1, p.2.1, p.2.2.1, p.2.2.2, p'.1, p'.2.1, p'.2.2.1, p'.2.2.2⟩
theorem dspl {w : World} {a b d a' b' d' : Value} {x y : Rat} {k : Nat} (h : DsQ w a b d a' b' d' x y k) : [a, b, d, a', b', d'].all Value.oneCell' = true := by
  have p := dpl h.1
  have p' := dpl h.2
  simp only [List.all_cons, List.all_nil, Bool.and_true, Bool.and_eq_true] at p p' ⊢
  exact ⟨p.1, p.2.1, p.2.2, p'.1, p'.2.1, p'.2.2⟩
theorem mSp {D : TypeId → Bool} (a b c d a' b' c' d' : Value) (x y : Rat) (k : Nat) (hD : D 146 = true := by rfl) : Mono D fun w => SpQ w a b c d a' b' c' d' x y k := (mQ _ _ _ _ _ _ hD).and (mQ _ _ _ _ _ _ hD)
theorem mDs {D : TypeId → Bool} (a b d a' b' d' : Value) (x y : Rat) (k : Nat) (hD : D 146 = true := by rfl) : Mono D fun w => DsQ w a b d a' b' d' x y k := (mD _ _ _ _ _ hD).and (mD _ _ _ _ _ hD)
theorem SpQ.mono {w : World} {a b c d a' b' c' d' : Value} {x y : Rat} {k j : Nat} (h : SpQ w a b c d a' b' c' d' x y k) (hj : k ≤ j) : SpQ w a b c d a' b' c' d' x y j := ⟨h.1.mono hj, h.2.mono hj⟩
section rules
variable {w0 : World} {Post : Ending → World → Prop} {F : World → Prop} {L : LC} {E : Env} {tr : Tr} {f : FuncId} {ar : List V1} {args : Array Value}
theorem wSp {D Z : TypeId → Bool} {x y : Rat} {m : Nat}
    (hc : ∀ w, Below w0.heap.size w0 w → F w → Calls Tryz.prog f args w fun e w' => ∃ v, e = .returned v ∧ SpB w' v x y m ∧ Below w.heap.size w w')
    {E' : Value → Value → Value → Value → Value → Value → Value → Value → Env} (hk : ∀ a b c d a' b' c' d', Wk Tryz.prog w0 D Z Post L (fun w => SpQ w a b c d a' b' c' d' x y m ∧ F w) tr (E' a b c d a' b' c' d')) (ha : (ar.map (V1.den [] E)).toArray = args := by rfl)
    (hE : ∀ a b c d a' b' c' d', E ++ [[a, b, c, d, a', b', c', d']] = E' a b c d a' b' c' d' := by intros; (simp only [List.cons_append, List.nil_append]) <;> exact rfl) (hD : D 146 = true := by rfl) : Wk Tryz.prog w0 D Z Post L F (.em (.call f ar [some 8]) tr) E := by
  intro hm u hF w e b
  subst ha
  refine (hc w b (hm u w e hF)).mono ?_
  rintro e1 w' ⟨v, rfl, ⟨a, b, c, d, a', b', c', d', rfl, h1⟩, h4⟩
  exact ⟨[a, b, c, d, a', b', c', d'], rfl, spl h1, h4, hE _ _ _ _ _ _ _ _ ▸ hk _ _ _ _ _ _ _ _ ((mSp _ _ _ _ _ _ _ _ _ _ _ hD).and hm) w' ⟨h1, hm u w' (e.below h4) hF⟩⟩
theorem wDs {D Z : TypeId → Bool} {x y : Rat} {m : Nat}
    (hc : ∀ w, Below w0.heap.size w0 w → F w → Calls Tryz.prog f args w fun e w' => ∃ v, e = .returned v ∧ DsB w' v x y m ∧ Below w.heap.size w w')
    {E' : Value → Value → Value → Value → Value → Value → Env} (hk : ∀ a b d a' b' d', Wk Tryz.prog w0 D Z Post L (fun w => DsQ w a b d a' b' d' x y m ∧ F w) tr (E' a b d a' b' d')) (ha : (ar.map (V1.den [] E)).toArray = args := by rfl)
    (hE : ∀ a b d a' b' d', E ++ [[a, b, d, a', b', d']] = E' a b d a' b' d' := by intros; (simp only [List.cons_append, List.nil_append]) <;> exact rfl) (hD : D 146 = true := by rfl) : Wk Tryz.prog w0 D Z Post L F (.em (.call f ar [some 6]) tr) E := by
  intro hm u hF w e b
  subst ha
  refine (hc w b (hm u w e hF)).mono ?_
  rintro e1 w' ⟨v, rfl, ⟨a, b, d, a', b', d', rfl, h1⟩, h4⟩
  exact ⟨[a, b, d, a', b', d'], rfl, dspl h1, h4, hE _ _ _ _ _ _ ▸ hk _ _ _ _ _ _ ((mDs _ _ _ _ _ _ _ _ _ hD).and hm) w' ⟨h1, hm u w' (e.below h4) hF⟩⟩
theorem wSpV {D Z : TypeId → Bool} {x y : Rat} {m : Nat} {cc : Value}
    (hc : ∀ w, Below w0.heap.size w0 w → F w → Calls Tryz.prog f args w fun e w' => ∃ v, e = .returned (.tuple #[v, cc]) ∧ SpB w' v x y m ∧ Below w.heap.size w w') (hv : cc.oneCell' = true)
    {E' : Value → Value → Value → Value → Value → Value → Value → Value → Env} (hk : ∀ a b c d a' b' c' d', Wk Tryz.prog w0 D Z Post L (fun w => SpQ w a b c d a' b' c' d' x y m ∧ F w) tr (E' a b c d a' b' c' d')) (ha : (ar.map (V1.den [] E)).toArray = args := by rfl)
    (hE : ∀ a b c d a' b' c' d', E ++ [[a, b, c, d, a', b', c', d', cc]] = E' a b c d a' b' c' d' := by intros; (simp only [List.cons_append, List.nil_append]) <;> exact rfl) (hD : D 146 = true := by rfl) : Wk Tryz.prog w0 D Z Post L F (.em (.call f ar [some 8, none]) tr) E := by
  intro hm u hF w e b
  subst ha
  refine (hc w b (hm u w e hF)).mono ?_
  rintro e1 w' ⟨v, rfl, ⟨a, b, c, d, a', b', c', d', rfl, h1⟩, h4⟩
  exact ⟨[a, b, c, d, a', b', c', d', cc], rfl, by have p := spl h1; simp only [List.all_cons, List.all_nil, Bool.and_true, Bool.and_eq_true] at p ⊢; exact ⟨p.1, p.2.1, p.2.2.1, p.2.2.2.1, p.2.2.2.2.1, p.2.2.2.2.2.1, p.2.2.2.2.2.2.1, p.2.2.2.2.2.2.2, hv⟩, h4, hE _ _ _ _ _ _ _ _ ▸ hk _ _ _ _ _ _ _ _ ((mSp _ _ _ _ _ _ _ _ _ _ _ hD).and hm) w' ⟨h1, hm u w' (e.below h4) hF⟩⟩
theorem wDsV {D Z : TypeId → Bool} {x y : Rat} {m : Nat} {cc : Value}
    (hc : ∀ w, Below w0.heap.size w0 w → F w → Calls Tryz.prog f args w fun e w' => ∃ v, e = .returned (.tuple #[v, cc]) ∧ DsB w' v x y m ∧ Below w.heap.size w w') (hv : cc.oneCell' = true)
    {E' : Value → Value → Value → Value → Value → Value → Env} (hk : ∀ a b d a' b' d', Wk Tryz.prog w0 D Z Post L (fun w => DsQ w a b d a' b' d' x y m ∧ F w) tr (E' a b d a' b' d')) (ha : (ar.map (V1.den [] E)).toArray = args := by rfl)
    (hE : ∀ a b d a' b' d', E ++ [[a, b, d, a', b', d', cc]] = E' a b d a' b' d' := by intros; (simp only [List.cons_append, List.nil_append]) <;> exact rfl) (hD : D 146 = true := by rfl) : Wk Tryz.prog w0 D Z Post L F (.em (.call f ar [some 6, none]) tr) E := by
  intro hm u hF w e b
  subst ha
  refine (hc w b (hm u w e hF)).mono ?_
  rintro e1 w' ⟨v, rfl, ⟨a, b, d, a', b', d', rfl, h1⟩, h4⟩
  exact ⟨[a, b, d, a', b', d', cc], rfl, by have p := dspl h1; simp only [List.all_cons, List.all_nil, Bool.and_true, Bool.and_eq_true] at p ⊢; exact ⟨p.1, p.2.1, p.2.2.1, p.2.2.2.1, p.2.2.2.2.1, p.2.2.2.2.2, hv⟩, h4, hE _ _ _ _ _ _ ▸ hk _ _ _ _ _ _ ((mDs _ _ _ _ _ _ _ _ _ hD).and hm) w' ⟨h1, hm u w' (e.below h4) hF⟩⟩
theorem wBothS {D Z : TypeId → Bool} {x y : Rat} {m : Nat} {cc : Value}
    (hc : ∀ w, Below w0.heap.size w0 w → F w → Calls Tryz.prog f args w fun e w' => ∃ v v', e = .returned (.tuple #[v, v', cc]) ∧ SpB w' v x y m ∧ DsB w' v' x y m ∧ Below w.heap.size w w') (hv : cc.oneCell' = true)
    {E' : Value → Value → Value → Value → Value → Value → Value → Value → Value → Value → Value → Value → Value → Value → Env} (hk : ∀ a b c d a' b' c' d' s t r s' t' r', Wk Tryz.prog w0 D Z Post L (fun w => SpQ w a b c d a' b' c' d' x y m ∧ DsQ w s t r s' t' r' x y m ∧ F w) tr (E' a b c d a' b' c' d' s t r s' t' r')) (ha : (ar.map (V1.den [] E)).toArray = args := by rfl)
    (hE : ∀ a b c d a' b' c' d' s t r s' t' r', E ++ [[a, b, c, d, a', b', c', d', s, t, r, s', t', r', cc]] = E' a b c d a' b' c' d' s t r s' t' r' := by intros; (simp only [List.cons_append, List.nil_append]) <;> exact rfl) (hD : D 146 = true := by rfl) : Wk Tryz.prog w0 D Z Post L F (.em (.call f ar [some 8, some 6, none]) tr) E := by
  intro hm u hF w e b
  subst ha
  refine (hc w b (hm u w e hF)).mono ?_
  rintro e1 w' ⟨v, v', rfl, ⟨a, b, c, d, a', b', c', d', rfl, h1⟩, ⟨s, t, r, s', t', r', rfl, h2⟩, h4⟩
  exact ⟨[a, b, c, d, a', b', c', d', s, t, r, s', t', r', cc], rfl, by have p := spl h1; have q := dspl h2; simp only [List.all_cons, List.all_nil, Bool.and_true, Bool.and_eq_true] at p q ⊢; exact ⟨p.1, p.2.1, p.2.2.1, p.2.2.2.1, p.2.2.2.2.1, p.2.2.2.2.2.1, p.2.2.2.2.2.2.1, p.2.2.2.2.2.2.2, q.1, q.2.1, q.2.2.1, q.2.2.2.1, q.2.2.2.2.1, q.2.2.2.2.2, hv⟩, h4, hE _ _ _ _ _ _ _ _ _ _ _ _ _ _ ▸ hk _ _ _ _ _ _ _ _ _ _ _ _ _ _ ((mSp _ _ _ _ _ _ _ _ _ _ _ hD).and ((mDs _ _ _ _ _ _ _ _ _ hD).and hm)) w' ⟨h1, h2, hm u w' (e.below h4) hF⟩⟩
end rules

theorem num_le0 (q : Rat) : q.num ≤ 0 ↔ q ≤ 0 := by
  have h := Rat.num_nonneg (q := -q)
  rw [Rat.neg_num] at h
  constructor
  · intro e; have := h.1 (by omega); grind
  · intro e; have := h.2 (by grind); omega
theorem num_lt0 (q : Rat) : q.num < 0 ↔ q < 0 := by
  have h := Rat.num_nonneg (q := q)
  rw [← Rat.not_le, ← h]; omega
theorem num_gt0 (q : Rat) : 0 < q.num ↔ 0 < q := by
  have h := num_le0 q
  rw [← Rat.not_le, ← h]; omega
theorem sg_lt (q : Rat) : decide (sgnZ q.num < 0) = decide (q < 0) := by
  have := num_lt0 q
  unfold sgnZ
  split
  · simp_all
  · split <;> simp_all
theorem sg_gt (q : Rat) : decide (0 < sgnZ q.num) = decide (0 < q) := by
  have h := num_gt0 q
  unfold sgnZ
  split
  · rw [decide_eq_false (by omega), decide_eq_false (by rw [← h]; omega)]
  · split
    · rw [decide_eq_true (by omega), decide_eq_true (by rw [← h]; omega)]
    · rw [decide_eq_false (by omega), decide_eq_false (by rw [← h]; omega)]
theorem sgT_lt {q : Rat} (e : decide (sgnZ q.num < 0) = true) : q < 0 := by rw [sg_lt] at e; simpa using e
theorem sgF_lt {q : Rat} (e : decide (sgnZ q.num < 0) = false) : 0 ≤ q := by rw [sg_lt] at e; have : ¬ q < 0 := (by simpa using e); grind
theorem sgT_gt {q : Rat} (e : decide (0 < sgnZ q.num) = true) : 0 < q := by rw [sg_gt] at e; simpa using e
theorem sgF_gt {q : Rat} (e : decide (0 < sgnZ q.num) = false) : q ≤ 0 := by rw [sg_gt] at e; have : ¬ 0 < q := (by simpa using e); grind
theorem sgT_ge {q : Rat} (e : decide (0 ≤ sgnZ q.num) = true) : 0 ≤ q := sgF_lt (by have : 0 ≤ sgnZ q.num := (by simpa using e); simp; omega)
theorem sgF_ge {q : Rat} (e : decide (0 ≤ sgnZ q.num) = false) : q < 0 := sgT_lt (by have : ¬ 0 ≤ sgnZ q.num := (by simpa using e); simp; omega)
theorem sgT_le {q : Rat} (e : decide (sgnZ q.num ≤ 0) = true) : q ≤ 0 := sgF_gt (by have : sgnZ q.num ≤ 0 := (by simpa using e); simp; omega)
theorem sgF_le {q : Rat} (e : decide (sgnZ q.num ≤ 0) = false) : 0 < q := sgT_gt (by have : ¬ sgnZ q.num ≤ 0 := (by simpa using e); simp; omega)
theorem v_le (x y : Rat) : decide (cmpQ x y ≤ 0) = decide (x ≤ y) := by
  unfold cmpQ
  split
  · rw [decide_eq_true (by decide), decide_eq_true (by grind)]
  · split
    · rw [decide_eq_false (by decide), decide_eq_false (by grind)]
    · rw [decide_eq_true (by decide), decide_eq_true (by grind)]
theorem v_lt (x y : Rat) : decide (cmpQ x y < 0) = decide (x < y) := by
  unfold cmpQ
  split
  · rw [decide_eq_true (by decide), decide_eq_true (by grind)]
  · split
    · rw [decide_eq_false (by decide), decide_eq_false (by grind)]
    · rw [decide_eq_false (by decide), decide_eq_false (by grind)]
theorem v_ge (x y : Rat) : decide (0 ≤ cmpQ x y) = decide (y ≤ x) := by
  unfold cmpQ
  split
  · rw [decide_eq_false (by decide), decide_eq_false (by grind)]
  · split
    · rw [decide_eq_true (by decide), decide_eq_true (by grind)]
    · rw [decide_eq_true (by decide), decide_eq_true (by grind)]
theorem v_gt (x y : Rat) : decide (0 < cmpQ x y) = decide (y < x) := by
  unfold cmpQ
  split
  · rw [decide_eq_false (by decide), decide_eq_false (by grind)]
  · split
    · rw [decide_eq_true (by decide), decide_eq_true (by grind)]
    · rw [decide_eq_false (by decide), decide_eq_false (by grind)]
theorem v_eq (x y : Rat) : (cmpQ x y == 0) = decide (x = y) := by
  unfold cmpQ
  split
  · rw [decide_eq_false (by grind)]; rfl
  · split
    · rw [decide_eq_false (by grind)]; rfl
    · rw [decide_eq_true (by grind)]; rfl
theorem cT_le {x y : Rat} (e : decide (cmpQ x y ≤ 0) = true) : x ≤ y := by rw [v_le] at e; simpa using e
theorem cF_le {x y : Rat} (e : decide (cmpQ x y ≤ 0) = false) : y < x := by rw [v_le] at e; have : ¬ x ≤ y := (by simpa using e); grind
theorem cT_lt {x y : Rat} (e : decide (cmpQ x y < 0) = true) : x < y := by rw [v_lt] at e; simpa using e
theorem cF_lt {x y : Rat} (e : decide (cmpQ x y < 0) = false) : y ≤ x := by rw [v_lt] at e; have : ¬ x < y := (by simpa using e); grind
theorem cT_ge {x y : Rat} (e : decide (0 ≤ cmpQ x y) = true) : y ≤ x := by rw [v_ge] at e; simpa using e
theorem cF_ge {x y : Rat} (e : decide (0 ≤ cmpQ x y) = false) : x < y := by rw [v_ge] at e; have : ¬ y ≤ x := (by simpa using e); grind
theorem cT_gt {x y : Rat} (e : decide (0 < cmpQ x y) = true) : y < x := by rw [v_gt] at e; simpa using e
theorem cF_gt {x y : Rat} (e : decide (0 < cmpQ x y) = false) : x ≤ y := by rw [v_gt] at e; have : ¬ y < x := (by simpa using e); grind

/-- fresh, lesser, greater. -/
theorem sfresh_any (v : Value) (q : Rat) (k : Nat) (w : World) (h : RatB w v q k) (hk : k ≤ 1000000) :
    Calls Tryz.prog 66 #[v] w fun e w' => ∃ v', e = .returned v' ∧ RatB w' v' q k ∧ Below w.heap.size w w' := by
  obtain ⟨a, b, c, d, rfl, h⟩ := h
  refine go (fun w => QB w a b c d q k) [[a, b, c, d]] [some 4] (tr := (.em (.call 79 [.g [.c 0 0, .c 0 1, .c 0 2, .c 0 3]] [some 4]) (.em (.call 79 [.g [.c 1 0, .c 1 1, .c 1 2, .c 1 3]] [some 4]) (.ret (.v (.g [.c 2 0, .c 2 1, .c 2 2, .c 2 3])))))) (by kernel_rfl) (by kernel_rfl) (by kernel_rfl) (mQ _ _ _ _ _ _) h ⟨qpl h, trivial⟩ ?_
  refine wRat (fun w b h => qneg_any _ q k w ⟨_, _, _, _, rfl, h⟩ hk) (fun _ _ _ _ => ?_)
  refine wRat (fun w b ⟨h, _⟩ => qneg_any _ (-q) k w ⟨_, _, _, _, rfl, h⟩ hk) (fun _ _ _ _ => ?_)
  exact wRet fun w b ⟨h, _⟩ => ⟨_, rfl, ⟨_, _, _, _, rfl, by rwa [Rat.neg_neg] at h⟩, b⟩

theorem lesser_any (v u : Value) (x y : Rat) (k : Nat) (w : World) (h : RatB w v x k) (h' : RatB w u y k) (hk : k ≤ 1000000) :
    Calls Tryz.prog 76 #[v, u] w fun e w' => ∃ v', e = .returned v' ∧ RatB w' v' (mn x y) k ∧ Below w.heap.size w w' := by
  obtain ⟨a, b, c, d, rfl, h⟩ := h
  obtain ⟨a', b', c', d', rfl, h'⟩ := h'
  refine go (fun w => QB w a b c d x k ∧ QB w a' b' c' d' y k) [[a, b, c, d], [a', b', c', d']] [some 4, some 4] (tr := (.em (.call 60 [.g [.c 0 0, .c 0 1, .c 0 2, .c 0 3], .g [.c 1 0, .c 1 1, .c 1 2, .c 1 3]] [none]) (.em (.pr (.binOp .leq 3 (.tmp 0) (.const (.int .i64 0)) 3) 4 [.s (.c 2 0), .s (.k (.int .i64 0))]) (.cond (.c 3 0) (.ret (.v (.g [.c 0 0, .c 0 1, .c 0 2, .c 0 3]))) (.ret (.v (.g [.c 1 0, .c 1 1, .c 1 2, .c 1 3]))))))) (by kernel_rfl) (by kernel_rfl) (by kernel_rfl) ((mQ _ _ _ _ _ _).and (mQ _ _ _ _ _ _)) ⟨h, h'⟩ ⟨qpl h, qpl h', trivial⟩ ?_
  refine wVal (fun w b ⟨h, h'⟩ => qcmp_any _ _ x y k k w ⟨_, _, _, _, rfl, h⟩ ⟨_, _, _, _, rfl, h'⟩ hk hk) rfl ?_
  refine wPr (prLe rfl rfl) rfl ?_
  refine wIf _ rfl (fun e => ?_) (fun e => ?_)
  · exact wRet fun w b ⟨h, _⟩ => ⟨_, rfl, ⟨_, _, _, _, rfl, by rw [mn_of (cT_le e)]; exact h⟩, b⟩
  · exact wRet fun w b ⟨_, h⟩ => ⟨_, rfl, ⟨_, _, _, _, rfl, by rw [mn_of' (Rat.le_of_lt (cF_le e))]; exact h⟩, b⟩

theorem greater_any (v u : Value) (x y : Rat) (k : Nat) (w : World) (h : RatB w v x k) (h' : RatB w u y k) (hk : k ≤ 1000000) :
    Calls Tryz.prog 77 #[v, u] w fun e w' => ∃ v', e = .returned v' ∧ RatB w' v' (mx x y) k ∧ Below w.heap.size w w' := by
  obtain ⟨a, b, c, d, rfl, h⟩ := h
  obtain ⟨a', b', c', d', rfl, h'⟩ := h'
  refine go (fun w => QB w a b c d x k ∧ QB w a' b' c' d' y k) [[a, b, c, d], [a', b', c', d']] [some 4, some 4] (tr := (.em (.call 60 [.g [.c 0 0, .c 0 1, .c 0 2, .c 0 3], .g [.c 1 0, .c 1 1, .c 1 2, .c 1 3]] [none]) (.em (.pr (.binOp .geq 3 (.tmp 0) (.const (.int .i64 0)) 3) 4 [.s (.c 2 0), .s (.k (.int .i64 0))]) (.cond (.c 3 0) (.ret (.v (.g [.c 0 0, .c 0 1, .c 0 2, .c 0 3]))) (.ret (.v (.g [.c 1 0, .c 1 1, .c 1 2, .c 1 3]))))))) (by kernel_rfl) (by kernel_rfl) (by kernel_rfl) ((mQ _ _ _ _ _ _).and (mQ _ _ _ _ _ _)) ⟨h, h'⟩ ⟨qpl h, qpl h', trivial⟩ ?_
  refine wVal (fun w b ⟨h, h'⟩ => qcmp_any _ _ x y k k w ⟨_, _, _, _, rfl, h⟩ ⟨_, _, _, _, rfl, h'⟩ hk hk) rfl ?_
  refine wPr (prGe rfl rfl) rfl ?_
  refine wIf _ rfl (fun e => ?_) (fun e => ?_)
  · exact wRet fun w b ⟨h, _⟩ => ⟨_, rfl, ⟨_, _, _, _, rfl, by rw [mx_of' (cT_ge e)]; exact h⟩, b⟩
  · exact wRet fun w b ⟨_, h⟩ => ⟨_, rfl, ⟨_, _, _, _, rfl, by rw [mx_of (Rat.le_of_lt (cF_ge e))]; exact h⟩, b⟩

/-- New: yes, no; Of. -/
theorem snewY (v u : Value) (x y : Rat) (k : Nat) (w : World) (h : RatB w v x k) (h' : RatB w u y k) (hk : k ≤ 1000000) (hl : x ≤ y) :
    Calls Tryz.prog 16 #[v, u] w fun e w' => ∃ v', e = .returned (.tuple #[v', .bool true]) ∧ SpB w' v' x y k ∧ Below w.heap.size w w' := by
  obtain ⟨a, b, c, d, rfl, h⟩ := h
  obtain ⟨a', b', c', d', rfl, h'⟩ := h'
  refine go (fun w => QB w a b c d x k ∧ QB w a' b' c' d' y k) [[a, b, c, d], [a', b', c', d']] [some 4, some 4] (tr := (.em (.call 60 [.g [.c 0 0, .c 0 1, .c 0 2, .c 0 3], .g [.c 1 0, .c 1 1, .c 1 2, .c 1 3]] [none]) (.em (.pr (.binOp .gtr 3 (.tmp 0) (.const (.int .i64 0)) 3) 4 [.s (.c 2 0), .s (.k (.int .i64 0))]) (.cond (.c 3 0) (.ret (.t [.g [.k (.bool false), .k (.slice none 0 0), .k (.bool false), .k (.slice none 0 0), .k (.bool false), .k (.slice none 0 0), .k (.bool false), .k (.slice none 0 0)], .s (.k (.bool false))])) (.em (.call 66 [.g [.c 0 0, .c 0 1, .c 0 2, .c 0 3]] [some 4]) (.em (.call 66 [.g [.c 1 0, .c 1 1, .c 1 2, .c 1 3]] [some 4]) (.ret (.t [.g [.c 4 0, .c 4 1, .c 4 2, .c 4 3, .c 5 0, .c 5 1, .c 5 2, .c 5 3], .s (.k (.bool true))])))))))) (by kernel_rfl) (by kernel_rfl) (by kernel_rfl) ((mQ _ _ _ _ _ _).and (mQ _ _ _ _ _ _)) ⟨h, h'⟩ ⟨qpl h, qpl h', trivial⟩ ?_
  refine wVal (fun w b ⟨h, h'⟩ => qcmp_any _ _ x y k k w ⟨_, _, _, _, rfl, h⟩ ⟨_, _, _, _, rfl, h'⟩ hk hk) rfl ?_
  refine wPr (prGt rfl rfl) rfl ?_
  refine wFalse (by show Value.bool (decide _) = _; rw [v_gt, decide_eq_false (by grind)]) ?_
  refine wRat (fun w b ⟨h, _⟩ => sfresh_any _ x k w ⟨_, _, _, _, rfl, h⟩ hk) (fun _ _ _ _ => ?_)
  refine wRat (fun w b ⟨_, _, h⟩ => sfresh_any _ y k w ⟨_, _, _, _, rfl, h⟩ hk) (fun _ _ _ _ => ?_)
  exact wRet fun w b ⟨h2, h1, _⟩ => ⟨_, rfl, ⟨_, _, _, _, _, _, _, _, rfl, h1, h2⟩, b⟩

def ZeroS : List Value := [.bool false, .slice none 0 0, .bool false, .slice none 0 0, .bool false, .slice none 0 0, .bool false, .slice none 0 0]
theorem snewN (v u : Value) (x y : Rat) (k : Nat) (w : World) (h : RatB w v x k) (h' : RatB w u y k) (hk : k ≤ 1000000) (hl : y < x) :
    Calls Tryz.prog 16 #[v, u] w fun e w' => e = .returned (.tuple #[.agg ZeroS.toArray, .bool false]) ∧ Below w.heap.size w w' := by
  obtain ⟨a, b, c, d, rfl, h⟩ := h
  obtain ⟨a', b', c', d', rfl, h'⟩ := h'
  refine go (fun w => QB w a b c d x k ∧ QB w a' b' c' d' y k) [[a, b, c, d], [a', b', c', d']] [some 4, some 4] (tr := (.em (.call 60 [.g [.c 0 0, .c 0 1, .c 0 2, .c 0 3], .g [.c 1 0, .c 1 1, .c 1 2, .c 1 3]] [none]) (.em (.pr (.binOp .gtr 3 (.tmp 0) (.const (.int .i64 0)) 3) 4 [.s (.c 2 0), .s (.k (.int .i64 0))]) (.cond (.c 3 0) (.ret (.t [.g [.k (.bool false), .k (.slice none 0 0), .k (.bool false), .k (.slice none 0 0), .k (.bool false), .k (.slice none 0 0), .k (.bool false), .k (.slice none 0 0)], .s (.k (.bool false))])) (.em (.call 66 [.g [.c 0 0, .c 0 1, .c 0 2, .c 0 3]] [some 4]) (.em (.call 66 [.g [.c 1 0, .c 1 1, .c 1 2, .c 1 3]] [some 4]) (.ret (.t [.g [.c 4 0, .c 4 1, .c 4 2, .c 4 3, .c 5 0, .c 5 1, .c 5 2, .c 5 3], .s (.k (.bool true))])))))))) (by kernel_rfl) (by kernel_rfl) (by kernel_rfl) ((mQ _ _ _ _ _ _).and (mQ _ _ _ _ _ _)) ⟨h, h'⟩ ⟨qpl h, qpl h', trivial⟩ ?_
  refine wVal (fun w b ⟨h, h'⟩ => qcmp_any _ _ x y k k w ⟨_, _, _, _, rfl, h⟩ ⟨_, _, _, _, rfl, h'⟩ hk hk) rfl ?_
  refine wPr (prGt rfl rfl) rfl ?_
  refine wTrue (by show Value.bool (decide _) = _; rw [v_gt, decide_eq_true hl]) ?_
  exact wRet fun w b _ => ⟨rfl, b⟩
theorem zeroSp (w : World) : SpB w (.agg ZeroS.toArray) 0 0 1 :=
  ⟨_, _, _, _, _, _, _, _, rfl, ⟨IntB.zero _ _ _, IntB.zero _ _ _, by decide⟩, ⟨IntB.zero _ _ _, IntB.zero _ _ _, by decide⟩⟩

theorem sof_any (v : Value) (x : Rat) (k : Nat) (w : World) (h : RatB w v x k) (hk : k ≤ 1000000) :
    Calls Tryz.prog 20 #[v] w fun e w' => ∃ v', e = .returned v' ∧ SpB w' v' x x k ∧ Below w.heap.size w w' := by
  obtain ⟨a, b, c, d, rfl, h⟩ := h
  refine go (fun w => QB w a b c d x k) [[a, b, c, d]] [some 4] (tr := (.em (.call 66 [.g [.c 0 0, .c 0 1, .c 0 2, .c 0 3]] [some 4]) (.em (.call 66 [.g [.c 0 0, .c 0 1, .c 0 2, .c 0 3]] [some 4]) (.ret (.v (.g [.c 1 0, .c 1 1, .c 1 2, .c 1 3, .c 2 0, .c 2 1, .c 2 2, .c 2 3])))))) (by kernel_rfl) (by kernel_rfl) (by kernel_rfl) (mQ _ _ _ _ _ _) h ⟨qpl h, trivial⟩ ?_
  refine wRat (fun w b h => sfresh_any _ x k w ⟨_, _, _, _, rfl, h⟩ hk) (fun _ _ _ _ => ?_)
  refine wRat (fun w b ⟨_, h⟩ => sfresh_any _ x k w ⟨_, _, _, _, rfl, h⟩ hk) (fun _ _ _ _ => ?_)
  exact wRet fun w b ⟨h2, h1, _⟩ => ⟨_, rfl, ⟨_, _, _, _, _, _, _, _, rfl, h1, h2⟩, b⟩

theorem sadd_any (v u : Value) (x y x' y' : Rat) (k j : Nat) (w : World) (h : SpB w v x y k) (h' : SpB w u x' y' j) (hk : k ≤ 100000) (hj : j ≤ 100000) :
    Calls Tryz.prog 24 #[v, u] w fun e w' => ∃ v', e = .returned v' ∧ SpB w' v' (x + x') (y + y') (k + j + 1) ∧ Below w.heap.size w w' := by
  obtain ⟨a, b, c, d, a', b', c', d', rfl, h⟩ := h
  obtain ⟨p, q, r, s, p', q', r', s', rfl, h'⟩ := h'
  refine go (fun w => SpQ w a b c d a' b' c' d' x y k ∧ SpQ w p q r s p' q' r' s' x' y' j) [[a, b, c, d, a', b', c', d'], [p, q, r, s, p', q', r', s']] [some 8, some 8] (tr := (.em (.call 56 [.g [.c 0 0, .c 0 1, .c 0 2, .c 0 3], .g [.c 1 0, .c 1 1, .c 1 2, .c 1 3]] [some 4]) (.em (.call 56 [.g [.c 0 4, .c 0 5, .c 0 6, .c 0 7], .g [.c 1 4, .c 1 5, .c 1 6, .c 1 7]] [some 4]) (.ret (.v (.g [.c 2 0, .c 2 1, .c 2 2, .c 2 3, .c 3 0, .c 3 1, .c 3 2, .c 3 3])))))) (by kernel_rfl) (by kernel_rfl) (by kernel_rfl) ((mSp _ _ _ _ _ _ _ _ _ _ _).and (mSp _ _ _ _ _ _ _ _ _ _ _)) ⟨h, h'⟩ ⟨spl h, spl h', trivial⟩ ?_
  refine wRat (fun w b ⟨h, h'⟩ => qadd_any _ _ x x' k j w ⟨_, _, _, _, rfl, h.1⟩ ⟨_, _, _, _, rfl, h'.1⟩ (by omega) (by omega)) (fun _ _ _ _ => ?_)
  refine wRat (fun w b ⟨_, h, h'⟩ => qadd_any _ _ y y' k j w ⟨_, _, _, _, rfl, h.2⟩ ⟨_, _, _, _, rfl, h'.2⟩ (by omega) (by omega)) (fun _ _ _ _ => ?_)
  exact wRet fun w b ⟨h2, h1, _⟩ => ⟨_, rfl, ⟨_, _, _, _, _, _, _, _, rfl, h1, h2⟩, b⟩

theorem ssub_any (v u : Value) (x y x' y' : Rat) (k j : Nat) (w : World) (h : SpB w v x y k) (h' : SpB w u x' y' j) (hk : k ≤ 100000) (hj : j ≤ 100000) :
    Calls Tryz.prog 26 #[v, u] w fun e w' => ∃ v', e = .returned v' ∧ SpB w' v' (x - y') (y - x') (k + j + 1) ∧ Below w.heap.size w w' := by
  obtain ⟨a, b, c, d, a', b', c', d', rfl, h⟩ := h
  obtain ⟨p, q, r, s, p', q', r', s', rfl, h'⟩ := h'
  refine go (fun w => SpQ w a b c d a' b' c' d' x y k ∧ SpQ w p q r s p' q' r' s' x' y' j) [[a, b, c, d, a', b', c', d'], [p, q, r, s, p', q', r', s']] [some 8, some 8] (tr := (.em (.call 57 [.g [.c 0 0, .c 0 1, .c 0 2, .c 0 3], .g [.c 1 4, .c 1 5, .c 1 6, .c 1 7]] [some 4]) (.em (.call 57 [.g [.c 0 4, .c 0 5, .c 0 6, .c 0 7], .g [.c 1 0, .c 1 1, .c 1 2, .c 1 3]] [some 4]) (.ret (.v (.g [.c 2 0, .c 2 1, .c 2 2, .c 2 3, .c 3 0, .c 3 1, .c 3 2, .c 3 3])))))) (by kernel_rfl) (by kernel_rfl) (by kernel_rfl) ((mSp _ _ _ _ _ _ _ _ _ _ _).and (mSp _ _ _ _ _ _ _ _ _ _ _)) ⟨h, h'⟩ ⟨spl h, spl h', trivial⟩ ?_
  refine wRat (fun w b ⟨h, h'⟩ => qsub_any _ _ x y' k j w ⟨_, _, _, _, rfl, h.1⟩ ⟨_, _, _, _, rfl, h'.2⟩ (by omega) (by omega)) (fun _ _ _ _ => ?_)
  refine wRat (fun w b ⟨_, h, h'⟩ => qsub_any _ _ y x' k j w ⟨_, _, _, _, rfl, h.2⟩ ⟨_, _, _, _, rfl, h'.1⟩ (by omega) (by omega)) (fun _ _ _ _ => ?_)
  exact wRet fun w b ⟨h2, h1, _⟩ => ⟨_, rfl, ⟨_, _, _, _, _, _, _, _, rfl, h1, h2⟩, b⟩

theorem turn_any (v : Value) (x y : Rat) (k : Nat) (w : World) (h : SpB w v x y k) (hk : k ≤ 1000000) :
    Calls Tryz.prog 75 #[v] w fun e w' => ∃ v', e = .returned v' ∧ SpB w' v' (-y) (-x) k ∧ Below w.heap.size w w' := by
  obtain ⟨a, b, c, d, a', b', c', d', rfl, h⟩ := h
  refine go (fun w => SpQ w a b c d a' b' c' d' x y k) [[a, b, c, d, a', b', c', d']] [some 8] (tr := (.em (.call 79 [.g [.c 0 4, .c 0 5, .c 0 6, .c 0 7]] [some 4]) (.em (.call 79 [.g [.c 0 0, .c 0 1, .c 0 2, .c 0 3]] [some 4]) (.ret (.v (.g [.c 1 0, .c 1 1, .c 1 2, .c 1 3, .c 2 0, .c 2 1, .c 2 2, .c 2 3])))))) (by kernel_rfl) (by kernel_rfl) (by kernel_rfl) (mSp _ _ _ _ _ _ _ _ _ _ _) h ⟨spl h, trivial⟩ ?_
  refine wRat (fun w b h => qneg_any _ y k w ⟨_, _, _, _, rfl, h.2⟩ hk) (fun _ _ _ _ => ?_)
  refine wRat (fun w b ⟨_, h⟩ => qneg_any _ x k w ⟨_, _, _, _, rfl, h.1⟩ hk) (fun _ _ _ _ => ?_)
  exact wRet fun w b ⟨h2, h1, _⟩ => ⟨_, rfl, ⟨_, _, _, _, _, _, _, _, rfl, h1, h2⟩, b⟩

theorem smulz_any (v u : Value) (x y x' y' : Rat) (k j : Nat) (w : World) (h : SpB w v x y k) (h' : SpB w u x' y' j) (hk : k ≤ 100000) (hj : j ≤ 100000) (h0 : 0 ≤ x) (hl : x ≤ y) (hl' : x' ≤ y') :
    Calls Tryz.prog 74 #[v, u] w fun e w' => ∃ v', e = .returned v' ∧ SpB w' v' (mLo x y x' y') (mHi x y x' y') (k + j) ∧ Below w.heap.size w w' := by
  obtain ⟨a, b, c, d, a', b', c', d', rfl, h⟩ := h
  obtain ⟨p, q, r, s, p', q', r', s', rfl, h'⟩ := h'
  refine go (fun w => SpQ w a b c d a' b' c' d' x y k ∧ SpQ w p q r s p' q' r' s' x' y' j) [[a, b, c, d, a', b', c', d'], [p, q, r, s, p', q', r', s']] [some 8, some 8] (tr := (.em (.call 61 [.g [.c 1 0, .c 1 1, .c 1 2, .c 1 3]] [none]) (.em (.pr (.binOp .lss 3 (.tmp 0) (.const (.int .i64 0)) 3) 4 [.s (.c 2 0), .s (.k (.int .i64 0))]) (.cond (.c 3 0) (.em (.call 61 [.g [.c 1 4, .c 1 5, .c 1 6, .c 1 7]] [none]) (.em (.pr (.binOp .lss 3 (.tmp 0) (.const (.int .i64 0)) 3) 4 [.s (.c 4 0), .s (.k (.int .i64 0))]) (.cond (.c 5 0) (.em (.call 58 [.g [.c 0 4, .c 0 5, .c 0 6, .c 0 7], .g [.c 1 0, .c 1 1, .c 1 2, .c 1 3]] [some 4]) (.em (.call 58 [.g [.c 0 0, .c 0 1, .c 0 2, .c 0 3], .g [.c 1 4, .c 1 5, .c 1 6, .c 1 7]] [some 4]) (.ret (.v (.g [.c 6 0, .c 6 1, .c 6 2, .c 6 3, .c 7 0, .c 7 1, .c 7 2, .c 7 3]))))) (.em (.call 58 [.g [.c 0 4, .c 0 5, .c 0 6, .c 0 7], .g [.c 1 0, .c 1 1, .c 1 2, .c 1 3]] [some 4]) (.em (.call 58 [.g [.c 0 4, .c 0 5, .c 0 6, .c 0 7], .g [.c 1 4, .c 1 5, .c 1 6, .c 1 7]] [some 4]) (.ret (.v (.g [.c 6 0, .c 6 1, .c 6 2, .c 6 3, .c 7 0, .c 7 1, .c 7 2, .c 7 3])))))))) (.em (.call 61 [.g [.c 1 4, .c 1 5, .c 1 6, .c 1 7]] [none]) (.em (.pr (.binOp .lss 3 (.tmp 0) (.const (.int .i64 0)) 3) 4 [.s (.c 4 0), .s (.k (.int .i64 0))]) (.cond (.c 5 0) (.em (.call 58 [.g [.c 0 0, .c 0 1, .c 0 2, .c 0 3], .g [.c 1 0, .c 1 1, .c 1 2, .c 1 3]] [some 4]) (.em (.call 58 [.g [.c 0 0, .c 0 1, .c 0 2, .c 0 3], .g [.c 1 4, .c 1 5, .c 1 6, .c 1 7]] [some 4]) (.ret (.v (.g [.c 6 0, .c 6 1, .c 6 2, .c 6 3, .c 7 0, .c 7 1, .c 7 2, .c 7 3]))))) (.em (.call 58 [.g [.c 0 0, .c 0 1, .c 0 2, .c 0 3], .g [.c 1 0, .c 1 1, .c 1 2, .c 1 3]] [some 4]) (.em (.call 58 [.g [.c 0 4, .c 0 5, .c 0 6, .c 0 7], .g [.c 1 4, .c 1 5, .c 1 6, .c 1 7]] [some 4]) (.ret (.v (.g [.c 6 0, .c 6 1, .c 6 2, .c 6 3, .c 7 0, .c 7 1, .c 7 2, .c 7 3])))))))))))) (by kernel_rfl) (by kernel_rfl) (by kernel_rfl) ((mSp _ _ _ _ _ _ _ _ _ _ _).and (mSp _ _ _ _ _ _ _ _ _ _ _)) ⟨h, h'⟩ ⟨spl h, spl h', trivial⟩ ?_
  obtain ⟨z1, z2⟩ := mul_fz h0 hl hl'
  rw [← z1, ← z2]
  refine wVal (fun w b ⟨_, h⟩ => qsign_any _ x' j w ⟨_, _, _, _, rfl, h.1⟩ (by omega)) rfl ?_
  refine wPr (prLt rfl rfl) rfl ?_
  refine wIf _ rfl (fun e => ?_) (fun e => ?_)
  · have s1 := sgT_lt e
    rw [if_pos s1]
    refine wVal (fun w b ⟨_, h⟩ => qsign_any _ y' j w ⟨_, _, _, _, rfl, h.2⟩ (by omega)) rfl ?_
    refine wPr (prLt rfl rfl) rfl ?_
    refine wIf _ rfl (fun e => ?_) (fun e => ?_)
    · have s2 := sgT_lt e
      rw [if_pos s2]
      refine wRat (fun w b ⟨h, h'⟩ => qmul_any _ _ y x' k j w ⟨_, _, _, _, rfl, h.2⟩ ⟨_, _, _, _, rfl, h'.1⟩ (by omega) (by omega)) (fun _ _ _ _ => ?_)
      refine wRat (fun w b ⟨_, h, h'⟩ => qmul_any _ _ x y' k j w ⟨_, _, _, _, rfl, h.1⟩ ⟨_, _, _, _, rfl, h'.2⟩ (by omega) (by omega)) (fun _ _ _ _ => ?_)
      exact wRet fun w b ⟨h2, h1, _⟩ => ⟨_, rfl, ⟨_, _, _, _, _, _, _, _, rfl, h1, h2⟩, b⟩
    · have s2 := sgF_lt e
      rw [if_neg (by grind : ¬ y' < 0)]
      refine wRat (fun w b ⟨h, h'⟩ => qmul_any _ _ y x' k j w ⟨_, _, _, _, rfl, h.2⟩ ⟨_, _, _, _, rfl, h'.1⟩ (by omega) (by omega)) (fun _ _ _ _ => ?_)
      refine wRat (fun w b ⟨_, h, h'⟩ => qmul_any _ _ y y' k j w ⟨_, _, _, _, rfl, h.2⟩ ⟨_, _, _, _, rfl, h'.2⟩ (by omega) (by omega)) (fun _ _ _ _ => ?_)
      exact wRet fun w b ⟨h2, h1, _⟩ => ⟨_, rfl, ⟨_, _, _, _, _, _, _, _, rfl, h1, h2⟩, b⟩
  · have s1 := sgF_lt e
    rw [if_neg (by grind : ¬ x' < 0)]
    refine wVal (fun w b ⟨_, h⟩ => qsign_any _ y' j w ⟨_, _, _, _, rfl, h.2⟩ (by omega)) rfl ?_
    refine wPr (prLt rfl rfl) rfl ?_
    refine wIf _ rfl (fun e => ?_) (fun e => ?_)
    · have s2 := sgT_lt e
      rw [if_pos s2]
      refine wRat (fun w b ⟨h, h'⟩ => qmul_any _ _ x x' k j w ⟨_, _, _, _, rfl, h.1⟩ ⟨_, _, _, _, rfl, h'.1⟩ (by omega) (by omega)) (fun _ _ _ _ => ?_)
      refine wRat (fun w b ⟨_, h, h'⟩ => qmul_any _ _ x y' k j w ⟨_, _, _, _, rfl, h.1⟩ ⟨_, _, _, _, rfl, h'.2⟩ (by omega) (by omega)) (fun _ _ _ _ => ?_)
      exact wRet fun w b ⟨h2, h1, _⟩ => ⟨_, rfl, ⟨_, _, _, _, _, _, _, _, rfl, h1, h2⟩, b⟩
    · have s2 := sgF_lt e
      rw [if_neg (by grind : ¬ y' < 0)]
      refine wRat (fun w b ⟨h, h'⟩ => qmul_any _ _ x x' k j w ⟨_, _, _, _, rfl, h.1⟩ ⟨_, _, _, _, rfl, h'.1⟩ (by omega) (by omega)) (fun _ _ _ _ => ?_)
      refine wRat (fun w b ⟨_, h, h'⟩ => qmul_any _ _ y y' k j w ⟨_, _, _, _, rfl, h.2⟩ ⟨_, _, _, _, rfl, h'.2⟩ (by omega) (by omega)) (fun _ _ _ _ => ?_)
      exact wRet fun w b ⟨h2, h1, _⟩ => ⟨_, rfl, ⟨_, _, _, _, _, _, _, _, rfl, h1, h2⟩, b⟩

set_option maxHeartbeats 2000000 in
theorem smul_any (v u : Value) (x y x' y' : Rat) (k j : Nat) (w : World) (h : SpB w v x y k) (h' : SpB w u x' y' j) (hk : k ≤ 100000) (hj : j ≤ 100000) (hl : x ≤ y) (hl' : x' ≤ y') :
    Calls Tryz.prog 28 #[v, u] w fun e w' => ∃ v', e = .returned v' ∧ SpB w' v' (mLo x y x' y') (mHi x y x' y') (k + j) ∧ Below w.heap.size w w' := by
  obtain ⟨a, b, c, d, a', b', c', d', rfl, h⟩ := h
  obtain ⟨p, q, r, s, p', q', r', s', rfl, h'⟩ := h'
  refine go (fun w => SpQ w a b c d a' b' c' d' x y k ∧ SpQ w p q r s p' q' r' s' x' y' j) [[a, b, c, d, a', b', c', d'], [p, q, r, s, p', q', r', s']] [some 8, some 8] (tr := (.em (.call 61 [.g [.c 0 0, .c 0 1, .c 0 2, .c 0 3]] [none]) (.em (.pr (.binOp .geq 3 (.tmp 0) (.const (.int .i64 0)) 3) 4 [.s (.c 2 0), .s (.k (.int .i64 0))]) (.cond (.c 3 0) (.em (.call 74 [.g [.c 0 0, .c 0 1, .c 0 2, .c 0 3, .c 0 4, .c 0 5, .c 0 6, .c 0 7], .g [.c 1 0, .c 1 1, .c 1 2, .c 1 3, .c 1 4, .c 1 5, .c 1 6, .c 1 7]] [some 8]) (.ret (.v (.g [.c 4 0, .c 4 1, .c 4 2, .c 4 3, .c 4 4, .c 4 5, .c 4 6, .c 4 7])))) (.em (.call 61 [.g [.c 1 0, .c 1 1, .c 1 2, .c 1 3]] [none]) (.em (.pr (.binOp .geq 3 (.tmp 0) (.const (.int .i64 0)) 3) 4 [.s (.c 4 0), .s (.k (.int .i64 0))]) (.cond (.c 5 0) (.em (.call 74 [.g [.c 1 0, .c 1 1, .c 1 2, .c 1 3, .c 1 4, .c 1 5, .c 1 6, .c 1 7], .g [.c 0 0, .c 0 1, .c 0 2, .c 0 3, .c 0 4, .c 0 5, .c 0 6, .c 0 7]] [some 8]) (.ret (.v (.g [.c 6 0, .c 6 1, .c 6 2, .c 6 3, .c 6 4, .c 6 5, .c 6 6, .c 6 7])))) (.em (.call 61 [.g [.c 0 4, .c 0 5, .c 0 6, .c 0 7]] [none]) (.em (.pr (.binOp .leq 3 (.tmp 0) (.const (.int .i64 0)) 3) 4 [.s (.c 6 0), .s (.k (.int .i64 0))]) (.cond (.c 7 0) (.em (.call 75 [.g [.c 0 0, .c 0 1, .c 0 2, .c 0 3, .c 0 4, .c 0 5, .c 0 6, .c 0 7]] [some 8]) (.em (.call 74 [.g [.c 8 0, .c 8 1, .c 8 2, .c 8 3, .c 8 4, .c 8 5, .c 8 6, .c 8 7], .g [.c 1 0, .c 1 1, .c 1 2, .c 1 3, .c 1 4, .c 1 5, .c 1 6, .c 1 7]] [some 8]) (.em (.call 75 [.g [.c 9 0, .c 9 1, .c 9 2, .c 9 3, .c 9 4, .c 9 5, .c 9 6, .c 9 7]] [some 8]) (.ret (.v (.g [.c 10 0, .c 10 1, .c 10 2, .c 10 3, .c 10 4, .c 10 5, .c 10 6, .c 10 7])))))) (.em (.call 61 [.g [.c 1 4, .c 1 5, .c 1 6, .c 1 7]] [none]) (.em (.pr (.binOp .leq 3 (.tmp 0) (.const (.int .i64 0)) 3) 4 [.s (.c 8 0), .s (.k (.int .i64 0))]) (.cond (.c 9 0) (.em (.call 75 [.g [.c 1 0, .c 1 1, .c 1 2, .c 1 3, .c 1 4, .c 1 5, .c 1 6, .c 1 7]] [some 8]) (.em (.call 74 [.g [.c 10 0, .c 10 1, .c 10 2, .c 10 3, .c 10 4, .c 10 5, .c 10 6, .c 10 7], .g [.c 0 0, .c 0 1, .c 0 2, .c 0 3, .c 0 4, .c 0 5, .c 0 6, .c 0 7]] [some 8]) (.em (.call 75 [.g [.c 11 0, .c 11 1, .c 11 2, .c 11 3, .c 11 4, .c 11 5, .c 11 6, .c 11 7]] [some 8]) (.ret (.v (.g [.c 12 0, .c 12 1, .c 12 2, .c 12 3, .c 12 4, .c 12 5, .c 12 6, .c 12 7])))))) (.em (.call 58 [.g [.c 0 0, .c 0 1, .c 0 2, .c 0 3], .g [.c 1 4, .c 1 5, .c 1 6, .c 1 7]] [some 4]) (.em (.call 58 [.g [.c 0 4, .c 0 5, .c 0 6, .c 0 7], .g [.c 1 0, .c 1 1, .c 1 2, .c 1 3]] [some 4]) (.em (.call 76 [.g [.c 10 0, .c 10 1, .c 10 2, .c 10 3], .g [.c 11 0, .c 11 1, .c 11 2, .c 11 3]] [some 4]) (.em (.call 58 [.g [.c 0 0, .c 0 1, .c 0 2, .c 0 3], .g [.c 1 0, .c 1 1, .c 1 2, .c 1 3]] [some 4]) (.em (.call 58 [.g [.c 0 4, .c 0 5, .c 0 6, .c 0 7], .g [.c 1 4, .c 1 5, .c 1 6, .c 1 7]] [some 4]) (.em (.call 77 [.g [.c 13 0, .c 13 1, .c 13 2, .c 13 3], .g [.c 14 0, .c 14 1, .c 14 2, .c 14 3]] [some 4]) (.ret (.v (.g [.c 12 0, .c 12 1, .c 12 2, .c 12 3, .c 15 0, .c 15 1, .c 15 2, .c 15 3])))))))))))))))))))))) (by kernel_rfl) (by kernel_rfl) (by kernel_rfl) ((mSp _ _ _ _ _ _ _ _ _ _ _).and (mSp _ _ _ _ _ _ _ _ _ _ _)) ⟨h, h'⟩ ⟨spl h, spl h', trivial⟩ ?_
  refine wVal (fun w b ⟨h, _⟩ => qsign_any _ x k w ⟨_, _, _, _, rfl, h.1⟩ (by omega)) rfl ?_
  refine wPr (prGe rfl rfl) rfl ?_
  refine wIf _ rfl (fun e => ?_) (fun e => ?_)
  · refine wSp (fun w b ⟨h, h'⟩ => smulz_any _ _ x y x' y' k j w ⟨_, _, _, _, _, _, _, _, rfl, h⟩ ⟨_, _, _, _, _, _, _, _, rfl, h'⟩ hk hj (sgT_ge e) hl hl') (fun _ _ _ _ _ _ _ _ => ?_)
    exact wRet fun w b ⟨h, _⟩ => ⟨_, rfl, ⟨_, _, _, _, _, _, _, _, rfl, h⟩, b⟩
  have s1 := sgF_ge e
  refine wVal (fun w b ⟨_, h⟩ => qsign_any _ x' j w ⟨_, _, _, _, rfl, h.1⟩ (by omega)) rfl ?_
  refine wPr (prGe rfl rfl) rfl ?_
  refine wIf _ rfl (fun e => ?_) (fun e => ?_)
  · refine wSp (fun w b ⟨h, h'⟩ => smulz_any _ _ x' y' x y j k w ⟨_, _, _, _, _, _, _, _, rfl, h'⟩ ⟨_, _, _, _, _, _, _, _, rfl, h⟩ hj hk (sgT_ge e) hl' hl) (fun _ _ _ _ _ _ _ _ => ?_)
    exact wRet fun w b ⟨h, _⟩ => ⟨_, rfl, ⟨_, _, _, _, _, _, _, _, rfl, by rw [mLo_comm x y x' y', mHi_comm x y x' y', Nat.add_comm k j]; exact h⟩, b⟩
  have s2 := sgF_ge e
  refine wVal (fun w b ⟨h, _⟩ => qsign_any _ y k w ⟨_, _, _, _, rfl, h.2⟩ (by omega)) rfl ?_
  refine wPr (prLe rfl rfl) rfl ?_
  refine wIf _ rfl (fun e => ?_) (fun e => ?_)
  · have s3 := sgT_le e
    refine wSp (fun w b ⟨h, _⟩ => turn_any _ x y k w ⟨_, _, _, _, _, _, _, _, rfl, h⟩ (by omega)) (fun _ _ _ _ _ _ _ _ => ?_)
    refine wSp (fun w b ⟨h, _, h'⟩ => smulz_any _ _ (-y) (-x) x' y' k j w ⟨_, _, _, _, _, _, _, _, rfl, h⟩ ⟨_, _, _, _, _, _, _, _, rfl, h'⟩ hk hj (by grind) (by grind) hl') (fun _ _ _ _ _ _ _ _ => ?_)
    refine wSp (fun w b ⟨h, _⟩ => turn_any _ _ _ (k + j) w ⟨_, _, _, _, _, _, _, _, rfl, h⟩ (by omega)) (fun _ _ _ _ _ _ _ _ => ?_)
    exact wRet fun w b ⟨h, _⟩ => ⟨_, rfl, ⟨_, _, _, _, _, _, _, _, rfl, by rw [← mLo_turn x y x' y', ← mHi_turn x y x' y']; exact h⟩, b⟩
  have s3 := sgF_le e
  refine wVal (fun w b ⟨_, h⟩ => qsign_any _ y' j w ⟨_, _, _, _, rfl, h.2⟩ (by omega)) rfl ?_
  refine wPr (prLe rfl rfl) rfl ?_
  refine wIf _ rfl (fun e => ?_) (fun e => ?_)
  · have s4 := sgT_le e
    refine wSp (fun w b ⟨_, h⟩ => turn_any _ x' y' j w ⟨_, _, _, _, _, _, _, _, rfl, h⟩ (by omega)) (fun _ _ _ _ _ _ _ _ => ?_)
    refine wSp (fun w b ⟨h', h, _⟩ => smulz_any _ _ (-y') (-x') x y j k w ⟨_, _, _, _, _, _, _, _, rfl, h'⟩ ⟨_, _, _, _, _, _, _, _, rfl, h⟩ hj hk (by grind) (by grind) hl) (fun _ _ _ _ _ _ _ _ => ?_)
    refine wSp (fun w b ⟨h, _⟩ => turn_any _ _ _ (j + k) w ⟨_, _, _, _, _, _, _, _, rfl, h⟩ (by omega)) (fun _ _ _ _ _ _ _ _ => ?_)
    exact wRet fun w b ⟨h, _⟩ => ⟨_, rfl, ⟨_, _, _, _, _, _, _, _, rfl, by rw [mLo_comm x y x' y', mHi_comm x y x' y', ← mLo_turn x' y' x y, ← mHi_turn x' y' x y, Nat.add_comm k j]; exact h⟩, b⟩
  have s4 := sgF_le e
  obtain ⟨z1, z2⟩ := mul_both s1 s3 s2 s4
  rw [← z1, ← z2]
  refine wRat (fun w b ⟨h, h'⟩ => qmul_any _ _ x y' k j w ⟨_, _, _, _, rfl, h.1⟩ ⟨_, _, _, _, rfl, h'.2⟩ (by omega) (by omega)) (fun _ _ _ _ => ?_)
  refine wRat (fun w b ⟨_, h, h'⟩ => qmul_any _ _ y x' k j w ⟨_, _, _, _, rfl, h.2⟩ ⟨_, _, _, _, rfl, h'.1⟩ (by omega) (by omega)) (fun _ _ _ _ => ?_)
  refine wRat (fun w b ⟨h2, h1, _⟩ => lesser_any _ _ _ _ (k + j) w ⟨_, _, _, _, rfl, h1⟩ ⟨_, _, _, _, rfl, h2⟩ (by omega)) (fun _ _ _ _ => ?_)
  refine wRat (fun w b ⟨_, _, _, h, h'⟩ => qmul_any _ _ x x' k j w ⟨_, _, _, _, rfl, h.1⟩ ⟨_, _, _, _, rfl, h'.1⟩ (by omega) (by omega)) (fun _ _ _ _ => ?_)
  refine wRat (fun w b ⟨_, _, _, _, h, h'⟩ => qmul_any _ _ y y' k j w ⟨_, _, _, _, rfl, h.2⟩ ⟨_, _, _, _, rfl, h'.2⟩ (by omega) (by omega)) (fun _ _ _ _ => ?_)
  refine wRat (fun w b ⟨h2, h1, _⟩ => greater_any _ _ _ _ (k + j) w ⟨_, _, _, _, rfl, h1⟩ ⟨_, _, _, _, rfl, h2⟩ (by omega)) (fun _ _ _ _ => ?_)
  exact wRet fun w b ⟨h2, _, _, h1, _⟩ => ⟨_, rfl, ⟨_, _, _, _, _, _, _, _, rfl, h1, h2⟩, b⟩

theorem sscale_any (v u : Value) (x y z : Rat) (k j : Nat) (w : World) (h : SpB w v x y k) (h' : RatB w u z j) (hk : k ≤ 100000) (hj : j ≤ 100000) (hl : x ≤ y) :
    Calls Tryz.prog 30 #[v, u] w fun e w' => ∃ v', e = .returned v' ∧ SpB w' v' (mLo x y z z) (mHi x y z z) (k + j) ∧ Below w.heap.size w w' := by
  obtain ⟨z1, z2⟩ := mul_sc hl z
  rw [← z1, ← z2]
  obtain ⟨a, b, c, d, a', b', c', d', rfl, h⟩ := h
  obtain ⟨p, q, r, s, rfl, h'⟩ := h'
  refine go (fun w => SpQ w a b c d a' b' c' d' x y k ∧ QB w p q r s z j) [[a, b, c, d, a', b', c', d'], [p, q, r, s]] [some 8, some 4] (tr := (.em (.call 58 [.g [.c 0 0, .c 0 1, .c 0 2, .c 0 3], .g [.c 1 0, .c 1 1, .c 1 2, .c 1 3]] [some 4]) (.em (.call 58 [.g [.c 0 4, .c 0 5, .c 0 6, .c 0 7], .g [.c 1 0, .c 1 1, .c 1 2, .c 1 3]] [some 4]) (.em (.call 61 [.g [.c 1 0, .c 1 1, .c 1 2, .c 1 3]] [none]) (.em (.pr (.binOp .lss 3 (.tmp 0) (.const (.int .i64 0)) 3) 4 [.s (.c 4 0), .s (.k (.int .i64 0))]) (.cond (.c 5 0) (.ret (.v (.g [.c 3 0, .c 3 1, .c 3 2, .c 3 3, .c 2 0, .c 2 1, .c 2 2, .c 2 3]))) (.ret (.v (.g [.c 2 0, .c 2 1, .c 2 2, .c 2 3, .c 3 0, .c 3 1, .c 3 2, .c 3 3]))))))))) (by kernel_rfl) (by kernel_rfl) (by kernel_rfl) ((mSp _ _ _ _ _ _ _ _ _ _ _).and (mQ _ _ _ _ _ _)) ⟨h, h'⟩ ⟨spl h, qpl h', trivial⟩ ?_
  refine wRat (fun w b ⟨h, h'⟩ => qmul_any _ _ x z k j w ⟨_, _, _, _, rfl, h.1⟩ ⟨_, _, _, _, rfl, h'⟩ (by omega) (by omega)) (fun _ _ _ _ => ?_)
  refine wRat (fun w b ⟨_, h, h'⟩ => qmul_any _ _ y z k j w ⟨_, _, _, _, rfl, h.2⟩ ⟨_, _, _, _, rfl, h'⟩ (by omega) (by omega)) (fun _ _ _ _ => ?_)
  refine wVal (fun w b ⟨_, _, _, h⟩ => qsign_any _ z j w ⟨_, _, _, _, rfl, h⟩ (by omega)) rfl ?_
  refine wPr (prLt rfl rfl) rfl ?_
  refine wIf _ rfl (fun e => ?_) (fun e => ?_)
  · have s1 := sgT_lt e
    rw [if_pos s1, if_pos s1]
    exact wRet fun w b ⟨h2, h1, _⟩ => ⟨_, rfl, ⟨_, _, _, _, _, _, _, _, rfl, h2, h1⟩, b⟩
  · have s1 := sgF_lt e
    rw [if_neg (by grind), if_neg (by grind)]
    exact wRet fun w b ⟨h2, h1, _⟩ => ⟨_, rfl, ⟨_, _, _, _, _, _, _, _, rfl, h1, h2⟩, b⟩

theorem cut_cut (n : Int) : cut255 ((cut255 n : Nat) : Int) = cut255 n := by
  have := cut255_le n
  generalize cut255 n = m at *
  unfold cut255
  rw [if_neg (by omega), if_neg (by omega)]; omega
theorem odd_eq (m : Nat) : (((m : Int).tmod 2) == 1) = decide (m % 2 = 1) := by
  rw [Int.tmod_eq_emod_of_nonneg (by omega)]
  by_cases h : m % 2 = 1
  · rw [decide_eq_true h]; simp; omega
  · rw [decide_eq_false h]; simp; omega
set_option maxHeartbeats 2000000 in
theorem spow_any (v : Value) (x y : Rat) (n : Int) (k : Nat) (w : World) (h : SpB w v x y k) (hk : k ≤ 700) (hk1 : 1 ≤ k) (hl : x ≤ y) :
    Calls Tryz.prog 33 #[v, .int .i64 n] w fun e w' => ∃ v', e = .returned v' ∧ SpB w' v' (pLo x y (cut255 n)) (pHi x y (cut255 n)) (k * 255 + 1) ∧ Below w.heap.size w w' := by
  obtain ⟨a, b, c, d, a', b', c', d', rfl, h⟩ := h
  refine go (fun w => SpQ w a b c d a' b' c' d' x y k) [[a, b, c, d, a', b', c', d'], [.int .i64 n]] [some 8, none] (tr := (.em (.pr (.call (.mk (.builtin .max) #[.tmp 0, .const (.int .i64 0)] #[3, 3])) 3 [.s (.c 1 0), .s (.k (.int .i64 0))]) (.em (.pr (.call (.mk (.builtin .min) #[.tmp 0, .const (.int .i64 255)] #[3, 3])) 3 [.s (.c 2 0), .s (.k (.int .i64 255))]) (.em (.pr (.binOp .rem 3 (.tmp 0) (.const (.int .i64 2)) 3) 3 [.s (.c 3 0), .s (.k (.int .i64 2))]) (.em (.pr (.binOp .eql 3 (.tmp 0) (.const (.int .i64 1)) 3) 4 [.s (.c 4 0), .s (.k (.int .i64 1))]) (.cond (.c 5 0) (.em (.call 59 [.g [.c 0 0, .c 0 1, .c 0 2, .c 0 3], .s (.c 3 0)] [some 4]) (.em (.call 59 [.g [.c 0 4, .c 0 5, .c 0 6, .c 0 7], .s (.c 3 0)] [some 4]) (.ret (.v (.g [.c 6 0, .c 6 1, .c 6 2, .c 6 3, .c 7 0, .c 7 1, .c 7 2, .c 7 3]))))) (.em (.call 61 [.g [.c 0 0, .c 0 1, .c 0 2, .c 0 3]] [none]) (.em (.pr (.binOp .geq 3 (.tmp 0) (.const (.int .i64 0)) 3) 4 [.s (.c 6 0), .s (.k (.int .i64 0))]) (.cond (.c 7 0) (.em (.call 59 [.g [.c 0 0, .c 0 1, .c 0 2, .c 0 3], .s (.c 3 0)] [some 4]) (.em (.call 59 [.g [.c 0 4, .c 0 5, .c 0 6, .c 0 7], .s (.c 3 0)] [some 4]) (.ret (.v (.g [.c 8 0, .c 8 1, .c 8 2, .c 8 3, .c 9 0, .c 9 1, .c 9 2, .c 9 3]))))) (.em (.pr (.binOp .eql 3 (.tmp 0) (.const (.int .i64 0)) 3) 4 [.s (.c 3 0), .s (.k (.int .i64 0))]) (.cond (.c 8 0) (.em (.call 59 [.g [.c 0 4, .c 0 5, .c 0 6, .c 0 7], .s (.c 3 0)] [some 4]) (.em (.call 59 [.g [.c 0 0, .c 0 1, .c 0 2, .c 0 3], .s (.c 3 0)] [some 4]) (.ret (.v (.g [.c 9 0, .c 9 1, .c 9 2, .c 9 3, .c 10 0, .c 10 1, .c 10 2, .c 10 3]))))) (.em (.call 61 [.g [.c 0 4, .c 0 5, .c 0 6, .c 0 7]] [none]) (.em (.pr (.binOp .leq 3 (.tmp 0) (.const (.int .i64 0)) 3) 4 [.s (.c 9 0), .s (.k (.int .i64 0))]) (.cond (.c 10 0) (.em (.call 59 [.g [.c 0 4, .c 0 5, .c 0 6, .c 0 7], .s (.c 3 0)] [some 4]) (.em (.call 59 [.g [.c 0 0, .c 0 1, .c 0 2, .c 0 3], .s (.c 3 0)] [some 4]) (.ret (.v (.g [.c 11 0, .c 11 1, .c 11 2, .c 11 3, .c 12 0, .c 12 1, .c 12 2, .c 12 3]))))) (.em (.call 79 [.g [.c 0 0, .c 0 1, .c 0 2, .c 0 3]] [some 4]) (.em (.call 77 [.g [.c 11 0, .c 11 1, .c 11 2, .c 11 3], .g [.c 0 4, .c 0 5, .c 0 6, .c 0 7]] [some 4]) (.em (.call 59 [.g [.c 12 0, .c 12 1, .c 12 2, .c 12 3], .s (.c 3 0)] [some 4]) (.ret (.v (.g [.k (.bool false), .k (.slice none 0 0), .k (.bool false), .k (.slice none 0 0), .c 13 0, .c 13 1, .c 13 2, .c 13 3])))))))))))))))))))) (by kernel_rfl) (by kernel_rfl) (by kernel_rfl) (mSp _ _ _ _ _ _ _ _ _ _ _) h ⟨spl h, rfl, trivial⟩ ?_
  refine wPr (prMax rfl rfl) rfl ?_
  refine wPr (prMinE rfl rfl (min_max_255 n)) rfl ?_
  refine wPr (prRemI rfl rfl (by decide)) rfl ?_
  refine wPr (prEq rfl rfl) rfl ?_
  refine wIf _ rfl (fun e => ?_) (fun e => ?_)
  · have h1 : cut255 n % 2 = 1 := by rw [odd_eq] at e; simpa using e
    obtain ⟨z1, z2⟩ := pow_1 hl (.inl h1)
    rw [← z1, ← z2]
    refine wRat (fun w b h => by have := qpow_any _ x ((cut255 n : Nat) : Int) k w ⟨_, _, _, _, rfl, h.1⟩ (by omega) hk1 (by omega) (by have := cut255_le n; omega); rwa [cut_cut] at this) (fun _ _ _ _ => ?_)
    refine wRat (fun w b ⟨_, h⟩ => by have := qpow_any _ y ((cut255 n : Nat) : Int) k w ⟨_, _, _, _, rfl, h.2⟩ (by omega) hk1 (by omega) (by have := cut255_le n; omega); rwa [cut_cut] at this) (fun _ _ _ _ => ?_)
    exact wRet fun w b ⟨h2, h1, _⟩ => ⟨_, rfl, ⟨_, _, _, _, _, _, _, _, rfl, h1, h2⟩, b⟩
  have h1 : cut255 n % 2 = 0 := by
    rw [odd_eq] at e
    have : ¬ cut255 n % 2 = 1 := (by simpa using e); omega
  refine wVal (fun w b h => qsign_any _ x k w ⟨_, _, _, _, rfl, h.1⟩ (by omega)) rfl ?_
  refine wPr (prGe rfl rfl) rfl ?_
  refine wIf _ rfl (fun e => ?_) (fun e => ?_)
  · have s1 := sgT_ge e
    obtain ⟨z1, z2⟩ := pow_1 (n := cut255 n) hl (.inr s1)
    rw [← z1, ← z2]
    refine wRat (fun w b h => by have := qpow_any _ x ((cut255 n : Nat) : Int) k w ⟨_, _, _, _, rfl, h.1⟩ (by omega) hk1 (by omega) (by have := cut255_le n; omega); rwa [cut_cut] at this) (fun _ _ _ _ => ?_)
    refine wRat (fun w b ⟨_, h⟩ => by have := qpow_any _ y ((cut255 n : Nat) : Int) k w ⟨_, _, _, _, rfl, h.2⟩ (by omega) hk1 (by omega) (by have := cut255_le n; omega); rwa [cut_cut] at this) (fun _ _ _ _ => ?_)
    exact wRet fun w b ⟨h2, h1, _⟩ => ⟨_, rfl, ⟨_, _, _, _, _, _, _, _, rfl, h1, h2⟩, b⟩
  have s1 := sgF_ge e
  refine wPr (prEq rfl rfl) rfl ?_
  refine wIf _ rfl (fun e => ?_) (fun e => ?_)
  · have h0 : cut255 n = 0 := by have : ((cut255 n : Nat) : Int) = 0 := (by simpa using e); omega
    obtain ⟨z1, z2⟩ := pow_2 hl h1 (.inl h0)
    rw [← z1, ← z2]
    refine wRat (fun w b h => by have := qpow_any _ y ((cut255 n : Nat) : Int) k w ⟨_, _, _, _, rfl, h.2⟩ (by omega) hk1 (by omega) (by have := cut255_le n; omega); rwa [cut_cut] at this) (fun _ _ _ _ => ?_)
    refine wRat (fun w b ⟨_, h⟩ => by have := qpow_any _ x ((cut255 n : Nat) : Int) k w ⟨_, _, _, _, rfl, h.1⟩ (by omega) hk1 (by omega) (by have := cut255_le n; omega); rwa [cut_cut] at this) (fun _ _ _ _ => ?_)
    exact wRet fun w b ⟨h2, h1, _⟩ => ⟨_, rfl, ⟨_, _, _, _, _, _, _, _, rfl, h1, h2⟩, b⟩
  have h0 : cut255 n ≠ 0 := by have : ¬ ((cut255 n : Nat) : Int) = 0 := (by simpa using e); omega
  refine wVal (fun w b h => qsign_any _ y k w ⟨_, _, _, _, rfl, h.2⟩ (by omega)) rfl ?_
  refine wPr (prLe rfl rfl) rfl ?_
  refine wIf _ rfl (fun e => ?_) (fun e => ?_)
  · have s2 := sgT_le e
    obtain ⟨z1, z2⟩ := pow_2 hl h1 (.inr s2)
    rw [← z1, ← z2]
    refine wRat (fun w b h => by have := qpow_any _ y ((cut255 n : Nat) : Int) k w ⟨_, _, _, _, rfl, h.2⟩ (by omega) hk1 (by omega) (by have := cut255_le n; omega); rwa [cut_cut] at this) (fun _ _ _ _ => ?_)
    refine wRat (fun w b ⟨_, h⟩ => by have := qpow_any _ x ((cut255 n : Nat) : Int) k w ⟨_, _, _, _, rfl, h.1⟩ (by omega) hk1 (by omega) (by have := cut255_le n; omega); rwa [cut_cut] at this) (fun _ _ _ _ => ?_)
    exact wRet fun w b ⟨h2, h1, _⟩ => ⟨_, rfl, ⟨_, _, _, _, _, _, _, _, rfl, h1, h2⟩, b⟩
  have s2 := sgF_le e
  obtain ⟨z1, z2⟩ := pow_3 h1 h0 s1 s2
  rw [← z1, ← z2]
  refine wRat (fun w b h => qneg_any _ x k w ⟨_, _, _, _, rfl, h.1⟩ (by omega)) (fun _ _ _ _ => ?_)
  refine wRat (fun w b ⟨h, h'⟩ => greater_any _ _ (-x) y k w ⟨_, _, _, _, rfl, h⟩ ⟨_, _, _, _, rfl, h'.2⟩ (by omega)) (fun _ _ _ _ => ?_)
  refine wRat (fun w b ⟨h, _⟩ => by have := qpow_any _ (mx (-x) y) ((cut255 n : Nat) : Int) k w ⟨_, _, _, _, rfl, h⟩ (by omega) hk1 (by omega) (by have := cut255_le n; omega); rwa [cut_cut] at this) (fun _ _ _ _ => ?_)
  exact wRet fun w b ⟨h, _⟩ => ⟨_, rfl, ⟨_, _, _, _, _, _, _, _, rfl, ⟨IntB.zero _ _ _, IntB.zero _ _ _, one_lt _ (by omega)⟩, h⟩, b⟩

end Go.Proofs.YtfohgkabmdhhaaaGreatDoor
/- Contracts of package span: questions, texts; what the laws of intervals have in common. -/
namespace Go.Proofs.YtfohgkabmdhhaaaGreatDoor
open Go.RowKit Cin

theorem within5_any (v u : Value) (x y x' y' : Rat) (k j : Nat) (w : World) (h : SpB w v x y k) (h' : SpB w u x' y' j) (hk : k ≤ 1000000) (hj : j ≤ 1000000) :
    Calls Tryz.prog 40 #[v, u] w fun e w' => e = .returned (.bool (decide (x' ≤ x) && decide (y ≤ y'))) ∧ Below w.heap.size w w' := by
  obtain ⟨a, b, c, d, a', b', c', d', rfl, h⟩ := h
  obtain ⟨p, q, r, s, p', q', r', s', rfl, h'⟩ := h'
  refine go (fun w => SpQ w a b c d a' b' c' d' x y k ∧ SpQ w p q r s p' q' r' s' x' y' j) [[a, b, c, d, a', b', c', d'], [p, q, r, s, p', q', r', s']] [some 8, some 8] (tr := (.em (.call 60 [.g [.c 1 0, .c 1 1, .c 1 2, .c 1 3], .g [.c 0 0, .c 0 1, .c 0 2, .c 0 3]] [none]) (.em (.pr (.binOp .leq 3 (.tmp 0) (.const (.int .i64 0)) 3) 4 [.s (.c 2 0), .s (.k (.int .i64 0))]) (.cond (.c 3 0) (.em (.call 60 [.g [.c 0 4, .c 0 5, .c 0 6, .c 0 7], .g [.c 1 4, .c 1 5, .c 1 6, .c 1 7]] [none]) (.em (.pr (.binOp .leq 3 (.tmp 0) (.const (.int .i64 0)) 3) 4 [.s (.c 4 0), .s (.k (.int .i64 0))]) (.ret (.v (.s (.c 5 0)))))) (.ret (.v (.s (.k (.bool false))))))))) (by kernel_rfl) (by kernel_rfl) (by kernel_rfl) ((mSp _ _ _ _ _ _ _ _ _ _ _).and (mSp _ _ _ _ _ _ _ _ _ _ _)) ⟨h, h'⟩ ⟨spl h, spl h', trivial⟩ ?_
  refine wVal (fun w b ⟨h, h'⟩ => qcmp_any _ _ x' x j k w ⟨_, _, _, _, rfl, h'.1⟩ ⟨_, _, _, _, rfl, h.1⟩ hj hk) rfl ?_
  refine wPr (prLe rfl rfl) rfl ?_
  refine wIf _ rfl (fun e => ?_) (fun e => ?_)
  · refine wVal (fun w b ⟨h, h'⟩ => qcmp_any _ _ y y' k j w ⟨_, _, _, _, rfl, h.2⟩ ⟨_, _, _, _, rfl, h'.2⟩ hk hj) rfl ?_
    refine wPr (prLe rfl rfl) rfl ?_
    refine wRet fun w b _ => ⟨?_, b⟩
    rw [← v_le, ← v_le, e, Bool.true_and]; rfl
  · refine wRet fun w b _ => ⟨?_, b⟩
    rw [← v_le, ← v_le, e, Bool.false_and]; rfl

theorem inside5_any (v u : Value) (x y x' y' : Rat) (k j : Nat) (w : World) (h : SpB w v x y k) (h' : SpB w u x' y' j) (hk : k ≤ 1000000) (hj : j ≤ 1000000) :
    Calls Tryz.prog 42 #[v, u] w fun e w' => e = .returned (.bool (decide (x' < x) && decide (y < y'))) ∧ Below w.heap.size w w' := by
  obtain ⟨a, b, c, d, a', b', c', d', rfl, h⟩ := h
  obtain ⟨p, q, r, s, p', q', r', s', rfl, h'⟩ := h'
  refine go (fun w => SpQ w a b c d a' b' c' d' x y k ∧ SpQ w p q r s p' q' r' s' x' y' j) [[a, b, c, d, a', b', c', d'], [p, q, r, s, p', q', r', s']] [some 8, some 8] (tr := (.em (.call 60 [.g [.c 1 0, .c 1 1, .c 1 2, .c 1 3], .g [.c 0 0, .c 0 1, .c 0 2, .c 0 3]] [none]) (.em (.pr (.binOp .lss 3 (.tmp 0) (.const (.int .i64 0)) 3) 4 [.s (.c 2 0), .s (.k (.int .i64 0))]) (.cond (.c 3 0) (.em (.call 60 [.g [.c 0 4, .c 0 5, .c 0 6, .c 0 7], .g [.c 1 4, .c 1 5, .c 1 6, .c 1 7]] [none]) (.em (.pr (.binOp .lss 3 (.tmp 0) (.const (.int .i64 0)) 3) 4 [.s (.c 4 0), .s (.k (.int .i64 0))]) (.ret (.v (.s (.c 5 0)))))) (.ret (.v (.s (.k (.bool false))))))))) (by kernel_rfl) (by kernel_rfl) (by kernel_rfl) ((mSp _ _ _ _ _ _ _ _ _ _ _).and (mSp _ _ _ _ _ _ _ _ _ _ _)) ⟨h, h'⟩ ⟨spl h, spl h', trivial⟩ ?_
  refine wVal (fun w b ⟨h, h'⟩ => qcmp_any _ _ x' x j k w ⟨_, _, _, _, rfl, h'.1⟩ ⟨_, _, _, _, rfl, h.1⟩ hj hk) rfl ?_
  refine wPr (prLt rfl rfl) rfl ?_
  refine wIf _ rfl (fun e => ?_) (fun e => ?_)
  · refine wVal (fun w b ⟨h, h'⟩ => qcmp_any _ _ y y' k j w ⟨_, _, _, _, rfl, h.2⟩ ⟨_, _, _, _, rfl, h'.2⟩ hk hj) rfl ?_
    refine wPr (prLt rfl rfl) rfl ?_
    refine wRet fun w b _ => ⟨?_, b⟩
    rw [← v_lt, ← v_lt, e, Bool.true_and]; rfl
  · refine wRet fun w b _ => ⟨?_, b⟩
    rw [← v_lt, ← v_lt, e, Bool.false_and]; rfl

theorem same5_any (v u : Value) (x y x' y' : Rat) (k j : Nat) (w : World) (h : SpB w v x y k) (h' : SpB w u x' y' j) (hk : k ≤ 1000000) (hj : j ≤ 1000000) :
    Calls Tryz.prog 19 #[v, u] w fun e w' => e = .returned (.bool (decide (x = x') && decide (y = y'))) ∧ Below w.heap.size w w' := by
  obtain ⟨a, b, c, d, a', b', c', d', rfl, h⟩ := h
  obtain ⟨p, q, r, s, p', q', r', s', rfl, h'⟩ := h'
  refine go (fun w => SpQ w a b c d a' b' c' d' x y k ∧ SpQ w p q r s p' q' r' s' x' y' j) [[a, b, c, d, a', b', c', d'], [p, q, r, s, p', q', r', s']] [some 8, some 8] (tr := (.em (.call 60 [.g [.c 0 0, .c 0 1, .c 0 2, .c 0 3], .g [.c 1 0, .c 1 1, .c 1 2, .c 1 3]] [none]) (.em (.pr (.binOp .eql 3 (.tmp 0) (.const (.int .i64 0)) 3) 4 [.s (.c 2 0), .s (.k (.int .i64 0))]) (.cond (.c 3 0) (.em (.call 60 [.g [.c 0 4, .c 0 5, .c 0 6, .c 0 7], .g [.c 1 4, .c 1 5, .c 1 6, .c 1 7]] [none]) (.em (.pr (.binOp .eql 3 (.tmp 0) (.const (.int .i64 0)) 3) 4 [.s (.c 4 0), .s (.k (.int .i64 0))]) (.ret (.v (.s (.c 5 0)))))) (.ret (.v (.s (.k (.bool false))))))))) (by kernel_rfl) (by kernel_rfl) (by kernel_rfl) ((mSp _ _ _ _ _ _ _ _ _ _ _).and (mSp _ _ _ _ _ _ _ _ _ _ _)) ⟨h, h'⟩ ⟨spl h, spl h', trivial⟩ ?_
  refine wVal (fun w b ⟨h, h'⟩ => qcmp_any _ _ x x' k j w ⟨_, _, _, _, rfl, h.1⟩ ⟨_, _, _, _, rfl, h'.1⟩ hk hj) rfl ?_
  refine wPr (prEq rfl rfl) rfl ?_
  refine wIf _ rfl (fun e => ?_) (fun e => ?_)
  · refine wVal (fun w b ⟨h, h'⟩ => qcmp_any _ _ y y' k j w ⟨_, _, _, _, rfl, h.2⟩ ⟨_, _, _, _, rfl, h'.2⟩ hk hj) rfl ?_
    refine wPr (prEq rfl rfl) rfl ?_
    refine wRet fun w b _ => ⟨?_, b⟩
    rw [← v_eq, ← v_eq, e, Bool.true_and]; rfl
  · refine wRet fun w b _ => ⟨?_, b⟩
    rw [← v_eq, ← v_eq, e, Bool.false_and]; rfl

theorem has5_any (v u : Value) (x y z : Rat) (k j : Nat) (w : World) (h : SpB w v x y k) (h' : RatB w u z j) (hk : k ≤ 1000000) (hj : j ≤ 1000000) :
    Calls Tryz.prog 38 #[v, u] w fun e w' => e = .returned (.bool (decide (x ≤ z) && decide (z ≤ y))) ∧ Below w.heap.size w w' := by
  obtain ⟨a, b, c, d, a', b', c', d', rfl, h⟩ := h
  obtain ⟨p, q, r, s, rfl, h'⟩ := h'
  refine go (fun w => SpQ w a b c d a' b' c' d' x y k ∧ QB w p q r s z j) [[a, b, c, d, a', b', c', d'], [p, q, r, s]] [some 8, some 4] (tr := (.em (.call 60 [.g [.c 0 0, .c 0 1, .c 0 2, .c 0 3], .g [.c 1 0, .c 1 1, .c 1 2, .c 1 3]] [none]) (.em (.pr (.binOp .leq 3 (.tmp 0) (.const (.int .i64 0)) 3) 4 [.s (.c 2 0), .s (.k (.int .i64 0))]) (.cond (.c 3 0) (.em (.call 60 [.g [.c 1 0, .c 1 1, .c 1 2, .c 1 3], .g [.c 0 4, .c 0 5, .c 0 6, .c 0 7]] [none]) (.em (.pr (.binOp .leq 3 (.tmp 0) (.const (.int .i64 0)) 3) 4 [.s (.c 4 0), .s (.k (.int .i64 0))]) (.ret (.v (.s (.c 5 0)))))) (.ret (.v (.s (.k (.bool false))))))))) (by kernel_rfl) (by kernel_rfl) (by kernel_rfl) ((mSp _ _ _ _ _ _ _ _ _ _ _).and (mQ _ _ _ _ _ _)) ⟨h, h'⟩ ⟨spl h, qpl h', trivial⟩ ?_
  refine wVal (fun w b ⟨h, h'⟩ => qcmp_any _ _ x z k j w ⟨_, _, _, _, rfl, h.1⟩ ⟨_, _, _, _, rfl, h'⟩ hk hj) rfl ?_
  refine wPr (prLe rfl rfl) rfl ?_
  refine wIf _ rfl (fun e => ?_) (fun e => ?_)
  · refine wVal (fun w b ⟨h, h'⟩ => qcmp_any _ _ z y j k w ⟨_, _, _, _, rfl, h'⟩ ⟨_, _, _, _, rfl, h.2⟩ hj hk) rfl ?_
    refine wPr (prLe rfl rfl) rfl ?_
    refine wRet fun w b _ => ⟨?_, b⟩
    rw [← v_le, ← v_le, e, Bool.true_and]; rfl
  · refine wRet fun w b _ => ⟨?_, b⟩
    rw [← v_le, ← v_le, e, Bool.false_and]; rfl

theorem hasY {v u : Value} {x y z : Rat} {k j : Nat} {w : World} (h : SpB w v x y k) (h' : RatB w u z j) (hk : k ≤ 1000000) (hj : j ≤ 1000000) (h1 : x ≤ z) (h2 : z ≤ y) :
    Calls Tryz.prog 38 #[v, u] w fun e w' => e = .returned (.bool true) ∧ Below w.heap.size w w' := by
  have := has5_any v u x y z k j w h h' hk hj
  rwa [decide_eq_true h1, decide_eq_true h2] at this

theorem withinY {v u : Value} {x y x' y' : Rat} {k j : Nat} {w : World} (h : SpB w v x y k) (h' : SpB w u x' y' j) (hk : k ≤ 1000000) (hj : j ≤ 1000000) (h1 : x' ≤ x) (h2 : y ≤ y') :
    Calls Tryz.prog 40 #[v, u] w fun e w' => e = .returned (.bool true) ∧ Below w.heap.size w w' := by
  have := within5_any v u x y x' y' k j w h h' hk hj
  rwa [decide_eq_true h1, decide_eq_true h2] at this

theorem hull_any (v u : Value) (x y x' y' : Rat) (k j : Nat) (w : World) (h : SpB w v x y k) (h' : SpB w u x' y' j) (hk : k ≤ 1000000) (hj : j = k) :
    Calls Tryz.prog 44 #[v, u] w fun e w' => ∃ v', e = .returned v' ∧ SpB w' v' (mn x x') (mx y y') k ∧ Below w.heap.size w w' := by
  subst hj
  obtain ⟨a, b, c, d, a', b', c', d', rfl, h⟩ := h
  obtain ⟨p, q, r, s, p', q', r', s', rfl, h'⟩ := h'
  refine go (fun w => SpQ w a b c d a' b' c' d' x y j ∧ SpQ w p q r s p' q' r' s' x' y' j) [[a, b, c, d, a', b', c', d'], [p, q, r, s, p', q', r', s']] [some 8, some 8] (tr := (.em (.call 76 [.g [.c 0 0, .c 0 1, .c 0 2, .c 0 3], .g [.c 1 0, .c 1 1, .c 1 2, .c 1 3]] [some 4]) (.em (.call 66 [.g [.c 2 0, .c 2 1, .c 2 2, .c 2 3]] [some 4]) (.em (.call 77 [.g [.c 0 4, .c 0 5, .c 0 6, .c 0 7], .g [.c 1 4, .c 1 5, .c 1 6, .c 1 7]] [some 4]) (.em (.call 66 [.g [.c 4 0, .c 4 1, .c 4 2, .c 4 3]] [some 4]) (.ret (.v (.g [.c 3 0, .c 3 1, .c 3 2, .c 3 3, .c 5 0, .c 5 1, .c 5 2, .c 5 3])))))))) (by kernel_rfl) (by kernel_rfl) (by kernel_rfl) ((mSp _ _ _ _ _ _ _ _ _ _ _).and (mSp _ _ _ _ _ _ _ _ _ _ _)) ⟨h, h'⟩ ⟨spl h, spl h', trivial⟩ ?_
  refine wRat (fun w b ⟨h, h'⟩ => lesser_any _ _ x x' j w ⟨_, _, _, _, rfl, h.1⟩ ⟨_, _, _, _, rfl, h'.1⟩ hk) (fun _ _ _ _ => ?_)
  refine wRat (fun w b ⟨h, _⟩ => sfresh_any _ _ j w ⟨_, _, _, _, rfl, h⟩ hk) (fun _ _ _ _ => ?_)
  refine wRat (fun w b ⟨_, _, h, h'⟩ => greater_any _ _ y y' j w ⟨_, _, _, _, rfl, h.2⟩ ⟨_, _, _, _, rfl, h'.2⟩ hk) (fun _ _ _ _ => ?_)
  refine wRat (fun w b ⟨h, _⟩ => sfresh_any _ _ j w ⟨_, _, _, _, rfl, h⟩ hk) (fun _ _ _ _ => ?_)
  exact wRet fun w b ⟨h2, _, h1, _⟩ => ⟨_, rfl, ⟨_, _, _, _, _, _, _, _, rfl, h1, h2⟩, b⟩

theorem meetY (v u : Value) (x y x' y' : Rat) (k j : Nat) (w : World) (h : SpB w v x y k) (h' : SpB w u x' y' j) (hk : k ≤ 1000000) (hj : j = k) (hl : mx x x' ≤ mn y y') :
    Calls Tryz.prog 35 #[v, u] w fun e w' => ∃ v', e = .returned (.tuple #[v', .bool true]) ∧ SpB w' v' (mx x x') (mn y y') k ∧ Below w.heap.size w w' := by
  subst hj
  obtain ⟨a, b, c, d, a', b', c', d', rfl, h⟩ := h
  obtain ⟨p, q, r, s, p', q', r', s', rfl, h'⟩ := h'
  refine go (fun w => SpQ w a b c d a' b' c' d' x y j ∧ SpQ w p q r s p' q' r' s' x' y' j) [[a, b, c, d, a', b', c', d'], [p, q, r, s, p', q', r', s']] [some 8, some 8] (tr := (.em (.call 77 [.g [.c 0 0, .c 0 1, .c 0 2, .c 0 3], .g [.c 1 0, .c 1 1, .c 1 2, .c 1 3]] [some 4]) (.em (.call 76 [.g [.c 0 4, .c 0 5, .c 0 6, .c 0 7], .g [.c 1 4, .c 1 5, .c 1 6, .c 1 7]] [some 4]) (.em (.call 16 [.g [.c 2 0, .c 2 1, .c 2 2, .c 2 3], .g [.c 3 0, .c 3 1, .c 3 2, .c 3 3]] [some 8, none]) (.ret (.t [.g [.c 4 0, .c 4 1, .c 4 2, .c 4 3, .c 4 4, .c 4 5, .c 4 6, .c 4 7], .s (.c 4 8)])))))) (by kernel_rfl) (by kernel_rfl) (by kernel_rfl) ((mSp _ _ _ _ _ _ _ _ _ _ _).and (mSp _ _ _ _ _ _ _ _ _ _ _)) ⟨h, h'⟩ ⟨spl h, spl h', trivial⟩ ?_
  refine wRat (fun w b ⟨h, h'⟩ => greater_any _ _ x x' j w ⟨_, _, _, _, rfl, h.1⟩ ⟨_, _, _, _, rfl, h'.1⟩ hk) (fun _ _ _ _ => ?_)
  refine wRat (fun w b ⟨_, h, h'⟩ => lesser_any _ _ y y' j w ⟨_, _, _, _, rfl, h.2⟩ ⟨_, _, _, _, rfl, h'.2⟩ hk) (fun _ _ _ _ => ?_)
  refine wSpV (fun w b ⟨h2, h1, _⟩ => snewY _ _ _ _ j w ⟨_, _, _, _, rfl, h1⟩ ⟨_, _, _, _, rfl, h2⟩ hk hl) rfl (fun _ _ _ _ _ _ _ _ => ?_)
  exact wRet fun w b ⟨h, _⟩ => ⟨_, rfl, ⟨_, _, _, _, _, _, _, _, rfl, h⟩, b⟩

theorem meetN (v u : Value) (x y x' y' : Rat) (k j : Nat) (w : World) (h : SpB w v x y k) (h' : SpB w u x' y' j) (hk : k ≤ 1000000) (hj : j = k) (hl : mn y y' < mx x x') :
    Calls Tryz.prog 35 #[v, u] w fun e w' => e = .returned (.tuple #[.agg ZeroS.toArray, .bool false]) ∧ Below w.heap.size w w' := by
  subst hj
  obtain ⟨a, b, c, d, a', b', c', d', rfl, h⟩ := h
  obtain ⟨p, q, r, s, p', q', r', s', rfl, h'⟩ := h'
  refine go (fun w => SpQ w a b c d a' b' c' d' x y j ∧ SpQ w p q r s p' q' r' s' x' y' j) [[a, b, c, d, a', b', c', d'], [p, q, r, s, p', q', r', s']] [some 8, some 8] (tr := (.em (.call 77 [.g [.c 0 0, .c 0 1, .c 0 2, .c 0 3], .g [.c 1 0, .c 1 1, .c 1 2, .c 1 3]] [some 4]) (.em (.call 76 [.g [.c 0 4, .c 0 5, .c 0 6, .c 0 7], .g [.c 1 4, .c 1 5, .c 1 6, .c 1 7]] [some 4]) (.em (.call 16 [.g [.c 2 0, .c 2 1, .c 2 2, .c 2 3], .g [.c 3 0, .c 3 1, .c 3 2, .c 3 3]] [some 8, none]) (.ret (.t [.g [.c 4 0, .c 4 1, .c 4 2, .c 4 3, .c 4 4, .c 4 5, .c 4 6, .c 4 7], .s (.c 4 8)])))))) (by kernel_rfl) (by kernel_rfl) (by kernel_rfl) ((mSp _ _ _ _ _ _ _ _ _ _ _).and (mSp _ _ _ _ _ _ _ _ _ _ _)) ⟨h, h'⟩ ⟨spl h, spl h', trivial⟩ ?_
  refine wRat (fun w b ⟨h, h'⟩ => greater_any _ _ x x' j w ⟨_, _, _, _, rfl, h.1⟩ ⟨_, _, _, _, rfl, h'.1⟩ hk) (fun _ _ _ _ => ?_)
  refine wRat (fun w b ⟨_, h, h'⟩ => lesser_any _ _ y y' j w ⟨_, _, _, _, rfl, h.2⟩ ⟨_, _, _, _, rfl, h'.2⟩ hk) (fun _ _ _ _ => ?_)
  refine wKnown (ZeroS ++ [.bool false]) (fun w b ⟨h2, h1, _⟩ => snewN _ _ _ _ j w ⟨_, _, _, _, rfl, h1⟩ ⟨_, _, _, _, rfl, h2⟩ hk hl) rfl rfl ?_ (hE := rfl)
  exact wRet fun w b _ => ⟨rfl, b⟩

theorem mid5_any (v : Value) (x y : Rat) (k : Nat) (w : World) (h : SpB w v x y k) (hk : k ≤ 90000) :
    Calls Tryz.prog 46 #[v] w fun e w' => ∃ v', e = .returned v' ∧ RatB w' v' ((x + y) / 2) (k + k + 1 + 2) ∧ Below w.heap.size w w' := by
  obtain ⟨a, b, c, d, a', b', c', d', rfl, h⟩ := h
  refine go (fun w => SpQ w a b c d a' b' c' d' x y k) [[a, b, c, d, a', b', c', d']] [some 8] (tr := (.em (.call 56 [.g [.c 0 0, .c 0 1, .c 0 2, .c 0 3], .g [.c 0 4, .c 0 5, .c 0 6, .c 0 7]] [some 4]) (.em (.call 62 [.s (.k (.int .i64 2))] [some 4]) (.em (.call 83 [.g [.c 1 0, .c 1 1, .c 1 2, .c 1 3], .g [.c 2 0, .c 2 1, .c 2 2, .c 2 3]] [some 4, none]) (.ret (.v (.g [.c 3 0, .c 3 1, .c 3 2, .c 3 3]))))))) (by kernel_rfl) (by kernel_rfl) (by kernel_rfl) (mSp _ _ _ _ _ _ _ _ _ _ _) h ⟨spl h, trivial⟩ ?_
  refine wRat (fun w b h => qadd_any _ _ x y k k w ⟨_, _, _, _, rfl, h.1⟩ ⟨_, _, _, _, rfl, h.2⟩ (by omega) (by omega)) (fun _ _ _ _ => ?_)
  refine wRat (fun w b _ => qof_any 2 w (by decide) (by decide)) (fun _ _ _ _ => ?_)
  refine wRatV (fun w b ⟨h2, h1, _⟩ => qdiv_any _ _ _ _ _ 2 w ⟨_, _, _, _, rfl, h1⟩ ⟨_, _, _, _, rfl, h2⟩ (by omega) (by decide) (by decide)) rfl (fun _ _ _ _ => ?_)
  exact wRet fun w b ⟨h, _⟩ => ⟨_, rfl, ⟨_, _, _, _, rfl, h⟩, b⟩

theorem width_any (v : Value) (x y : Rat) (k : Nat) (w : World) (h : SpB w v x y k) (hk : k ≤ 90000) :
    Calls Tryz.prog 48 #[v] w fun e w' => ∃ v', e = .returned v' ∧ RatB w' v' (y - x) (k + k + 1) ∧ Below w.heap.size w w' := by
  obtain ⟨a, b, c, d, a', b', c', d', rfl, h⟩ := h
  refine go (fun w => SpQ w a b c d a' b' c' d' x y k) [[a, b, c, d, a', b', c', d']] [some 8] (tr := (.em (.call 57 [.g [.c 0 4, .c 0 5, .c 0 6, .c 0 7], .g [.c 0 0, .c 0 1, .c 0 2, .c 0 3]] [some 4]) (.ret (.v (.g [.c 1 0, .c 1 1, .c 1 2, .c 1 3]))))) (by kernel_rfl) (by kernel_rfl) (by kernel_rfl) (mSp _ _ _ _ _ _ _ _ _ _ _) h ⟨spl h, trivial⟩ ?_
  refine wRat (fun w b h => qsub_any _ _ y x k k w ⟨_, _, _, _, rfl, h.2⟩ ⟨_, _, _, _, rfl, h.1⟩ (by omega) (by omega)) (fun _ _ _ _ => ?_)
  exact wRet fun w b ⟨h, _⟩ => ⟨_, rfl, ⟨_, _, _, _, rfl, h⟩, b⟩

def sgS (x y : Rat) : Int := if 0 < x then 1 else if y < 0 then -1 else 0
theorem ssign_any (v : Value) (x y : Rat) (k : Nat) (w : World) (h : SpB w v x y k) (hk : k ≤ 90000) :
    Calls Tryz.prog 50 #[v] w fun e w' => e = .returned (.int .i64 (sgS x y)) ∧ Below w.heap.size w w' := by
  obtain ⟨a, b, c, d, a', b', c', d', rfl, h⟩ := h
  refine go (fun w => SpQ w a b c d a' b' c' d' x y k) [[a, b, c, d, a', b', c', d']] [some 8] (tr := (.em (.call 61 [.g [.c 0 0, .c 0 1, .c 0 2, .c 0 3]] [none]) (.em (.pr (.binOp .gtr 3 (.tmp 0) (.const (.int .i64 0)) 3) 4 [.s (.c 1 0), .s (.k (.int .i64 0))]) (.cond (.c 2 0) (.ret (.v (.s (.k (.int .i64 1))))) (.em (.call 61 [.g [.c 0 4, .c 0 5, .c 0 6, .c 0 7]] [none]) (.em (.pr (.binOp .lss 3 (.tmp 0) (.const (.int .i64 0)) 3) 4 [.s (.c 3 0), .s (.k (.int .i64 0))]) (.cond (.c 4 0) (.ret (.v (.s (.k (.int .i64 (Int.negSucc 0)))))) (.ret (.v (.s (.k (.int .i64 0)))))))))))) (by kernel_rfl) (by kernel_rfl) (by kernel_rfl) (mSp _ _ _ _ _ _ _ _ _ _ _) h ⟨spl h, trivial⟩ ?_
  unfold sgS
  refine wVal (fun w b h => qsign_any _ x k w ⟨_, _, _, _, rfl, h.1⟩ (by omega)) rfl ?_
  refine wPr (prGt rfl rfl) rfl ?_
  refine wIf _ rfl (fun e => ?_) (fun e => ?_)
  · rw [if_pos (sgT_gt e)]
    exact wRet fun w b _ => ⟨rfl, b⟩
  rw [if_neg (by have := sgF_gt e; grind)]
  refine wVal (fun w b h => qsign_any _ y k w ⟨_, _, _, _, rfl, h.2⟩ (by omega)) rfl ?_
  refine wPr (prLt rfl rfl) rfl ?_
  refine wIf _ rfl (fun e => ?_) (fun e => ?_)
  · rw [if_pos (sgT_lt e)]
    exact wRet fun w b _ => ⟨rfl, b⟩
  · rw [if_neg (by have := sgF_lt e; grind)]
    exact wRet fun w b _ => ⟨rfl, b⟩

theorem round5_any (v : Value) (x y p q : Rat) (i : Int) (bits : Nat) (k : Nat) (w : World) (hT : Tabs w) (h : SpB w v x y k) (hk : k ≤ 200) (hb : 1 ≤ bits) (hb2 : bits ≤ 4096) (hi : min (max i 1) 4096 = (bits : Int)) (hd : IsDown bits x p) (hu : IsDown bits (-y) (-q)) :
    Calls Tryz.prog 52 #[v, .int .i64 i] w fun r w' => ∃ v', r = .returned v' ∧ SpB w' v' p q (2 * k + 132 + (96 * k + 8400) / 32 + 3) ∧ Below w.heap.size w w' := by
  obtain ⟨a, b, c, d, a', b', c', d', rfl, h⟩ := h
  refine go (fun w => SpQ w a b c d a' b' c' d' x y k) [[a, b, c, d, a', b', c', d'], [.int .i64 i]] [some 8, none] (tr := (.em (.call 85 [.g [.c 0 0, .c 0 1, .c 0 2, .c 0 3], .s (.c 1 0)] [some 3]) (.em (.call 86 [.g [.c 2 0, .c 2 1, .c 2 2]] [some 4]) (.em (.call 87 [.g [.c 0 4, .c 0 5, .c 0 6, .c 0 7], .s (.c 1 0)] [some 3]) (.em (.call 86 [.g [.c 4 0, .c 4 1, .c 4 2]] [some 4]) (.ret (.v (.g [.c 3 0, .c 3 1, .c 3 2, .c 3 3, .c 5 0, .c 5 1, .c 5 2, .c 5 3])))))))) (by kernel_rfl) (by kernel_rfl) (by kernel_rfl) (mSp _ _ _ _ _ _ _ _ _ _ _) h ⟨spl h, rfl, trivial⟩ ?_
  refine wDy (fun w b h => ydown_any _ x p i bits k w (hT.below b) ⟨_, _, _, _, rfl, h.1⟩ (by omega) hb hb2 hi hd) (fun _ _ => ?_)
  refine wRat (fun w b ⟨h, _⟩ => yrat_any _ _ _ _ w ⟨_, _, rfl, h⟩ (by omega) (by omega)) (fun _ _ _ _ => ?_)
  refine wDy (fun w b ⟨_, _, h⟩ => yup_any _ y q i bits k w (hT.below b) ⟨_, _, _, _, rfl, h.2⟩ (by omega) hb hb2 hi hu) (fun _ _ => ?_)
  refine wRat (fun w b ⟨h, _⟩ => yrat_any _ _ _ _ w ⟨_, _, rfl, h⟩ (by omega) (by omega)) (fun _ _ _ _ => ?_)
  exact wRet fun w b ⟨h2, _, h1, _⟩ => ⟨_, rfl, ⟨_, _, _, _, _, _, _, _, rfl, h1, h2⟩, b⟩

theorem plain_any (v : Value) (x y : Rat) (k : Nat) (w : World) (hT : Tabs w) (h : SpB w v x y k) (hk : k ≤ 200000) :
    Calls Tryz.prog 18 #[v] w fun e w' => e = .returned (.agg #[.string (ratS x), .string (ratS y)]) ∧ Below w.heap.size w w' := by
  obtain ⟨a, b, c, d, a', b', c', d', rfl, h⟩ := h
  refine go (fun w => SpQ w a b c d a' b' c' d' x y k) [[a, b, c, d, a', b', c', d']] [some 8] (tr := (.em (.call 71 [.g [.c 0 0, .c 0 1, .c 0 2, .c 0 3]] [none]) (.em (.call 71 [.g [.c 0 4, .c 0 5, .c 0 6, .c 0 7]] [none]) (.ret (.v (.g [.c 1 0, .c 2 0])))))) (by kernel_rfl) (by kernel_rfl) (by kernel_rfl) (mSp _ _ _ _ _ _ _ _ _ _ _) h ⟨spl h, trivial⟩ ?_
  refine wVal (fun w b h => qtext_any _ x k w ⟨_, _, _, _, rfl, h.1⟩ hk (hT.below b)) rfl ?_
  refine wVal (fun w b h => qtext_any _ y k w ⟨_, _, _, _, rfl, h.2⟩ hk (hT.below b)) rfl ?_
  exact wRet fun w b _ => ⟨rfl, b⟩

/-- Two texts that are an interval. -/
def SpOk (s r : ByteArray) : Prop := RatOk s ∧ RatOk r ∧ ratVal s ≤ ratVal r
theorem sparseY (s r : ByteArray) (w : World) (hs : s.size ≤ 9223372036854775807) (hr : r.size ≤ 9223372036854775807) (h : SpOk s r) :
    Calls Tryz.prog 13 #[.agg #[.string s, .string r]] w fun e w' => ∃ v', e = .returned (.tuple #[v', .int .i64 0]) ∧ SpB w' v' (ratVal s) (ratVal r) 500 ∧ Below w.heap.size w w' := by
  refine go (fun _ => True) [[.string s, .string r]] [some 2] (tr := (.em (.call 64 [.s (.c 0 0)] [some 4, none]) (.em (.pr (.binOp .neq 34 (.tmp 0) (.const (.int .i64 0)) 34) 4 [.s (.c 1 4), .s (.k (.int .i64 0))]) (.cond (.c 2 0) (.ret (.t [.g [.k (.bool false), .k (.slice none 0 0), .k (.bool false), .k (.slice none 0 0), .k (.bool false), .k (.slice none 0 0), .k (.bool false), .k (.slice none 0 0)], .s (.c 1 4)])) (.em (.call 64 [.s (.c 0 1)] [some 4, none]) (.em (.pr (.binOp .neq 34 (.tmp 0) (.const (.int .i64 0)) 34) 4 [.s (.c 3 4), .s (.k (.int .i64 0))]) (.cond (.c 4 0) (.ret (.t [.g [.k (.bool false), .k (.slice none 0 0), .k (.bool false), .k (.slice none 0 0), .k (.bool false), .k (.slice none 0 0), .k (.bool false), .k (.slice none 0 0)], .s (.c 3 4)])) (.em (.call 60 [.g [.c 1 0, .c 1 1, .c 1 2, .c 1 3], .g [.c 3 0, .c 3 1, .c 3 2, .c 3 3]] [none]) (.em (.pr (.binOp .gtr 3 (.tmp 0) (.const (.int .i64 0)) 3) 4 [.s (.c 5 0), .s (.k (.int .i64 0))]) (.cond (.c 6 0) (.ret (.t [.g [.k (.bool false), .k (.slice none 0 0), .k (.bool false), .k (.slice none 0 0), .k (.bool false), .k (.slice none 0 0), .k (.bool false), .k (.slice none 0 0)], .s (.k (.int .i64 1))])) (.ret (.t [.g [.c 1 0, .c 1 1, .c 1 2, .c 1 3, .c 3 0, .c 3 1, .c 3 2, .c 3 3], .s (.k (.int .i64 0))])))))))))))) (by kernel_rfl) (by kernel_rfl) (by kernel_rfl) Mono.true trivial ⟨rfl, trivial⟩ ?_
  refine wRatV (fun w b _ => qparse_ok s w hs h.1) rfl (fun _ _ _ _ => ?_)
  refine wPr (prNe rfl rfl) rfl ?_
  refine wFalse rfl ?_
  refine wRatV (fun w b _ => qparse_ok r w hr h.2.1) rfl (fun _ _ _ _ => ?_)
  refine wPr (prNe rfl rfl) rfl ?_
  refine wFalse rfl ?_
  refine wVal (fun w b ⟨h2, h1, _⟩ => qcmp_any _ _ _ _ 500 500 w ⟨_, _, _, _, rfl, h1⟩ ⟨_, _, _, _, rfl, h2⟩ (by decide) (by decide)) rfl ?_
  refine wPr (prGt rfl rfl) rfl ?_
  refine wFalse (by show Value.bool (decide _) = _; rw [v_gt, decide_eq_false (by have := h.2.2; grind)]) ?_
  exact wRet fun w b ⟨h2, h1, _⟩ => ⟨_, rfl, ⟨_, _, _, _, _, _, _, _, rfl, h1, h2⟩, b⟩

open Classical in
/-- The code's number. -/
noncomputable def spCode (s r : ByteArray) : Int := if RatOk s ∧ RatOk r then (if ratVal s ≤ ratVal r then 0 else 1) else 2
theorem spCode_ok {s r : ByteArray} (h : SpOk s r) : spCode s r = 0 := by unfold spCode; rw [if_pos ⟨h.1, h.2.1⟩, if_pos h.2.2]
theorem spCode_no {s r : ByteArray} (h : ¬ SpOk s r) : spCode s r = 1 ∨ spCode s r = 2 := by
  unfold spCode
  split
  · next h1 =>
    rw [if_neg (fun h2 => h ⟨h1.1, h1.2, h2⟩)]; exact .inl rfl
  · exact .inr rfl
theorem sparseN (s r : ByteArray) (w : World) (hs : s.size ≤ 9223372036854775807) (hr : r.size ≤ 9223372036854775807) (h : ¬ SpOk s r) :
    Calls Tryz.prog 13 #[.agg #[.string s, .string r]] w fun e w' => e = .returned (.tuple #[.agg ZeroS.toArray, .int .i64 (spCode s r)]) ∧ Below w.heap.size w w' := by
  refine go (fun _ => True) [[.string s, .string r]] [some 2] (tr := (.em (.call 64 [.s (.c 0 0)] [some 4, none]) (.em (.pr (.binOp .neq 34 (.tmp 0) (.const (.int .i64 0)) 34) 4 [.s (.c 1 4), .s (.k (.int .i64 0))]) (.cond (.c 2 0) (.ret (.t [.g [.k (.bool false), .k (.slice none 0 0), .k (.bool false), .k (.slice none 0 0), .k (.bool false), .k (.slice none 0 0), .k (.bool false), .k (.slice none 0 0)], .s (.c 1 4)])) (.em (.call 64 [.s (.c 0 1)] [some 4, none]) (.em (.pr (.binOp .neq 34 (.tmp 0) (.const (.int .i64 0)) 34) 4 [.s (.c 3 4), .s (.k (.int .i64 0))]) (.cond (.c 4 0) (.ret (.t [.g [.k (.bool false), .k (.slice none 0 0), .k (.bool false), .k (.slice none 0 0), .k (.bool false), .k (.slice none 0 0), .k (.bool false), .k (.slice none 0 0)], .s (.c 3 4)])) (.em (.call 60 [.g [.c 1 0, .c 1 1, .c 1 2, .c 1 3], .g [.c 3 0, .c 3 1, .c 3 2, .c 3 3]] [none]) (.em (.pr (.binOp .gtr 3 (.tmp 0) (.const (.int .i64 0)) 3) 4 [.s (.c 5 0), .s (.k (.int .i64 0))]) (.cond (.c 6 0) (.ret (.t [.g [.k (.bool false), .k (.slice none 0 0), .k (.bool false), .k (.slice none 0 0), .k (.bool false), .k (.slice none 0 0), .k (.bool false), .k (.slice none 0 0)], .s (.k (.int .i64 1))])) (.ret (.t [.g [.c 1 0, .c 1 1, .c 1 2, .c 1 3, .c 3 0, .c 3 1, .c 3 2, .c 3 3], .s (.k (.int .i64 0))])))))))))))) (by kernel_rfl) (by kernel_rfl) (by kernel_rfl) Mono.true trivial ⟨rfl, trivial⟩ ?_
  unfold spCode
  by_cases h1 : RatOk s
  · refine wRatV (fun w b _ => qparse_ok s w hs h1) rfl (fun _ _ _ _ => ?_)
    refine wPr (prNe rfl rfl) rfl ?_
    refine wFalse rfl ?_
    by_cases h2 : RatOk r
    · refine wRatV (fun w b _ => qparse_ok r w hr h2) rfl (fun _ _ _ _ => ?_)
      refine wPr (prNe rfl rfl) rfl ?_
      refine wFalse rfl ?_
      refine wVal (fun w b ⟨h2, h1, _⟩ => qcmp_any _ _ _ _ 500 500 w ⟨_, _, _, _, rfl, h1⟩ ⟨_, _, _, _, rfl, h2⟩ (by decide) (by decide)) rfl ?_
      refine wPr (prGt rfl rfl) rfl ?_
      have h3 : ¬ ratVal s ≤ ratVal r := fun h3 => h ⟨h1, h2, h3⟩
      refine wTrue (by show Value.bool (decide _) = _; rw [v_gt, decide_eq_true (by grind)]) ?_
      exact wRet fun w b _ => ⟨by rw [if_pos ⟨h1, h2⟩, if_neg h3]; rfl, b⟩
    · refine wKnown [.bool false, .slice none 0 0, .bool false, .slice none 0 0, .int .i64 2] (fun w b _ => qparse_no r w hr h2) rfl rfl ?_
      refine wPr (prNe rfl rfl) rfl ?_
      refine wTrue rfl ?_
      exact wRet fun w b _ => ⟨by rw [if_neg (fun h => h2 h.2)]; rfl, b⟩
  · refine wKnown [.bool false, .slice none 0 0, .bool false, .slice none 0 0, .int .i64 2] (fun w b _ => qparse_no s w hs h1) rfl rfl ?_
    refine wPr (prNe rfl rfl) rfl ?_
    refine wTrue rfl ?_
    exact wRet fun w b _ => ⟨by rw [if_neg (fun h => h1 h.1)]; rfl, b⟩

def ZeroT : List Value := [.bool false, .slice none 0 0, .slice none 0 0, .bool false, .slice none 0 0, .slice none 0 0]
theorem dzero (w : World) : DQ w (.bool false) (.slice none 0 0) (.slice none 0 0) 0 1 := ⟨IntB.zero _ _ _, ⟨0, RefV.zero _ _, .inr ⟨rfl, rfl⟩⟩, by decide⟩
theorem zeroDs (w : World) : DsB w (.agg ZeroT.toArray) 0 0 1 :=
  ⟨_, _, _, _, _, _, rfl, dzero w, dzero w⟩
theorem dsparseY (s r : ByteArray) (w : World) (hs : s.size ≤ 9223372036854775807) (hr : r.size ≤ 9223372036854775807) (h : SpOk s r) :
    Calls Tryz.prog 14 #[.agg #[.string s, .string r]] w fun e w' => ∃ v', e = .returned (.tuple #[v', .int .i64 0]) ∧ DsB w' v' (ratVal s) (ratVal r) 500 ∧ Below w.heap.size w w' := by
  refine go (fun _ => True) [[.string s, .string r]] [some 2] (tr := (.em (.call 65 [.s (.c 0 0)] [some 3, none]) (.em (.call 65 [.s (.c 0 1)] [some 3, none]) (.em (.pr (.unOp .not 4 (.tmp 0)) 4 [.s (.c 1 3)]) (.cond (.c 3 0) (.ret (.t [.g [.k (.bool false), .k (.slice none 0 0), .k (.slice none 0 0), .k (.bool false), .k (.slice none 0 0), .k (.slice none 0 0)], .s (.k (.int .i64 2))])) (.em (.pr (.unOp .not 4 (.tmp 0)) 4 [.s (.c 2 3)]) (.cond (.c 4 0) (.ret (.t [.g [.k (.bool false), .k (.slice none 0 0), .k (.slice none 0 0), .k (.bool false), .k (.slice none 0 0), .k (.slice none 0 0)], .s (.k (.int .i64 2))])) (.em (.call 17 [.g [.c 1 0, .c 1 1, .c 1 2], .g [.c 2 0, .c 2 1, .c 2 2]] [none]) (.em (.pr (.binOp .gtr 3 (.tmp 0) (.const (.int .i64 0)) 3) 4 [.s (.c 5 0), .s (.k (.int .i64 0))]) (.cond (.c 6 0) (.ret (.t [.g [.k (.bool false), .k (.slice none 0 0), .k (.slice none 0 0), .k (.bool false), .k (.slice none 0 0), .k (.slice none 0 0)], .s (.k (.int .i64 1))])) (.ret (.t [.g [.c 1 0, .c 1 1, .c 1 2, .c 2 0, .c 2 1, .c 2 2], .s (.k (.int .i64 0))])))))))))))) (by kernel_rfl) (by kernel_rfl) (by kernel_rfl) Mono.true trivial ⟨rfl, trivial⟩ ?_
  refine wDQV (fun w b _ => dparseY s w hs h.1) rfl (fun _ _ _ => ?_)
  refine wDQV (fun w b _ => dparseY r w hr h.2.1) rfl (fun _ _ _ => ?_)
  refine wPr (prNot rfl) rfl ?_
  refine wFalse rfl ?_
  refine wPr (prNot rfl) rfl ?_
  refine wFalse rfl ?_
  refine wVal (fun w b ⟨h2, h1, _⟩ => dcmp_any _ _ _ _ 500 500 w ⟨_, _, _, rfl, h1⟩ ⟨_, _, _, rfl, h2⟩ (by decide) (by decide)) rfl ?_
  refine wPr (prGt rfl rfl) rfl ?_
  refine wFalse (by show Value.bool (decide _) = _; rw [v_gt, decide_eq_false (by have := h.2.2; grind)]) ?_
  exact wRet fun w b ⟨h2, h1, _⟩ => ⟨_, rfl, ⟨_, _, _, _, _, _, rfl, h1, h2⟩, b⟩

/-- A text that is none: whatever three values, and no. -/
theorem wNo {w0 : World} {Post : Ending → World → Prop} {F : World → Prop} {L : LC} {E : Env} {tr : Tr} {ar : List V1} {D Z : TypeId → Bool} (s : ByteArray) (hs : s.size ≤ 9223372036854775807) (h : ¬ RatOk s)
    {E' : Value → Value → Value → Env} (hk : ∀ a b d, Wk Tryz.prog w0 D Z Post L F tr (E' a b d)) (ha : (ar.map (V1.den [] E)).toArray = #[.string s] := by rfl)
    (hE : ∀ a b d, E ++ [[a, b, d, .bool false]] = E' a b d := by intros; (simp only [List.cons_append, List.nil_append]) <;> exact rfl) : Wk Tryz.prog w0 D Z Post L F (.em (.call 65 ar [some 3, none]) tr) E := by
  intro hm u hF w e b
  rw [ha]
  refine (dparse_any s w hs).mono ?_
  rintro e1 w' (⟨h', _⟩ | ⟨_, a, b, d, rfl, hp, hb⟩)
  · exact absurd h' h
  · simp only [List.all_cons, List.all_nil, Bool.and_true, Bool.and_eq_true] at hp
    exact ⟨[a, b, d, .bool false], rfl, by simp only [List.all_cons, List.all_nil, Bool.and_true, Bool.and_eq_true]; exact ⟨hp.1, hp.2.1, hp.2.2, rfl⟩, hb, hE _ _ _ ▸ hk _ _ _ hm w' (hm u w' (e.below hb) hF)⟩
theorem dsparseN (s r : ByteArray) (w : World) (hs : s.size ≤ 9223372036854775807) (hr : r.size ≤ 9223372036854775807) (h : ¬ SpOk s r) :
    Calls Tryz.prog 14 #[.agg #[.string s, .string r]] w fun e w' => e = .returned (.tuple #[.agg ZeroT.toArray, .int .i64 (spCode s r)]) ∧ Below w.heap.size w w' := by
  refine go (fun _ => True) [[.string s, .string r]] [some 2] (tr := (.em (.call 65 [.s (.c 0 0)] [some 3, none]) (.em (.call 65 [.s (.c 0 1)] [some 3, none]) (.em (.pr (.unOp .not 4 (.tmp 0)) 4 [.s (.c 1 3)]) (.cond (.c 3 0) (.ret (.t [.g [.k (.bool false), .k (.slice none 0 0), .k (.slice none 0 0), .k (.bool false), .k (.slice none 0 0), .k (.slice none 0 0)], .s (.k (.int .i64 2))])) (.em (.pr (.unOp .not 4 (.tmp 0)) 4 [.s (.c 2 3)]) (.cond (.c 4 0) (.ret (.t [.g [.k (.bool false), .k (.slice none 0 0), .k (.slice none 0 0), .k (.bool false), .k (.slice none 0 0), .k (.slice none 0 0)], .s (.k (.int .i64 2))])) (.em (.call 17 [.g [.c 1 0, .c 1 1, .c 1 2], .g [.c 2 0, .c 2 1, .c 2 2]] [none]) (.em (.pr (.binOp .gtr 3 (.tmp 0) (.const (.int .i64 0)) 3) 4 [.s (.c 5 0), .s (.k (.int .i64 0))]) (.cond (.c 6 0) (.ret (.t [.g [.k (.bool false), .k (.slice none 0 0), .k (.slice none 0 0), .k (.bool false), .k (.slice none 0 0), .k (.slice none 0 0)], .s (.k (.int .i64 1))])) (.ret (.t [.g [.c 1 0, .c 1 1, .c 1 2, .c 2 0, .c 2 1, .c 2 2], .s (.k (.int .i64 0))])))))))))))) (by kernel_rfl) (by kernel_rfl) (by kernel_rfl) Mono.true trivial ⟨rfl, trivial⟩ ?_
  unfold spCode
  by_cases h1 : RatOk s
  · refine wDQV (fun w b _ => dparseY s w hs h1) rfl (fun _ _ _ => ?_)
    by_cases h2 : RatOk r
    · refine wDQV (fun w b _ => dparseY r w hr h2) rfl (fun _ _ _ => ?_)
      refine wPr (prNot rfl) rfl ?_
      refine wFalse rfl ?_
      refine wPr (prNot rfl) rfl ?_
      refine wFalse rfl ?_
      refine wVal (fun w b ⟨h2, h1, _⟩ => dcmp_any _ _ _ _ 500 500 w ⟨_, _, _, rfl, h1⟩ ⟨_, _, _, rfl, h2⟩ (by decide) (by decide)) rfl ?_
      refine wPr (prGt rfl rfl) rfl ?_
      have h3 : ¬ ratVal s ≤ ratVal r := fun h3 => h ⟨h1, h2, h3⟩
      refine wTrue (by show Value.bool (decide _) = _; rw [v_gt, decide_eq_true (by grind)]) ?_
      exact wRet fun w b _ => ⟨by rw [if_pos ⟨h1, h2⟩, if_neg h3]; rfl, b⟩
    · refine wNo r hr h2 (fun _ _ _ => ?_)
      refine wPr (prNot rfl) rfl ?_
      refine wFalse rfl ?_
      refine wPr (prNot rfl) rfl ?_
      refine wTrue rfl ?_
      exact wRet fun w b _ => ⟨by rw [if_neg (fun h => h2 h.2)]; rfl, b⟩
  · refine wNo s hs h1 (fun _ _ _ => ?_)
    by_cases h2 : RatOk r
    · refine wDQV (fun w b _ => dparseY r w hr h2) rfl (fun _ _ _ => ?_)
      refine wPr (prNot rfl) rfl ?_
      refine wTrue rfl ?_
      exact wRet fun w b _ => ⟨by rw [if_neg (fun h => h1 h.1)]; rfl, b⟩
    · refine wNo r hr h2 (fun _ _ _ => ?_)
      refine wPr (prNot rfl) rfl ?_
      refine wTrue rfl ?_
      exact wRet fun w b _ => ⟨by rw [if_neg (fun h => h1 h.1)]; rfl, b⟩

theorem point_any (v : Value) (x : Rat) (k : Nat) (w : World) (h : DRatB w v x k) :
    Calls Tryz.prog 21 #[v] w fun e w' => ∃ v', e = .returned v' ∧ DsB w' v' x x k ∧ Below w.heap.size w w' := by
  obtain ⟨a, b, d, rfl, h⟩ := h
  refine go (fun w => DQ w a b d x k) [[a, b, d]] [some 3] (tr := (.ret (.v (.g [.c 0 0, .c 0 1, .c 0 2, .c 0 0, .c 0 1, .c 0 2])))) (by kernel_rfl) (by kernel_rfl) (by kernel_rfl) (mD _ _ _ _ _) h ⟨dpl h, trivial⟩ ?_
  exact wRet fun w b h => ⟨_, rfl, ⟨_, _, _, _, _, _, rfl, h, h⟩, b⟩

/-- Is: are both the same interval? -/
theorem is5_any (v u : Value) (x y : Rat) (k j : Nat) (w : World) (h : SpB w v x y k) (h' : DsB w u x y j) (hk : k ≤ 200000) (hj : j ≤ 200000) (hT : Tabs w) :
    Calls Tryz.prog 15 #[v, u] w fun e w' => e = .returned (.bool true) ∧ Below w.heap.size w w' := by
  obtain ⟨a, b, c, d, a', b', c', d', rfl, h⟩ := h
  obtain ⟨p, q, r, p', q', r', rfl, h'⟩ := h'
  refine go (fun w => SpQ w a b c d a' b' c' d' x y k ∧ DsQ w p q r p' q' r' x y j) [[a, b, c, d, a', b', c', d'], [p, q, r, p', q', r']] [some 8, some 6] (tr := (.em (.call 45 [.g [.c 0 0, .c 0 1, .c 0 2, .c 0 3], .g [.c 1 0, .c 1 1, .c 1 2]] [none]) (.cond (.c 2 0) (.em (.call 45 [.g [.c 0 4, .c 0 5, .c 0 6, .c 0 7], .g [.c 1 3, .c 1 4, .c 1 5]] [none]) (.ret (.v (.s (.c 3 0))))) (.ret (.v (.s (.k (.bool false)))))))) (by kernel_rfl) (by kernel_rfl) (by kernel_rfl) ((mSp _ _ _ _ _ _ _ _ _ _ _).and (mDs _ _ _ _ _ _ _ _ _)) ⟨h, h'⟩ ⟨spl h, dspl h', trivial⟩ ?_
  refine wVal (fun w b ⟨h, h'⟩ => is_any _ _ x k j w ⟨_, _, _, _, rfl, h.1⟩ ⟨_, _, _, rfl, h'.1⟩ hk hj (hT.below b)) rfl ?_
  refine wTrue rfl ?_
  refine wVal (fun w b ⟨h, h'⟩ => is_any _ _ y k j w ⟨_, _, _, _, rfl, h.2⟩ ⟨_, _, _, rfl, h'.2⟩ hk hj (hT.below b)) rfl ?_
  exact wRet fun w b _ => ⟨rfl, b⟩

/-- Two texts that Of takes. -/
def OfOk (s r : ByteArray) : Prop := SpOk s r ∧ s.size ≤ 60 ∧ r.size ≤ 60
theorem ofOk_lt {s r : ByteArray} (h : OfOk s r) : (ratVal s).num.natAbs < pw 21 ∧ (ratVal s).den < pw 21 ∧ (ratVal r).num.natAbs < pw 21 ∧ (ratVal r).den < pw 21 := by
  obtain ⟨h1, h2⟩ := numQ_lt (s := s) ⟨h.1.1, by have := h.2.1; omega⟩
  obtain ⟨h3, h4⟩ := numQ_lt (s := r) ⟨h.1.2.1, by have := h.2.2; omega⟩
  exact ⟨h1, h2, h3, h4⟩
theorem ofY (s r : ByteArray) (w : World) (hs : s.size ≤ 9223372036854775807) (hr : r.size ≤ 9223372036854775807) (h : OfOk s r) :
    Calls Tryz.prog 22 #[.agg #[.string s, .string r]] w fun e w' => ∃ v u, e = .returned (.tuple #[v, u, .bool true]) ∧ SpB w' v (ratVal s) (ratVal r) 21 ∧ DsB w' u (ratVal s) (ratVal r) 21 ∧ Below w.heap.size w w' := by
  obtain ⟨l1, l2, l3, l4⟩ := ofOk_lt h
  have z1 := h.2.1
  have z2 := h.2.2
  refine go (fun _ => True) [[.string s, .string r]] [some 2] (tr := (.em (.call 14 [.g [.c 0 0, .c 0 1]] [some 6, none]) (.em (.pr (.binOp .neq 34 (.tmp 0) (.const (.int .i64 0)) 34) 4 [.s (.c 1 6), .s (.k (.int .i64 0))]) (.cond (.c 2 0) (.ret (.t [.g [.k (.bool false), .k (.slice none 0 0), .k (.bool false), .k (.slice none 0 0), .k (.bool false), .k (.slice none 0 0), .k (.bool false), .k (.slice none 0 0)], .g [.k (.bool false), .k (.slice none 0 0), .k (.slice none 0 0), .k (.bool false), .k (.slice none 0 0), .k (.slice none 0 0)], .s (.k (.bool false))])) (.em (.pr (.call (.mk (.builtin .len) #[.tmp 0] #[9])) 3 [.s (.c 0 0)]) (.em (.pr (.binOp .gtr 3 (.tmp 0) (.const (.int .i64 60)) 3) 4 [.s (.c 3 0), .s (.k (.int .i64 60))]) (.cond (.c 4 0) (.ret (.t [.g [.k (.bool false), .k (.slice none 0 0), .k (.bool false), .k (.slice none 0 0), .k (.bool false), .k (.slice none 0 0), .k (.bool false), .k (.slice none 0 0)], .g [.k (.bool false), .k (.slice none 0 0), .k (.slice none 0 0), .k (.bool false), .k (.slice none 0 0), .k (.slice none 0 0)], .s (.k (.bool false))])) (.em (.pr (.call (.mk (.builtin .len) #[.tmp 0] #[9])) 3 [.s (.c 0 1)]) (.em (.pr (.binOp .gtr 3 (.tmp 0) (.const (.int .i64 60)) 3) 4 [.s (.c 5 0), .s (.k (.int .i64 60))]) (.cond (.c 6 0) (.ret (.t [.g [.k (.bool false), .k (.slice none 0 0), .k (.bool false), .k (.slice none 0 0), .k (.bool false), .k (.slice none 0 0), .k (.bool false), .k (.slice none 0 0)], .g [.k (.bool false), .k (.slice none 0 0), .k (.slice none 0 0), .k (.bool false), .k (.slice none 0 0), .k (.slice none 0 0)], .s (.k (.bool false))])) (.em (.call 13 [.g [.c 0 0, .c 0 1]] [some 8, none]) (.ret (.t [.g [.c 7 0, .c 7 1, .c 7 2, .c 7 3, .c 7 4, .c 7 5, .c 7 6, .c 7 7], .g [.c 1 0, .c 1 1, .c 1 2, .c 1 3, .c 1 4, .c 1 5], .s (.k (.bool true))]))))))))))))) (by kernel_rfl) (by kernel_rfl) (by kernel_rfl) Mono.true trivial ⟨rfl, trivial⟩ ?_
  refine wDsV (fun w b _ => dsparseY s r w hs hr h.1) rfl (fun _ _ _ _ _ _ => ?_)
  refine wPr (prNe rfl rfl) rfl ?_
  refine wFalse rfl ?_
  refine wPr (prLenS hStrT rfl) rfl ?_
  refine wPr (prGt rfl rfl) rfl ?_
  refine wFalse (by show Value.bool (decide _) = _; rw [decide_eq_false (by omega)]) ?_
  refine wPr (prLenS hStrT rfl) rfl ?_
  refine wPr (prGt rfl rfl) rfl ?_
  refine wFalse (by show Value.bool (decide _) = _; rw [decide_eq_false (by omega)]) ?_
  refine wSpV (fun w b _ => sparseY s r w hs hr h.1) rfl (fun _ _ _ _ _ _ _ _ => ?_)
  exact wRet fun w b ⟨h1, h2, _⟩ => ⟨_, _, rfl, ⟨_, _, _, _, _, _, _, _, rfl, h1.1.cut l1 l2, h1.2.cut l3 l4⟩, ⟨_, _, _, _, _, _, rfl, h2.1.cut l1 l2, h2.2.cut l3 l4⟩, b⟩

def ZeroO : List Value := [.bool false, .slice none 0 0, .bool false, .slice none 0 0, .bool false, .slice none 0 0, .bool false, .slice none 0 0, .bool false, .slice none 0 0, .slice none 0 0, .bool false, .slice none 0 0, .slice none 0 0, .bool false]
theorem ofN (s r : ByteArray) (w : World) (hs : s.size ≤ 9223372036854775807) (hr : r.size ≤ 9223372036854775807) (h : ¬ OfOk s r) :
    Calls Tryz.prog 22 #[.agg #[.string s, .string r]] w fun e w' => e = .returned (.tuple #[.agg ZeroS.toArray, .agg ZeroT.toArray, .bool false]) ∧ Below w.heap.size w w' := by
  refine go (fun _ => True) [[.string s, .string r]] [some 2] (tr := (.em (.call 14 [.g [.c 0 0, .c 0 1]] [some 6, none]) (.em (.pr (.binOp .neq 34 (.tmp 0) (.const (.int .i64 0)) 34) 4 [.s (.c 1 6), .s (.k (.int .i64 0))]) (.cond (.c 2 0) (.ret (.t [.g [.k (.bool false), .k (.slice none 0 0), .k (.bool false), .k (.slice none 0 0), .k (.bool false), .k (.slice none 0 0), .k (.bool false), .k (.slice none 0 0)], .g [.k (.bool false), .k (.slice none 0 0), .k (.slice none 0 0), .k (.bool false), .k (.slice none 0 0), .k (.slice none 0 0)], .s (.k (.bool false))])) (.em (.pr (.call (.mk (.builtin .len) #[.tmp 0] #[9])) 3 [.s (.c 0 0)]) (.em (.pr (.binOp .gtr 3 (.tmp 0) (.const (.int .i64 60)) 3) 4 [.s (.c 3 0), .s (.k (.int .i64 60))]) (.cond (.c 4 0) (.ret (.t [.g [.k (.bool false), .k (.slice none 0 0), .k (.bool false), .k (.slice none 0 0), .k (.bool false), .k (.slice none 0 0), .k (.bool false), .k (.slice none 0 0)], .g [.k (.bool false), .k (.slice none 0 0), .k (.slice none 0 0), .k (.bool false), .k (.slice none 0 0), .k (.slice none 0 0)], .s (.k (.bool false))])) (.em (.pr (.call (.mk (.builtin .len) #[.tmp 0] #[9])) 3 [.s (.c 0 1)]) (.em (.pr (.binOp .gtr 3 (.tmp 0) (.const (.int .i64 60)) 3) 4 [.s (.c 5 0), .s (.k (.int .i64 60))]) (.cond (.c 6 0) (.ret (.t [.g [.k (.bool false), .k (.slice none 0 0), .k (.bool false), .k (.slice none 0 0), .k (.bool false), .k (.slice none 0 0), .k (.bool false), .k (.slice none 0 0)], .g [.k (.bool false), .k (.slice none 0 0), .k (.slice none 0 0), .k (.bool false), .k (.slice none 0 0), .k (.slice none 0 0)], .s (.k (.bool false))])) (.em (.call 13 [.g [.c 0 0, .c 0 1]] [some 8, none]) (.ret (.t [.g [.c 7 0, .c 7 1, .c 7 2, .c 7 3, .c 7 4, .c 7 5, .c 7 6, .c 7 7], .g [.c 1 0, .c 1 1, .c 1 2, .c 1 3, .c 1 4, .c 1 5], .s (.k (.bool true))]))))))))))))) (by kernel_rfl) (by kernel_rfl) (by kernel_rfl) Mono.true trivial ⟨rfl, trivial⟩ ?_
  by_cases h1 : SpOk s r
  · refine wDsV (fun w b _ => dsparseY s r w hs hr h1) rfl (fun _ _ _ _ _ _ => ?_)
    refine wPr (prNe rfl rfl) rfl ?_
    refine wFalse rfl ?_
    refine wPr (prLenS hStrT rfl) rfl ?_
    refine wPr (prGt rfl rfl) rfl ?_
    refine wIf _ rfl (fun e => ?_) (fun e => ?_)
    · exact wRet fun w b _ => ⟨rfl, b⟩
    have z1 : ¬ (60 : Int) < (s.size : Int) := by simpa using e
    refine wPr (prLenS hStrT rfl) rfl ?_
    refine wPr (prGt rfl rfl) rfl ?_
    refine wTrue (by show Value.bool (decide _) = _; rw [decide_eq_true]; have : ¬ r.size ≤ 60 := fun z2 => h ⟨h1, by omega, z2⟩; omega) ?_
    exact wRet fun w b _ => ⟨rfl, b⟩
  · refine wKnown (ZeroT ++ [.int .i64 (spCode s r)]) (fun w b _ => dsparseN s r w hs hr h1) rfl rfl ?_ (hE := rfl)
    refine wPr (prNe rfl rfl) rfl ?_
    refine wTrue (by show Value.bool (spCode s r != 0) = _; rcases spCode_no h1 with e | e <;> rw [e] <;> rfl) ?_
    exact wRet fun w b _ => ⟨rfl, b⟩

set_option maxHeartbeats 800000 in
theorem rnatOf_four (w : World) : Calls Tryz.prog 92 #[.int .u64 4] w fun e w' => ∃ v', e = .returned v' ∧ RefB w' v' 4 1 ∧ Below w.heap.size w w' := by
  have hand : bits BinOp.and IntKind.u64 4 4294967295 = 4 := and_mask32 (t := 4) (by decide)
  go_enter Tryz.func92, Tryz.ntmps92
  go_wp2_with fail
  have hblk := Blk.new w 146 .u32 [4, 0]
  refine (rtrim_any _ [4, 0] _ (Sl.of_blk hblk) (Ok.cons (by decide) (Ok.cons (by decide) Ok.nil)) (by decide)).mono ?_
  rintro e w1 ⟨v1, rfl, hr, rfl⟩
  have HR := Lib.hid hr
  clear hr hblk hand
  go_wp2
  go_ret
  exact ⟨_, rfl, ⟨HR.out, by decide⟩, bel_alloc _ _⟩

set_option maxHeartbeats 800000 in
theorem rintOf_four (w : World) : Calls Tryz.prog 105 #[.int .i64 4] w fun e w' => ∃ v', e = .returned v' ∧ IntB 146 w' v' 4 1 ∧ Below w.heap.size w w' := by
  go_enter Tryz.func105, Tryz.ntmps105
  go_wp2_with fail
  refine (rnatOf_four _).mono ?_
  rintro e w1 ⟨v1, rfl, hn1, hb1⟩
  obtain ⟨ad1, l1, c1, xs1, rfl, _⟩ := hn1.1.shape
  have hI : IntB 146 w1 (.agg #[.bool false, .slice ad1 l1 c1]) 4 1 := intB_of (b := false) (n := 4) hn1.1 hn1.2 rfl
  have HSL := Lib.hid (Slot.of (n := 2) ((heldN1 (w := w)).below hb1).1 rfl)
  have HRR := Lib.hid (fin_int hI HSL.out (by decide) (bel_on (bel_alloc _ _) hb1) (Nat.le_refl _))
  obtain ⟨xR, yR, hxR, hyR, hfxR, hfyR⟩ := HSL.out.two
  clear hn1 hb1 hI
  go_wp2
  refine bodyPost_ret (v := .agg #[.bool false, .slice ad1 l1 c1]) (by simp [results, Tryz.results105, go_sem, HRR.out.2.2.1, HRR.out.2.2.2]) rfl ⟨_, rfl, HRR.out.1, HRR.out.2.1⟩

theorem dofFour_any (w : World) : Calls Tryz.prog 63 #[.int .i64 4] w fun e w' => ∃ v', e = .returned v' ∧ DRatB w' v' 4 1 ∧ Below w.heap.size w w' := by
  refine go (fun _ => True) [[.int .i64 4]] [none] (tr := (.em (.call 105 [.s (.c 0 0)] [some 2]) (.em (.call 92 [.s (.k (.int .u64 1))] [none]) (.ret (.v (.g [.c 1 0, .c 1 1, .c 2 0])))))) (by kernel_rfl) (by kernel_rfl) (by kernel_rfl) Mono.true trivial ⟨rfl, trivial⟩ ?_
  refine wInt hU (fun w b _ => rintOf_four w) (fun x1 y1 => ?_)
  refine wRef hU (fun w b _ => rnatOf_one w) (fun x2 => ?_)
  exact wRet fun w b ⟨h2, h1, _⟩ => ⟨_, rfl, ⟨_, _, _, rfl, h1, ⟨1, h2.1, .inl rfl⟩, h2.2⟩, b⟩

theorem alive_lo : pLo ((-1 : Int) : Rat) ((2 : Int) : Rat) (cut255 2) = 0 := by
  have e : cut255 2 = 2 := by decide
  unfold pLo
  rw [e, if_pos ⟨by decide, by decide, by decide, by decide⟩]
theorem alive_hi : pHi ((-1 : Int) : Rat) ((2 : Int) : Rat) (cut255 2) = 4 := by
  have e : cut255 2 = 2 := by decide
  unfold pHi
  rw [e, show ((-1 : Int) : Rat) = -1 from rfl, show ((2 : Int) : Rat) = 2 from rfl, mx_of (by grind)]
  grind
/-- alive: a first call whose answer the document fixes. -/
theorem alive5_any (w : World) (hT : Tabs w) : Calls Tryz.prog 12 #[] w fun e w' => e = .returned (.bool true) ∧ Below w.heap.size w w' := by
  refine go (fun _ => True) [] [] (tr := (.em (.call 62 [.s (.k (.int .i64 (Int.negSucc 0)))] [some 4]) (.em (.call 62 [.s (.k (.int .i64 2))] [some 4]) (.em (.call 16 [.g [.c 0 0, .c 0 1, .c 0 2, .c 0 3], .g [.c 1 0, .c 1 1, .c 1 2, .c 1 3]] [some 8, none]) (.cond (.c 2 8) (.em (.call 33 [.g [.c 2 0, .c 2 1, .c 2 2, .c 2 3, .c 2 4, .c 2 5, .c 2 6, .c 2 7], .s (.k (.int .i64 2))] [some 8]) (.em (.call 63 [.s (.k (.int .i64 0))] [some 3]) (.em (.call 63 [.s (.k (.int .i64 4))] [some 3]) (.em (.call 15 [.g [.c 3 0, .c 3 1, .c 3 2, .c 3 3, .c 3 4, .c 3 5, .c 3 6, .c 3 7], .g [.c 4 0, .c 4 1, .c 4 2, .c 5 0, .c 5 1, .c 5 2]] [none]) (.ret (.v (.s (.c 6 0)))))))) (.ret (.v (.s (.k (.bool false)))))))))) (by kernel_rfl) (by kernel_rfl) (by kernel_rfl) Mono.true trivial trivial ?_
  refine wRat (fun w b _ => qof_any (-1) w (by decide) (by decide)) (fun _ _ _ _ => ?_)
  refine wRat (fun w b _ => qof_any 2 w (by decide) (by decide)) (fun _ _ _ _ => ?_)
  refine wSpV (fun w b ⟨h2, h1, _⟩ => snewY _ _ _ _ 2 w ⟨_, _, _, _, rfl, h1⟩ ⟨_, _, _, _, rfl, h2⟩ (by decide) (by decide)) rfl (fun _ _ _ _ _ _ _ _ => ?_)
  refine wTrue rfl ?_
  refine wSp (x := 0) (y := 4) (fun w b ⟨h, _⟩ => by rw [← alive_lo, ← alive_hi]; exact spow_any _ _ _ 2 2 w ⟨_, _, _, _, _, _, _, _, rfl, h⟩ (by decide) (by decide) (by decide)) (fun _ _ _ _ _ _ _ _ => ?_)
  refine wDQ (fun w b _ => dofZero_any w) (fun _ _ _ => ?_)
  refine wDQ (fun w b _ => dofFour_any w) (fun _ _ _ => ?_)
  refine wVal (fun w b ⟨h4, h0, h, _⟩ => is5_any _ _ 0 4 _ 1 w ⟨_, _, _, _, _, _, _, _, rfl, h⟩ ⟨_, _, _, _, _, _, rfl, h0, h4⟩ (by decide) (by decide) (hT.below b)) rfl ?_
  exact wRet fun w b _ => ⟨rfl, b⟩

section prims
variable {P : Program} {t t2 ty : TypeId} {vs : List Value} {p q : Operand} {x y : Int}
theorem prAddF {z : Int} (hp : pe vs p = .int .i64 x) (hq : pe vs q = .int .i64 y) (h : x + y = z) (h0 : -9223372036854775808 ≤ z) (h1 : z ≤ 9223372036854775807) : PrimOk P (.binOp .add t p q t2) ty vs (.int .i64 z) := by subst h; exact prAddI hp hq h0 h1
end prims
theorem tmod_em (i : Int) {n : Int} (h : 0 < n) : i.tmod n < n ∧ -n < i.tmod n ∧ (i.tmod n < 0 → i.tmod n + n = i % n) ∧ (¬ i.tmod n < 0 → i.tmod n = i % n) := by
  have h1 := Int.tmod_lt_of_pos i h
  have h2 := Int.lt_tmod_of_pos i h
  have e : i % n = i.tmod n % n := by
    have := Int.tmod_add_mul_tdiv i n
    generalize i.tmod n = r at *
    generalize i.tdiv n = q at *
    rw [← this, Int.add_mul_emod_self_left]
  refine ⟨h1, h2, fun h3 => ?_, fun h3 => ?_⟩
  · rw [e, ← Int.add_emod_right, Int.emod_eq_of_lt (by omega) (by omega)]
  · rw [e, Int.emod_eq_of_lt (by omega) (by omega)]
/-- Within: a number from lo to hi. -/
def wi (i lo hi : Int) : Int := lo + i % (hi - lo + 1)
theorem wi_lim (i : Int) {lo hi : Int} (h : lo ≤ hi) : lo ≤ wi i lo hi ∧ wi i lo hi ≤ hi := by
  unfold wi
  have h1 := Int.emod_nonneg i (b := hi - lo + 1) (by omega)
  have h2 := Int.emod_lt_of_pos i (b := hi - lo + 1) (by omega)
  omega
theorem wi_any (i lo hi : Int) (w : World) (hl : lo ≤ hi) (h0 : -1000 ≤ lo) (h1 : hi ≤ 1000) : Calls Tryz.prog 32 #[.int .i64 i, .int .i64 lo, .int .i64 hi] w fun r w' => r = .returned (.int .i64 (wi i lo hi)) ∧ Below w.heap.size w w' := by
  obtain ⟨m1, m2, m3, m4⟩ := tmod_em i (n := hi - lo + 1) (by omega)
  have m5 := wi_lim i hl
  refine go (fun _ => True) [[.int .i64 i], [.int .i64 lo], [.int .i64 hi]] [none, none, none] (tr := (.em (.pr (.binOp .sub 3 (.tmp 0) (.tmp 1) 3) 3 [.s (.c 2 0), .s (.c 1 0)]) (.em (.pr (.binOp .add 3 (.tmp 0) (.const (.int .i64 1)) 3) 3 [.s (.c 3 0), .s (.k (.int .i64 1))]) (.em (.pr (.binOp .rem 3 (.tmp 0) (.tmp 1) 3) 3 [.s (.c 0 0), .s (.c 4 0)]) (.em (.pr (.binOp .lss 3 (.tmp 0) (.const (.int .i64 0)) 3) 4 [.s (.c 5 0), .s (.k (.int .i64 0))]) (.cond (.c 6 0) (.em (.pr (.binOp .sub 3 (.tmp 0) (.tmp 1) 3) 3 [.s (.c 2 0), .s (.c 1 0)]) (.em (.pr (.binOp .add 3 (.tmp 0) (.const (.int .i64 1)) 3) 3 [.s (.c 7 0), .s (.k (.int .i64 1))]) (.em (.pr (.binOp .add 3 (.tmp 0) (.tmp 1) 3) 3 [.s (.c 5 0), .s (.c 8 0)]) (.em (.pr (.binOp .add 3 (.tmp 0) (.tmp 1) 3) 3 [.s (.c 1 0), .s (.c 9 0)]) (.ret (.v (.s (.c 10 0)))))))) (.em (.pr (.binOp .add 3 (.tmp 0) (.tmp 1) 3) 3 [.s (.c 1 0), .s (.c 5 0)]) (.ret (.v (.s (.c 7 0))))))))))) (by kernel_rfl) (by kernel_rfl) (by kernel_rfl) Mono.true trivial ⟨rfl, rfl, rfl, trivial⟩ ?_
  refine wPr (prSubI rfl rfl (by omega) (by omega)) rfl ?_
  refine wPr (prAddI rfl rfl (by omega) (by omega)) rfl ?_
  refine wPr (prRemI rfl rfl (by omega)) rfl ?_
  refine wPr (prLt rfl rfl) rfl ?_
  refine wIf _ rfl (fun e => ?_) (fun e => ?_)
  · have e1 : i.tmod (hi - lo + 1) < 0 := by simpa using e
    refine wPr (prSubI rfl rfl (by omega) (by omega)) rfl ?_
    refine wPr (prAddI rfl rfl (by omega) (by omega)) rfl ?_
    refine wPr (prAddI rfl rfl (by omega) (by omega)) rfl ?_
    refine wPr (prAddF (z := wi i lo hi) rfl rfl (by unfold wi; rw [m3 e1]) (by omega) (by omega)) rfl ?_
    exact wRet fun w b _ => ⟨rfl, b⟩
  · have e1 : ¬ i.tmod (hi - lo + 1) < 0 := by simpa using e
    refine wPr (prAddF (z := wi i lo hi) rfl rfl (by unfold wi; rw [m4 e1]) (by omega) (by omega)) rfl ?_
    exact wRet fun w b _ => ⟨rfl, b⟩
theorem wi_wi (i : Int) {lo hi : Int} (h : lo ≤ i ∧ i ≤ hi) (h0 : lo = 0) : wi i lo hi = i := by
  subst h0
  unfold wi
  rw [Int.emod_eq_of_lt (by omega) (by omega)]; omega

/-- inside: from its one end so many eighths to the other. -/
def insQ (x y : Rat) (i : Int) : Rat := x + (y - x) * (((wi i 0 8 : Int) : Rat) / ((8 : Int) : Rat))
theorem ins_in {x y : Rat} (h : x ≤ y) (i : Int) : x ≤ insQ x y i ∧ insQ x y i ≤ y := by
  obtain ⟨l1, l2⟩ := wi_lim i (lo := 0) (hi := 8) (by decide)
  have g1 : (0 : Rat) ≤ ((wi i 0 8 : Int) : Rat) := Rat.intCast_nonneg.2 l1
  have g2 : ((wi i 0 8 : Int) : Rat) ≤ 8 := by have := Rat.intCast_le_intCast.2 l2; exact this
  unfold insQ
  rw [show ((8 : Int) : Rat) = 8 from rfl]
  generalize ((wi i 0 8 : Int) : Rat) = t at *
  have k1 : 0 ≤ t / 8 := by grind
  have k2 : t / 8 ≤ 1 := by grind
  generalize t / 8 = u at *
  have m1 := mul_up' (x := 0) (y := u) (z := y - x) k1 (by grind)
  have m2 := mul_up' (x := u) (y := 1) (z := y - x) k2 (by grind)
  grind
theorem ins_le {x y : Rat} (h : x ≤ y) {i k : Int} (hik : wi i 0 8 ≤ wi k 0 8) : insQ x y i ≤ insQ x y k := by
  have g := Rat.intCast_le_intCast.2 hik
  unfold insQ
  rw [show ((8 : Int) : Rat) = 8 from rfl]
  generalize ((wi i 0 8 : Int) : Rat) = t at *
  generalize ((wi k 0 8 : Int) : Rat) = s at *
  have k1 : t / 8 ≤ s / 8 := by grind
  have m1 := mul_up' (z := y - x) k1 (by grind)
  grind
theorem inside_any (v : Value) (x y : Rat) (i : Int) (k : Nat) (w : World) (h : SpB w v x y k) (hk : k ≤ 10000) :
    Calls Tryz.prog 55 #[v, .int .i64 i] w fun e w' => ∃ v', e = .returned v' ∧ RatB w' v' (insQ x y i) (k + (k + k + 1 + 4) + 1) ∧ Below w.heap.size w w' := by
  obtain ⟨l1, l2⟩ := wi_lim i (lo := 0) (hi := 8) (by decide)
  obtain ⟨a, b, c, d, a', b', c', d', rfl, h⟩ := h
  refine go (fun w => SpQ w a b c d a' b' c' d' x y k) [[a, b, c, d, a', b', c', d'], [.int .i64 i]] [some 8, none] (tr := (.em (.call 32 [.s (.c 1 0), .s (.k (.int .i64 0)), .s (.k (.int .i64 8))] [none]) (.em (.call 62 [.s (.c 2 0)] [some 4]) (.em (.call 62 [.s (.k (.int .i64 8))] [some 4]) (.em (.call 83 [.g [.c 3 0, .c 3 1, .c 3 2, .c 3 3], .g [.c 4 0, .c 4 1, .c 4 2, .c 4 3]] [some 4, none]) (.em (.call 48 [.g [.c 0 0, .c 0 1, .c 0 2, .c 0 3, .c 0 4, .c 0 5, .c 0 6, .c 0 7]] [some 4]) (.em (.call 58 [.g [.c 6 0, .c 6 1, .c 6 2, .c 6 3], .g [.c 5 0, .c 5 1, .c 5 2, .c 5 3]] [some 4]) (.em (.call 56 [.g [.c 0 0, .c 0 1, .c 0 2, .c 0 3], .g [.c 7 0, .c 7 1, .c 7 2, .c 7 3]] [some 4]) (.ret (.v (.g [.c 8 0, .c 8 1, .c 8 2, .c 8 3]))))))))))) (by kernel_rfl) (by kernel_rfl) (by kernel_rfl) (mSp _ _ _ _ _ _ _ _ _ _ _) h ⟨spl h, rfl, trivial⟩ ?_
  refine wVal (fun w b _ => wi_any i 0 8 w (by decide) (by decide) (by decide)) rfl ?_
  refine wRat (fun w b _ => qof_any (wi i 0 8) w (by omega) (by omega)) (fun _ _ _ _ => ?_)
  refine wRat (fun w b _ => qof_any 8 w (by decide) (by decide)) (fun _ _ _ _ => ?_)
  refine wRatV (fun w b ⟨h2, h1, _⟩ => qdiv_any _ _ _ _ 2 2 w ⟨_, _, _, _, rfl, h1⟩ ⟨_, _, _, _, rfl, h2⟩ (by omega) (by decide) (by decide)) rfl (fun _ _ _ _ => ?_)
  refine wRat (fun w b ⟨_, _, _, h⟩ => width_any _ x y k w ⟨_, _, _, _, _, _, _, _, rfl, h⟩ (by omega)) (fun _ _ _ _ => ?_)
  refine wRat (fun w b ⟨h2, h1, _⟩ => qmul_any _ _ _ _ _ 4 w ⟨_, _, _, _, rfl, h2⟩ ⟨_, _, _, _, rfl, h1⟩ (by omega) (by omega)) (fun _ _ _ _ => ?_)
  refine wRat (fun w b ⟨h1, _, _, _, _, h⟩ => qadd_any _ _ _ _ k _ w ⟨_, _, _, _, rfl, h.1⟩ ⟨_, _, _, _, rfl, h1⟩ (by omega) (by omega)) (fun _ _ _ _ => ?_)
  exact wRet fun w b ⟨h, _⟩ => ⟨_, rfl, ⟨_, _, _, _, rfl, h⟩, b⟩

end Go.Proofs.YtfohgkabmdhhaaaGreatDoor
