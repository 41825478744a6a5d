/- Bytes of numbers, the greatest first: plain facts. -/
import Derived.Test.YtpchnejdbmoicaaDoorWC
namespace Cin
open Go Go.RowKit
/-- The number whose bytes these are, the greatest first. -/
def bv (bs : List Nat) : Nat := bs.foldl (fun a b => a * 256 + b) 0
theorem bv_snoc (bs : List Nat) (b : Nat) : bv (bs ++ [b]) = bv bs * 256 + b := by unfold bv; rw [List.foldl_append]; rfl
theorem bv_take {bs : List Nat} {i : Nat} (h : i < bs.length) : bv (bs.take (i + 1)) = bv (bs.take i) * 256 + lim bs i := by
  rw [List.take_succ_eq_append_getElem h, bv_snoc, lim_eq h]
theorem bv_lt {bs : List Nat} (h : ∀ b ∈ bs, b < 256) : ∀ i, bv (bs.take i) < 256 ^ i
  | 0 => by rw [List.take_zero]; decide
  | i + 1 => by
    have ih := bv_lt h i
    by_cases hi : i < bs.length
    · rw [bv_take hi, Nat.pow_succ]
      have := h (lim bs i) (by rw [lim_eq hi]; exact List.getElem_mem hi)
      omega
    · rw [List.take_of_length_le (by omega)]
      rw [List.take_of_length_le (by omega)] at ih
      have := Nat.pow_le_pow_right (n := 256) (by decide) (Nat.le_succ i)
      exact Nat.lt_of_lt_of_le ih this
/-- A front part is what is left when the lowest bytes are cut. -/
theorem bv_div {bs : List Nat} (h : ∀ b ∈ bs, b < 256) : ∀ d, d ≤ bs.length → bv bs / 256 ^ d = bv (bs.take (bs.length - d))
  | 0, _ => by rw [Nat.pow_zero, Nat.div_one, Nat.sub_zero, List.take_length]
  | d + 1, hd => by
    rw [Nat.pow_succ, ← Nat.div_div_eq_div_mul, bv_div h d (by omega)]
    have e : bs.length - d = (bs.length - (d + 1)) + 1 := by omega
    have hi : bs.length - (d + 1) < bs.length := by omega
    rw [e, bv_take hi]
    have := h (lim bs (bs.length - (d + 1))) (by rw [lim_eq hi]; exact List.getElem_mem hi)
    omega
theorem bv_dig {bs : List Nat} (h : ∀ b ∈ bs, b < 256) {i : Nat} (hi : i < bs.length) : lim bs i = bv bs / 256 ^ (bs.length - 1 - i) % 256 := by
  rw [bv_div h _ (by omega), show bs.length - (bs.length - 1 - i) = i + 1 by omega, bv_take hi]
  have := h (lim bs i) (by rw [lim_eq hi]; exact List.getElem_mem hi)
  omega
theorem byL_bv {bs : List Nat} (h : ∀ b ∈ bs, b < 256) : bs = byL (bv bs) bs.length := byL_of rfl fun _ hi => bv_dig h hi
theorem bv_ge {bs : List Nat} (h : ∀ b ∈ bs, b < 256) (h0 : lim bs 0 ≠ 0) : 0 < bs.length ∧ 256 ^ (bs.length - 1) ≤ bv bs := by
  have hl : 0 < bs.length := by
    rcases Nat.eq_zero_or_pos bs.length with e | e
    · exact absurd (lim_ge (by omega)) h0
    · exact e
  refine ⟨hl, ?_⟩
  have := bv_dig h hl
  rw [Nat.sub_zero] at this
  rcases Nat.lt_or_ge (bv bs) (256 ^ (bs.length - 1)) with h1 | h1
  · rw [Nat.div_eq_of_lt h1] at this; exact absurd this h0
  · exact h1
/-- As many bytes as the number has. -/
theorem bl_bytes {bs : List Nat} {k : Nat} (h : ∀ b ∈ bs, b < 256) (h0 : bs = [] ∨ lim bs 0 ≠ 0) (hk : IsBl (bv bs) k) : (k + 7) / 8 = bs.length := by
  have hlt := bv_lt h bs.length
  rw [List.take_length, show (256 : Nat) = 2 ^ 8 from rfl, ← Nat.pow_mul] at hlt
  have up : k ≤ 8 * bs.length := by
    rcases hk.2 with e | e
    · omega
    · have := (Nat.pow_lt_pow_iff_right (a := 2) (by decide)).1 (Nat.lt_of_le_of_lt e hlt)
      omega
  rcases h0 with rfl | h0
  · simp at up; subst up; rfl
  · obtain ⟨hl, hge⟩ := bv_ge h h0
    rw [show (256 : Nat) = 2 ^ 8 from rfl, ← Nat.pow_mul] at hge
    have := (Nat.pow_lt_pow_iff_right (a := 2) (by decide)).1 (Nat.lt_of_le_of_lt hge hk.1)
    omega
/-- A word of a number that ends in zero bytes. -/
theorem lim_free {xs : List Nat} (ho : Ok xs) {p : Nat} (h : 256 ^ (p + 1) ∣ val xs) : lim xs (p / 4) % 2 ^ (p % 4 * 8 + 8) = 0 := by
  have e : 256 ^ (p + 1) = pw (p / 4) * 2 ^ (p % 4 * 8 + 8) := by
    rw [pw_two, ← Nat.pow_add, show (256 : Nat) = 2 ^ 8 from rfl, ← Nat.pow_mul]
    congr 1; omega
  obtain ⟨c, hc⟩ := h
  have h1 := val_div_pw ho (p / 4)
  rw [val_drop_step, hc, e, Nat.mul_assoc, Nat.mul_div_cancel_left _ (pw_pos _)] at h1
  generalize val (xs.drop (p / 4 + 1)) = y at *
  generalize lim xs (p / 4) = z at *
  have hr : p % 4 = 0 ∨ p % 4 = 1 ∨ p % 4 = 2 ∨ p % 4 = 3 := by omega
  rcases hr with h | h | h | h <;> rw [h] at h1 ⊢ <;> simp only [Nat.zero_mul, Nat.one_mul, Nat.reduceMul, Nat.reduceAdd, Nat.reducePow, Nat.zero_add] at h1 ⊢ <;> omega
/-- One more byte. -/
theorem val_byte {xs : List Nat} {p b : Nat} (h : p / 4 < xs.length) : val (xs.set (p / 4) (lim xs (p / 4) + b * 2 ^ (p % 4 * 8))) = val xs + b * 256 ^ p := by
  have e : 256 ^ p = pw (p / 4) * 2 ^ (p % 4 * 8) := by
    rw [pw_two, ← Nat.pow_add, show (256 : Nat) = 2 ^ 8 from rfl, ← Nat.pow_mul]
    congr 1; omega
  have h1 := val_set h (lim xs (p / 4) + b * 2 ^ (p % 4 * 8))
  rw [Nat.mul_add] at h1
  rw [e]
  have e2 : b * (pw (p / 4) * 2 ^ (p % 4 * 8)) = pw (p / 4) * (b * 2 ^ (p % 4 * 8)) := by rw [Nat.mul_left_comm]
  omega
theorem or_add {a b k : Nat} (ha : a % 2 ^ k = 0) (hb : b < 2 ^ k) : a ||| b = a + b := by
  have e : a = (a / 2 ^ k) <<< k := by rw [Nat.shiftLeft_eq]; have := Nat.div_add_mod a (2 ^ k); rw [Nat.mul_comm]; omega
  rw [e, Nat.shiftLeft_add_eq_or_of_lt hb]
end Cin
