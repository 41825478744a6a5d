/- Texts as bytes, numbers as decimal digits. No program. -/
import Derived.Test.YtpchnejdbmoicaaDoorOwn
namespace Cin
open Go Go.RowKit

/-- The bytes of a text as numbers. -/
def byts (s : ByteArray) : List Nat := s.data.toList.map UInt8.toNat
theorem byts_length (s : ByteArray) : (byts s).length = s.size := by unfold byts; rw [List.length_map, Array.length_toList]; rfl
theorem byts_at (s : ByteArray) {i : Nat} (h : i < s.size) : (s[i]'h).toNat = lim (byts s) i := by
  rw [lim_eq (by rw [byts_length]; exact h)]
  simp only [byts, List.getElem_map]
  rfl
theorem byts_lt (s : ByteArray) (i : Nat) : lim (byts s) i < 256 := by
  rcases Nat.lt_or_ge i s.size with h | h
  · rw [← byts_at s h]; exact UInt8.toNat_lt _
  · rw [lim_ge (by rw [byts_length]; exact h)]; decide
theorem byts_extract (s : ByteArray) (a b : Nat) : byts (s.extract a b) = ((byts s).drop a).take (b - a) := by
  simp only [byts, ByteArray.data_extract, Array.toList_extract]
  simp [List.map_take, List.map_drop, List.extract_eq_take_drop]

/-- The number that digits stand for. -/
def decL (l : List Nat) : Nat := l.foldl (fun a c => a * 10 + (c - 48)) 0
/-- Only digits. -/
def Digs (l : List Nat) : Prop := ∀ c ∈ l, 48 ≤ c ∧ c ≤ 57

theorem decL_foldl (l : List Nat) (x : Nat) : l.foldl (fun a c => a * 10 + (c - 48)) x = x * 10 ^ l.length + decL l := by
  induction l generalizing x with
  | nil => simp [decL]
  | cons c l ih =>
    unfold decL
    rw [List.foldl_cons, List.foldl_cons, ih, ih (0 * 10 + (c - 48)), List.length_cons, Nat.pow_succ]
    have e : (x * 10 + (c - 48)) * 10 ^ l.length = x * (10 ^ l.length * 10) + (c - 48) * 10 ^ l.length := by rw [Nat.add_mul, Nat.mul_assoc, Nat.mul_comm 10]
    rw [e]; simp only [Nat.zero_mul, Nat.zero_add]; omega
theorem decL_append (l m : List Nat) : decL (l ++ m) = decL l * 10 ^ m.length + decL m := by
  conv => lhs; unfold decL; rw [List.foldl_append, decL_foldl]
  rfl
theorem decL_snoc (l : List Nat) (c : Nat) : decL (l ++ [c]) = decL l * 10 + (c - 48) := by
  rw [decL_append, List.length_singleton, Nat.pow_one]; simp [decL]
theorem decL_nil : decL [] = 0 := rfl
theorem decL_take_succ {l : List Nat} {i : Nat} (h : i < l.length) : decL (l.take (i + 1)) = decL (l.take i) * 10 + (lim l i - 48) := by
  rw [take_succ_lim h, decL_snoc]
theorem Digs.lim {l : List Nat} (h : Digs l) {i : Nat} (hi : i < l.length) : 48 ≤ Cin.lim l i ∧ Cin.lim l i ≤ 57 := by
  rw [lim_eq hi]; exact h _ (List.getElem_mem _)
theorem decL_cons (c : Nat) (l : List Nat) : decL (c :: l) = (c - 48) * 10 ^ l.length + decL l := by
  have := decL_append [c] l
  rw [List.singleton_append] at this
  rw [this]
  show (0 * 10 + (c - 48)) * _ + _ = _
  rw [Nat.zero_mul, Nat.zero_add]
theorem decL_lt : ∀ {l : List Nat}, Digs l → decL l < 10 ^ l.length
  | [], _ => by simp [decL]
  | c :: l, h => by
    have h1 := decL_lt (fun x hx => h x (by simp [hx]) : Digs l)
    have h2 := h c (by simp)
    rw [decL_cons, List.length_cons, Nat.pow_succ]
    have : (c - 48) * 10 ^ l.length ≤ 9 * 10 ^ l.length := Nat.mul_le_mul_right _ (by omega)
    omega

theorem ten_lt : 10 ^ 200 < pw 21 := by decide
/-- A number of at most 200 digits. -/
theorem decL_lt_pw {l : List Nat} (h : Digs l) (hl : l.length ≤ 200) : decL l < pw 21 :=
  Nat.lt_of_lt_of_le (decL_lt h) (Nat.le_trans (Nat.pow_le_pow_right (by decide) hl) (Nat.le_of_lt ten_lt))

/-- A text that is a number: 1 to 4000 digits, no nought ahead. -/
def IsNum (l : List Nat) : Prop := 1 ≤ l.length ∧ l.length ≤ 4000 ∧ (l.length = 1 ∨ lim l 0 ≠ 48) ∧ Digs l

end Cin
