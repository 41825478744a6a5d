/- Decimal digits of a number, by ones and by groups of nine. No program. -/
import Derived.Test.YtpchnejdbmoicaaDoorDec
import Derived.Lib.ItoaNum
namespace Cin
open Go

/-- A number's text. -/
def decS (n : Nat) : ByteArray := ⟨(Lib.decDigits n).toArray⟩
/-- Its digits, none for 0. -/
def dd (n : Nat) : List UInt8 := if n = 0 then [] else Lib.decDigits n
theorem dd_zero : dd 0 = [] := if_pos rfl
theorem dd_pos {n : Nat} (h : n ≠ 0) : dd n = Lib.decDigits n := if_neg h
theorem dec_small {n : Nat} (h : n < 10) : Lib.decDigits n = [UInt8.ofNat (48 + n)] := by rw [Lib.decDigits, dif_pos h]
theorem dec_big {n : Nat} (h : ¬ n < 10) : Lib.decDigits n = Lib.decDigits (n / 10) ++ [UInt8.ofNat (48 + n % 10)] := by rw [Lib.decDigits, dif_neg h]
theorem dd_step {n : Nat} (h : n ≠ 0) : dd n = dd (n / 10) ++ [UInt8.ofNat (48 + n % 10)] := by
  rw [dd_pos h]
  by_cases h1 : n < 10
  · rw [dec_small h1, show n / 10 = 0 by omega, dd_zero, Nat.mod_eq_of_lt h1]; rfl
  · rw [dec_big h1, dd_pos (show n / 10 ≠ 0 by omega)]
theorem dec_ten {q r : Nat} (hq : q ≠ 0) (hr : r < 10) : Lib.decDigits (q * 10 + r) = Lib.decDigits q ++ [UInt8.ofNat (48 + r)] := by
  rw [dec_big (by omega), show (q * 10 + r) / 10 = q by omega, show (q * 10 + r) % 10 = r by omega]

/-- The digits of r with noughts ahead, k together. -/
def padk (k r : Nat) : List UInt8 := List.replicate (k - (Lib.decDigits r).length) 48 ++ Lib.decDigits r
theorem padk_one {r : Nat} (h : r < 10) : padk 1 r = [UInt8.ofNat (48 + r)] := by unfold padk; rw [dec_small h]; rfl
theorem padk_succ {k r : Nat} (hk : 1 ≤ k) : padk (k + 1) r = padk k (r / 10) ++ [UInt8.ofNat (48 + r % 10)] := by
  unfold padk
  by_cases h : r < 10
  · rw [dec_small h, show r / 10 = 0 by omega, dec_small (show 0 < 10 by decide), Nat.mod_eq_of_lt h]
    simp only [List.length_singleton, Nat.add_sub_cancel]
    rw [List.append_assoc]
    show _ = List.replicate (k - 1) 48 ++ ([48] ++ [_])
    rw [← List.append_assoc, ← List.replicate_one (a := (48 : UInt8)), List.replicate_append_replicate, show k - 1 + 1 = k by omega]
  · rw [dec_big h, List.length_append, List.length_singleton, Nat.add_sub_add_right, List.append_assoc]
/-- A number out of a higher part and k digits below. -/
theorem dec_group {q : Nat} (hq : q ≠ 0) : ∀ (k r : Nat), 1 ≤ k → r < 10 ^ k → Lib.decDigits (q * 10 ^ k + r) = Lib.decDigits q ++ padk k r
  | 0, _, h, _ => by omega
  | 1, r, _, h => by rw [padk_one (by simpa using h), Nat.pow_one, dec_ten hq (by simpa using h)]
  | k + 2, r, _, h => by
    have hp : 10 ^ (k + 2) = 10 ^ (k + 1) * 10 := Nat.pow_succ ..
    rw [hp] at h ⊢
    have hpos : 0 < 10 ^ (k + 1) := Nat.pow_pos (by decide)
    have hq10 : 10 ≤ q * (10 ^ (k + 1) * 10) := by
      have : 1 * 1 ≤ q * 10 ^ (k + 1) := Nat.mul_le_mul (by omega) hpos
      rw [← Nat.mul_assoc]; omega
    rw [dec_big (by omega), padk_succ (by omega), ← List.append_assoc, ← dec_group hq (k + 1) (r / 10) (by omega) (by omega), ← Nat.mul_assoc]
    rw [show (q * 10 ^ (k + 1) * 10 + r) / 10 = q * 10 ^ (k + 1) + r / 10 by omega, show (q * 10 ^ (k + 1) * 10 + r) % 10 = r % 10 by omega]

theorem list_snoc {l : List Nat} (h : l ≠ []) : ∃ l' c, l = l' ++ [c] := ⟨l.dropLast, l.getLast h, (List.dropLast_concat_getLast h).symm⟩
theorem decL_pos {l : List Nat} (h : Digs l) (hl : l ≠ []) (h0 : lim l 0 ≠ 48) : decL l ≠ 0 := by
  cases l with
  | nil => exact absurd rfl hl
  | cons c l =>
    rw [decL_cons]
    have h1 := h c (by simp)
    have h2 : c ≠ 48 := h0
    have : 1 * 1 ≤ (c - 48) * 10 ^ l.length := Nat.mul_le_mul (by omega) (Nat.pow_pos (by decide))
    omega
/-- The text of the number whose digits these are. -/
theorem dec_decL : ∀ (n : Nat) (l : List Nat), l.length = n → Digs l → l ≠ [] → (l.length = 1 ∨ lim l 0 ≠ 48) → Lib.decDigits (decL l) = l.map UInt8.ofNat
  | 0, l, hn, _, hl, _ => absurd (List.length_eq_zero_iff.1 hn) hl
  | n + 1, l, hn, hd, hl, h0 => by
    obtain ⟨l', c, rfl⟩ := list_snoc hl
    have hc := hd c (by simp)
    have hd' : Digs l' := fun x hx => hd x (by simp [hx])
    rw [decL_snoc]
    by_cases he : l' = []
    · subst he
      rw [decL_nil, Nat.zero_mul, Nat.zero_add, dec_small (by omega), show 48 + (c - 48) = c by omega]; rfl
    · have hlen : l'.length = n := by simpa using hn
      have hp : 0 < l'.length := List.length_pos_iff.2 he
      have hh : lim l' 0 ≠ 48 := by
        rcases h0 with h | h
        · rw [List.length_append, List.length_singleton] at h; omega
        · rwa [lim_append_left hp] at h
      rw [dec_ten (decL_pos hd' he hh) (by omega), dec_decL n l' hlen hd' he (.inr hh), List.map_append, show 48 + (c - 48) = c by omega]; rfl
theorem byts_map (s : ByteArray) : (byts s).map UInt8.ofNat = s.data.toList := by
  unfold byts
  rw [List.map_map]
  conv => rhs; rw [← List.map_id s.data.toList]
  exact List.map_congr_left fun x _ => by simp
/-- A number's text is the text that it was read from. -/
theorem decS_decL {s : ByteArray} (h : IsNum (byts s)) : decS (decL (byts s)) = s := by
  unfold decS
  rw [dec_decL _ _ rfl h.2.2.2 (fun e => by have := h.1; rw [e] at this; simp at this) h.2.2.1, byts_map]
/-- Unlike numbers have unlike texts. -/
theorem byts_decS (n : Nat) : byts (decS n) = (Lib.decDigits n).map UInt8.toNat := rfl
theorem decL_dec (n : Nat) : decL ((Lib.decDigits n).map UInt8.toNat) = n := by
  induction n using Nat.strongRecOn with
  | _ n ih =>
    by_cases h : n < 10
    · rw [dec_small h]
      show decL [(UInt8.ofNat (48 + n)).toNat] = n
      rw [UInt8.toNat_ofNat', Nat.mod_eq_of_lt (by omega)]
      show 0 * 10 + (48 + n - 48) = n
      omega
    · rw [dec_big h, List.map_append, List.map_singleton, decL_snoc, ih (n / 10) (by omega), UInt8.toNat_ofNat', Nat.mod_eq_of_lt (by omega)]
      omega

theorem dec_len : ∀ (m n : Nat), 1 ≤ m → n < 10 ^ m → (Lib.decDigits n).length ≤ m
  | 0, _, h, _ => by omega
  | 1, n, _, h => by rw [dec_small (by simpa using h)]; simp
  | m + 2, n, _, h => by
    by_cases h1 : n < 10
    · rw [dec_small h1]; simp
    · rw [dec_big h1, List.length_append, List.length_singleton]
      have := dec_len (m + 1) (n / 10) (by omega) (by rw [Nat.pow_succ] at h; omega)
      omega
theorem pw_ten (k : Nat) : pw k ≤ 10 ^ (10 * k) := by
  unfold pw; rw [Nat.pow_mul]; exact Nat.pow_le_pow_left (by decide) k
theorem dec_len_pw {n k : Nat} (h : n < pw k) : (Lib.decDigits n).length ≤ 10 * k + 1 :=
  dec_len (10 * k + 1) n (by omega) (Nat.lt_of_lt_of_le h (Nat.le_trans (pw_ten k) (Nat.pow_le_pow_right (by decide) (by omega))))
theorem minus_append (l : List UInt8) : (⟨#[45]⟩ : ByteArray) ++ ⟨l.toArray⟩ = ⟨(45 :: l).toArray⟩ := by
  apply ByteArray.ext
  simp
/-- A whole number's text. -/
def intS (z : Int) : ByteArray := ⟨((if z < 0 then [45] else []) ++ Lib.decDigits z.natAbs).toArray⟩
theorem intS_neg {z : Int} (h : z < 0) : intS z = (⟨#[45]⟩ : ByteArray) ++ decS z.natAbs := by unfold intS decS; rw [if_pos h, minus_append]; rfl
theorem intS_pos {z : Int} (h : ¬ z < 0) : intS z = decS z.natAbs := by unfold intS decS; rw [if_neg h]; rfl

end Cin
