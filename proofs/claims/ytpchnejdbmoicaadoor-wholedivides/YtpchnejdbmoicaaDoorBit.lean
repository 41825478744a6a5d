/- Plain facts on binary digits: joins, shifts, windows. No program. -/
import Derived.Test.YtpchnejdbmoicaaDoorMem
namespace Cin
open Go Go.RowKit

theorem or_u64 {x y s : Nat} (hy : y < 2 ^ s) (hx : x * 2 ^ s < 18446744073709551616) (hy2 : y < 18446744073709551616) : bits .or .u64 ((x * 2 ^ s : Nat) : Int) (y : Int) = ((x * 2 ^ s + y : Nat) : Int) := by
  rw [u64_or_nat _ _ hx hy2, nat_join s _ _ (Nat.mul_mod_left _ _) hy]
theorem or_u64' {x y s : Nat} (hy : y < 2 ^ s) (hx : x * 2 ^ s < 18446744073709551616) (hy2 : y < 18446744073709551616) : bits .or .u64 (y : Int) ((x * 2 ^ s : Nat) : Int) = ((y + x * 2 ^ s : Nat) : Int) := by
  rw [u64_or_nat _ _ hy2 hx, Nat.or_comm, nat_join s _ _ (Nat.mul_mod_left _ _) hy, Nat.add_comm]
theorem and_mask32 {t : Nat} (h : t < 18446744073709551616) : bits .and .u64 (t : Int) 4294967295 = ((t % 4294967296 : Nat) : Int) := by
  have := u64_and_nat t 4294967295 h (by decide)
  rw [show ((4294967295 : Nat) : Int) = 4294967295 from rfl] at this
  rw [this]
  congr 1
  exact Nat.and_two_pow_sub_one_eq_mod t 32
theorem pow2_le {s t : Nat} (h : s ≤ t) : 2 ^ s ≤ 2 ^ t := Nat.pow_le_pow_right (by decide) h
theorem pow2_pos (s : Nat) : 0 < 2 ^ s := Nat.pow_pos (by decide)

theorem val_div_pw {xs : List Nat} (ho : Ok xs) (i : Nat) : val xs / pw i = val (xs.drop i) := by
  rcases Nat.lt_or_ge xs.length i with h | h
  · rw [List.drop_eq_nil_of_le (by omega), Nat.div_eq_of_lt]
    · rfl
    · exact Nat.lt_of_lt_of_le (val_lt ho) (pw_le (by omega))
  · rw [val_split xs i h, Nat.add_mul_div_left _ _ (pw_pos i), Nat.div_eq_of_lt, Nat.zero_add]
    have := val_lt (ho.take i)
    rwa [List.length_take, Nat.min_eq_left h] at this

theorem val_drop_step (xs : List Nat) (i : Nat) : val (xs.drop i) = lim xs i + 4294967296 * val (xs.drop (i + 1)) := by
  rcases Nat.lt_or_ge i xs.length with h | h
  · rw [drop_lim h, val]
  · rw [List.drop_eq_nil_of_le h, List.drop_eq_nil_of_le (by omega), lim_ge h]; rfl

theorem two_pow_split {s t : Nat} (h : s ≤ t) : 2 ^ t = 2 ^ (t - s) * 2 ^ s := by rw [← Nat.pow_add]; congr 1; omega

theorem pow2_split32 (k : Nat) : 2 ^ k = pw (k / 32) * 2 ^ (k % 32) := by rw [pw_two, ← Nat.pow_add]; congr 1; omega

/-- The 64 binary digits from a place on. -/
theorem window_val {xs : List Nat} (ho : Ok xs) (k : Nat) :
    val xs / 2 ^ k % 18446744073709551616 = (lim xs (k / 32) + lim xs (k / 32 + 1) * 4294967296 + lim xs (k / 32 + 2) * 18446744073709551616) / 2 ^ (k % 32) % 18446744073709551616 := by
  have e : 2 ^ k = pw (k / 32) * 2 ^ (k % 32) := by rw [pw_two, ← Nat.pow_add]; congr 1; omega
  rw [e, ← Nat.div_div_eq_div_mul, val_div_pw ho, val_drop_step, val_drop_step xs (k / 32 + 1), val_drop_step xs (k / 32 + 2)]
  generalize lim xs (k / 32) = a
  generalize lim xs (k / 32 + 1) = b
  generalize lim xs (k / 32 + 2) = c
  generalize val (xs.drop (k / 32 + 2 + 1)) = r
  have hs : k % 32 < 32 := by omega
  generalize k % 32 = s at *
  have h32 : (4294967296 : Nat) = 2 ^ (32 - s) * 2 ^ s := by rw [← two_pow_split (by omega)]
  generalize hp : 2 ^ (32 - s) = p at *
  generalize hq : 2 ^ s = q at *
  have hq0 : 0 < q := hq ▸ pow2_pos s
  have e2 : 79228162514264337593543950336 * r = 18446744073709551616 * (r * p) * q := by
    have : 18446744073709551616 * (r * p) * q = 18446744073709551616 * r * (p * q) := by ac_rfl
    rw [this, ← h32]; omega
  have e5 : a + 4294967296 * (b + 4294967296 * (c + 4294967296 * r)) = (a + b * 4294967296 + c * 18446744073709551616) + 79228162514264337593543950336 * r := by omega
  rw [e5, e2, Nat.add_mul_div_right _ _ hq0, Nat.add_mul_mod_self_left]

/-- One word of what is shifted down. -/
theorem limb_shift {xs : List Nat} (ho : Ok xs) (k s : Nat) (hs : s < 32) :
    val xs / 2 ^ s / pw k % 4294967296 = (lim xs k + lim xs (k + 1) * 4294967296) / 2 ^ s % 4294967296 := by
  rw [Nat.div_div_eq_div_mul, Nat.mul_comm, ← Nat.div_div_eq_div_mul, val_div_pw ho, val_drop_step, val_drop_step xs (k + 1)]
  generalize lim xs k = a
  generalize lim xs (k + 1) = b
  generalize val (xs.drop (k + 1 + 1)) = r
  have h32 : (4294967296 : Nat) = 2 ^ (32 - s) * 2 ^ s := by rw [← two_pow_split (by omega)]
  generalize hp : 2 ^ (32 - s) = p at *
  generalize hq : 2 ^ s = q at *
  have hq0 : 0 < q := hq ▸ pow2_pos s
  have e2 : 18446744073709551616 * r = 4294967296 * (r * p) * q := by
    have : 4294967296 * (r * p) * q = 4294967296 * r * (p * q) := by ac_rfl
    rw [this, ← h32]; omega
  have e5 : a + 4294967296 * (b + 4294967296 * r) = (a + b * 4294967296) + 18446744073709551616 * r := by omega
  rw [e5, e2, Nat.add_mul_div_right _ _ hq0, Nat.add_mul_mod_self_left]

/-- The lowest k words, and the next one. -/
theorem mod_pw_succ (T k : Nat) : T % pw (k + 1) = T % pw k + pw k * (T / pw k % 4294967296) := by
  rw [pw_succ, Nat.mul_comm 4294967296, Nat.mod_mul]

theorem window_bits {a b c s : Nat} (ha : a < 4294967296) (hb : b < 4294967296) (hs : s < 32) :
    bits .or .u64 (bits .or .u64 (a : Int) ((b : Int) * 4294967296) / 2 ^ s) (IntKind.u64.wrap ((c : Int) * 2 ^ (64 - s))) =
      (((a + b * 4294967296 + c * 18446744073709551616) / 2 ^ s % 18446744073709551616 : Nat) : Int) := by
  have e1 : bits .or .u64 (a : Int) ((b : Int) * 4294967296) = ((a + b * 4294967296 : Nat) : Int) := by
    have := or_u64' (x := b) (y := a) (s := 32) (by omega) (by omega) (by omega)
    simpa using this
  have e2 : (((a + b * 4294967296 : Nat) : Int) / 2 ^ s) = (((a + b * 4294967296) / 2 ^ s : Nat) : Int) := by simp
  have hl : a + b * 4294967296 < 2 ^ (64 - s) * 2 ^ s := by rw [← two_pow_split (by omega)]; omega
  have hd : (a + b * 4294967296) / 2 ^ s < 2 ^ (64 - s) := by rw [Nat.div_lt_iff_lt_mul (pow2_pos s)]; exact hl
  have hsp := two_pow_split (s := 64 - s) (t := 64) (by omega)
  rw [show 64 - (64 - s) = s by omega] at hsp
  have e3 : IntKind.u64.wrap ((c : Int) * 2 ^ (64 - s)) = ((c % 2 ^ s * 2 ^ (64 - s) : Nat) : Int) := by
    rw [IntKind.wrap_u64, show ((c : Int) * 2 ^ (64 - s)) = ((c * 2 ^ (64 - s) : Nat) : Int) by simp, ← Nat.mul_mod_mul_right, ← hsp]
    omega
  have hm := Nat.mod_lt c (pow2_pos s)
  have h1 : (c % 2 ^ s + 1) * 2 ^ (64 - s) ≤ 2 ^ s * 2 ^ (64 - s) := Nat.mul_le_mul_right _ hm
  rw [Nat.add_mul, ← hsp] at h1
  have h64 : (2 : Nat) ^ 64 = 18446744073709551616 := by decide
  rw [h64] at h1 hsp
  have hp0 := pow2_pos (64 - s)
  rw [e1, e2, e3, or_u64' hd (by omega) (by omega)]
  have e4 : a + b * 4294967296 + c * 18446744073709551616 = a + b * 4294967296 + (c * 2 ^ (64 - s)) * 2 ^ s := by
    rw [Nat.mul_assoc, ← two_pow_split (by omega), h64]
  rw [e4, Nat.add_mul_div_right _ _ (pow2_pos s)]
  have e5 : c * 2 ^ (64 - s) = c % 2 ^ s * 2 ^ (64 - s) + 18446744073709551616 * (c / 2 ^ s) := by
    conv => lhs; rw [← Nat.div_add_mod c (2 ^ s), Nat.add_mul, Nat.mul_comm (2 ^ s) (c / 2 ^ s), Nat.mul_assoc, ← hsp]
    omega
  have e6 : ((a + b * 4294967296) / 2 ^ s + c * 2 ^ (64 - s)) % 18446744073709551616 = (a + b * 4294967296) / 2 ^ s + c % 2 ^ s * 2 ^ (64 - s) := by
    rw [e5, ← Nat.add_assoc, Nat.add_mul_mod_self_left]
    exact Nat.mod_eq_of_lt (by omega)
  rw [e6]

end Cin
