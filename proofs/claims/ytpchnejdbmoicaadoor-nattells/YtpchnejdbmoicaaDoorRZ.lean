/- The contracts of the document's Bit and Zeros. -/
import Derived.Test.YtpchnejdbmoicaaDoorYp
namespace Cin
open Go Go.RowKit
theorem lim_bit {xs : List Nat} (ho : Ok xs) (i : Nat) : lim xs (i / 32) / 2 ^ (i % 32) % 2 = val xs / 2 ^ i % 2 := by
  rw [pow2_split32 i, ← Nat.div_div_eq_div_mul, val_div_pw ho, val_drop_step]
  generalize val (xs.drop (i / 32 + 1)) = y
  generalize lim xs (i / 32) = z
  have ht : i % 32 < 32 := Nat.mod_lt _ (by decide)
  generalize i % 32 = t at *
  have e : 4294967296 = 2 ^ t * (2 * 2 ^ (31 - t)) := by
    rw [← Nat.mul_assoc, Nat.mul_comm (2 ^ t) 2, Nat.mul_assoc, ← Nat.pow_add, show t + (31 - t) = 31 by omega]
  rw [e, Nat.mul_assoc, Nat.add_mul_div_left _ _ (Nat.pow_pos (by decide)), Nat.mul_assoc, Nat.add_mul_mod_self_left]
theorem tz_more {x i : Nat} (h : 2 ^ i ∣ x) (hb : x / 2 ^ i % 2 = 0) : 2 ^ (i + 1) ∣ x := by
  obtain ⟨c, rfl⟩ := h
  rw [Nat.mul_div_cancel_left _ (Nat.pow_pos (by decide))] at hb
  rw [Nat.pow_succ]
  exact Nat.mul_dvd_mul_left _ (Nat.dvd_of_mod_eq_zero hb)
theorem tz_end {x i : Nat} (h : 2 ^ i ∣ x) (hb : x / 2 ^ i % 2 ≠ 0) : IsTz x i := by
  obtain ⟨c, rfl⟩ := h
  rw [Nat.mul_div_cancel_left _ (Nat.pow_pos (by decide))] at hb
  exact .inr ⟨c / 2, by congr 1; omega⟩
theorem tz_zero {xs : List Nat} (ho : Ok xs) (hn : Norm xs) (h : 2 ^ (32 * xs.length) ∣ val xs) : IsTz (val xs) (32 * xs.length) := by
  have hl := val_lt ho
  rw [pw_two] at hl
  have h0 := Nat.eq_zero_of_dvd_of_lt h hl
  have e : xs = [] := by
    rcases hn with e | e
    · exact e
    · exfalso
      rcases Nat.eq_zero_or_pos xs.length with h1 | h1
      · have := List.length_eq_zero_iff.1 h1
        subst this
        exact e rfl
      · have h2 := val_ge (.inr e) (fun h => by subst h; simp at h1)
        have := pw_pos (xs.length - 1)
        omega
  subst e
  exact .inl ⟨rfl, rfl⟩
end Cin
namespace Go.Proofs.YtpchnejdbmoicaaDoor
open Go.RowKit Cin

set_option maxRecDepth 100000 in
set_option maxHeartbeats 1000000 in
/-- Bit: one binary digit. -/
theorem rbit_any (v : Value) (xs : List Nat) (i : Nat) (w : World) (hs : Sl 68 .u32 w v xs) (ho : Ok xs) (hi : i < 32 * xs.length) (hl : xs.length ≤ 1000000) :
    Calls Tryd.prog 56 #[v, .int .i64 i] w fun e w' => e = .returned (.int .u32 (val xs / 2 ^ i % 2 : Nat)) ∧ w' = w := by
  obtain ⟨ad, cap, rfl, hc, _⟩ := hs.shape
  obtain ⟨len, hn⟩ : ∃ n : Nat, xs.length = n := ⟨_, rfl⟩
  obtain ⟨q, eq, eq'⟩ : ∃ q : Nat, (i : Int) / 32 = (q : Int) ∧ q = i / 32 := ⟨i / 32, by omega, rfl⟩
  obtain ⟨t, et, et'⟩ : ∃ t : Nat, (i : Int) % 32 = (t : Int) ∧ t = i % 32 := ⟨i % 32, by omega, rfl⟩
  obtain ⟨bk, off, rfl, hcell, hblt⟩ := hs.cell (i := q) (by omega)
  have hlim := lim_lt ho q
  obtain ⟨y, ey, ey'⟩ : ∃ y : Nat, ((lim xs q : Nat) : Int) / 2 ^ t = (y : Int) ∧ y = lim xs q / 2 ^ t := ⟨lim xs q / 2 ^ t, by simp, rfl⟩
  have hy : y < 4294967296 := by have := Nat.div_le_self (lim xs q) (2 ^ t); omega
  have hand : bits BinOp.and IntKind.u32 (y : Int) 1 = ((y % 2 : Nat) : Int) := by
    have := u32_and_nat y 1 hy (by decide)
    rw [show ((1 : Nat) : Int) = 1 from rfl] at this
    rw [this, Nat.and_one_is_mod]
  have HE := Lib.hid (show y % 2 = val xs / 2 ^ i % 2 by rw [← lim_bit ho i, ey', eq', et'])
  obtain ⟨z, ez⟩ : ∃ z : Nat, y % 2 = z := ⟨_, rfl⟩
  rw [ez] at hand
  rw [hn] at hc hi hl ⊢
  have EZ := Lib.hid ez
  have hq : q < len := by omega
  have ht : t < 32 := by omega
  have d0 : decide ((i : Int) < 0) = false := by rw [decide_eq_false_iff_not]; omega
  have d1 : decide ((len : Int) ≤ (q : Int)) = false := by rw [decide_eq_false_iff_not]; omega
  clear hs ho hn eq' et' ey' ez
  go_enter Tryd.func56, Tryd.ntmps56
  go_wp2
  go_ret
  exact ⟨ret_int (by rw [← HE.out, EZ.out]), rfl⟩

set_option maxRecDepth 100000 in
set_option maxHeartbeats 1000000 in
/-- Zeros: how often 2 goes into it. -/
theorem rzeros_any (v : Value) (x k : Nat) (w : World) (h : RefB w v x k) (hk : k ≤ 1000000) :
    Calls Tryd.prog 18 #[v] w fun e w' => ∃ c : Nat, e = .returned (.int .i64 c) ∧ IsTz x c ∧ Below w.heap.size w w' := by
  obtain ⟨⟨xs, hs, ho, hnm, hval⟩, hx⟩ := h
  have HS0 := Lib.hid hs
  obtain ⟨ad, cap, rfl, hc, _⟩ := hs.shape
  have hl : xs.length ≤ k := norm_len hnm (by rw [hval]; exact hx)
  obtain ⟨len, hn⟩ : ∃ n : Nat, xs.length = n := ⟨_, rfl⟩
  have HN := Lib.hid hn
  rw [hn] at hl hc HS0 ⊢
  have HM := Lib.hid hnm
  have HV := Lib.hid hval
  have HO := Lib.hid ho
  have e32 : IntKind.i64.wrap (32 * (len : Int)) = ((32 * len : Nat) : Int) := by rw [IntWalk.i64_in _ (by omega)]; omega
  obtain ⟨m, em⟩ : ∃ m : Nat, 32 * len = m := ⟨_, rfl⟩
  rw [em] at e32
  have EM := Lib.hid em
  have hmb : m ≤ 32000000 := by omega
  have e33 : 32 * (len : Int) = (m : Int) := by omega
  clear hs hnm hval hx hn ho em
  go_enter Tryd.func18, Tryd.ntmps18
  go_wp2_with fail
  go_loopw [3] (fun cx wr => ∃ j : Nat, j ≤ m ∧ cx = .int .i64 j ∧ Hid (2 ^ j ∣ val xs) ∧ wr = w) (fun cx _ => m - (intOf cx).toNat)
  case atStart => exact ⟨0, Nat.zero_le _, rfl, Lib.hid (Nat.one_dvd _), rfl⟩
  case round =>
    obtain ⟨j, hj, rfl, HD, rfl⟩ := hrel
    by_cases hlt : j < m
    · have d0 : decide ((j : Int) < (m : Int)) = true := by rw [decide_eq_true_iff]; omega
      go_wp2_with fail
      refine (rbit_any _ xs j _ HS0.out HO.out (by have := EM.out; have := HN.out; omega) (by have := HN.out; omega)).mono ?_
      rintro e w1 ⟨rfl, rfl⟩
      by_cases hb : val xs / 2 ^ j % 2 = 0
      · have HB := Lib.hid (tz_more HD.out hb)
        rw [hb]
        clear hb
        have w1' : IntKind.i64.wrap ((j : Int) + 1) = (j : Int) + 1 := IntWalk.i64_in _ (by omega)
        go_wp2_with fail
        exact ⟨⟨j + 1, by omega, by go_num, HB, trivial⟩, by simp [intOf]; omega⟩
      · have hb1 : val xs / 2 ^ j % 2 = 1 := by omega
        have HB := Lib.hid (tz_end HD.out hb)
        rw [hb1]
        clear hb hb1
        go_wp2_with fail
        go_ret
        exact ⟨j, rfl, by have := HB.out; rwa [HV.out] at this, Below.refl _ _⟩
    · obtain rfl : m = j := by omega
      have HB := Lib.hid (tz_zero HO.out HM.out (by rw [HN.out, EM.out]; exact HD.out))
      have d0 : decide ((m : Int) < (m : Int)) = false := by simp
      go_wp2_with fail
      go_ret
      exact ⟨m, rfl, by have := HB.out; rwa [HV.out, HN.out, EM.out] at this, Below.refl _ _⟩

end Go.Proofs.YtpchnejdbmoicaaDoor
