/- Contracts of package dyad: New, Of, Rat, Parts, Cmp, Parse, Text. -/
import Derived.Test.YtkekgmdofgkbcaaGreatDoorYw
import Derived.Test.YtkekgmdofgkbcaaGreatDoorYv
import Derived.Test.YtkekgmdofgkbcaaGreatDoorYu
import Derived.Test.YtkekgmdofgkbcaaGreatDoorYn
import Derived.Test.YtkekgmdofgkbcaaGreatDoorYr
import Derived.Test.YtkekgmdofgkbcaaGreatDoorYj
import Derived.Test.YtkekgmdofgkbcaaGreatDoorYg
namespace Go.Proofs.YtkekgmdofgkbcaaGreatDoor
open Go.RowKit Cin
theorem den_lt {w : World} {a b c d : Value} {q : Rat} {k : Nat} (h : QB w a b c d q k) : q.den < pw k := h.2.2
theorem yof_yes (v : Value) (q : Rat) (k : Nat) (w : World) (hT : Tabs w) (h : RatB w v q k) (hk : k ≤ 8000) (hq : DyOk q) :
    Calls Tryz.prog 133 #[v] w fun r w' => ∃ v', r = .returned (.tuple #[v', .bool true]) ∧ DyB w' v' q k (64 * k) ∧ Below w.heap.size w w' := by
  obtain ⟨a, b, c, d, rfl, h⟩ := h
  have hd := den_lt h
  have htz := tz_pw hd
  have hbl := bl_pw hd
  refine go (fun w => QB w a b c d q k) [[a, b, c, d]] [some 4] (tr := (.em (.call 176 [.g [.c 0 0, .c 0 1, .c 0 2, .c 0 3]] [some 2]) (.em (.call 130 [.g [.c 1 0, .c 1 1]] [some 1]) (.em (.call 177 [.g [.c 2 0]] [none]) (.em (.pr (.binOp .add 3 (.tmp 0) (.const (.int .i64 1)) 3) 3 [.s (.c 3 0), .s (.k (.int .i64 1))]) (.em (.call 178 [.g [.c 2 0]] [none]) (.em (.pr (.binOp .neq 3 (.tmp 0) (.tmp 1) 3) 4 [.s (.c 4 0), .s (.c 5 0)]) (.cond (.c 6 0) (.ret (.t [.g [.k (.bool false), .k (.slice none 0 0), .k (.int .i64 0)], .s (.k (.bool false))])) (.em (.call 180 [.g [.c 0 0, .c 0 1, .c 0 2, .c 0 3]] [some 2]) (.em (.call 177 [.g [.c 2 0]] [none]) (.em (.pr (.unOp .neg 3 (.tmp 0)) 3 [.s (.c 8 0)]) (.em (.call 179 [.g [.c 7 0, .c 7 1], .s (.c 9 0)] [some 3]) (.ret (.t [.g [.c 10 0, .c 10 1, .c 10 2], .s (.k (.bool true))])))))))))))))) (by kernel_rfl) (by kernel_rfl) (by kernel_rfl) (mQ _ _ _ _ _ _) h ⟨qpl h, trivial⟩ ?_
  refine wInt hU (fun w b h => qden_any _ q k w ⟨_, _, _, _, rfl, h⟩ (by omega)) (fun x1 y1 => ?_)
  refine wNat hU (n := q.den) (m := k) (fun w b ⟨h1, _⟩ => by have := abs_any _ _ k w h1 (by omega); rwa [Int.natAbs_natCast] at this) (fun x2 => ?_)
  refine wVal (fun w b ⟨h2, _⟩ => zerosI _ q.den k w (hT.below b) h2 (by omega)) rfl ?_
  refine wPr (prAddI rfl rfl (by show _ ≤ _ + (1 : Int); omega) (by show _ + (1 : Int) ≤ _; omega)) rfl ?_
  refine wVal (fun w b ⟨h2, _⟩ => bitsI _ q.den k w h2 (by omega)) rfl ?_
  refine wPr (prNe rfl rfl) rfl ?_
  refine wFalse (by have := hq; unfold DyOk at this; show Value.bool (((tzOf q.den : Nat) : Int) + 1 != ((blOf q.den : Nat) : Int)) = _; rw [← this]; simp) ?_
  refine wInt hU (fun w b ⟨_, _, h⟩ => qnum_any _ q k w ⟨_, _, _, _, rfl, h⟩ (by omega)) (fun x3 y3 => ?_)
  refine wVal (fun w b ⟨_, h2, _⟩ => zerosI _ q.den k w (hT.below b) h2 (by omega)) rfl ?_
  refine wPr (prNegI rfl (by omega) (by omega)) rfl ?_
  refine wDy (q := q) (fun w b ⟨h3, _⟩ => by
    have := strip_any _ q.num (-(tzOf q.den : Int)) k (32 * k) w (hT.below b) h3 (by omega) (by omega) (by omega) (by omega)
    rw [hq.val, show 32 * k + 32 * k = 64 * k by omega] at this
    exact this) (fun x4 y4 => ?_)
  exact wRet fun w b ⟨h, _⟩ => ⟨_, rfl, ⟨_, _, rfl, h⟩, b⟩
theorem yof_no (v : Value) (q : Rat) (k : Nat) (w : World) (hT : Tabs w) (h : RatB w v q k) (hk : k ≤ 8000) (hq : ¬ DyOk q) :
    Calls Tryz.prog 133 #[v] w fun r w' => r = .returned (.tuple #[.agg #[.bool false, .slice none 0 0, .int .i64 0], .bool false]) ∧ Below w.heap.size w w' := by
  obtain ⟨a, b, c, d, rfl, h⟩ := h
  have hd := den_lt h
  have htz := tz_pw hd
  have hbl := bl_pw hd
  refine go (fun w => QB w a b c d q k) [[a, b, c, d]] [some 4] (tr := (.em (.call 176 [.g [.c 0 0, .c 0 1, .c 0 2, .c 0 3]] [some 2]) (.em (.call 130 [.g [.c 1 0, .c 1 1]] [some 1]) (.em (.call 177 [.g [.c 2 0]] [none]) (.em (.pr (.binOp .add 3 (.tmp 0) (.const (.int .i64 1)) 3) 3 [.s (.c 3 0), .s (.k (.int .i64 1))]) (.em (.call 178 [.g [.c 2 0]] [none]) (.em (.pr (.binOp .neq 3 (.tmp 0) (.tmp 1) 3) 4 [.s (.c 4 0), .s (.c 5 0)]) (.cond (.c 6 0) (.ret (.t [.g [.k (.bool false), .k (.slice none 0 0), .k (.int .i64 0)], .s (.k (.bool false))])) (.em (.call 180 [.g [.c 0 0, .c 0 1, .c 0 2, .c 0 3]] [some 2]) (.em (.call 177 [.g [.c 2 0]] [none]) (.em (.pr (.unOp .neg 3 (.tmp 0)) 3 [.s (.c 8 0)]) (.em (.call 179 [.g [.c 7 0, .c 7 1], .s (.c 9 0)] [some 3]) (.ret (.t [.g [.c 10 0, .c 10 1, .c 10 2], .s (.k (.bool true))])))))))))))))) (by kernel_rfl) (by kernel_rfl) (by kernel_rfl) (mQ _ _ _ _ _ _) h ⟨qpl h, trivial⟩ ?_
  refine wInt hU (fun w b h => qden_any _ q k w ⟨_, _, _, _, rfl, h⟩ (by omega)) (fun x1 y1 => ?_)
  refine wNat hU (n := q.den) (m := k) (fun w b ⟨h1, _⟩ => by have := abs_any _ _ k w h1 (by omega); rwa [Int.natAbs_natCast] at this) (fun x2 => ?_)
  refine wVal (fun w b ⟨h2, _⟩ => zerosI _ q.den k w (hT.below b) h2 (by omega)) rfl ?_
  refine wPr (prAddI rfl rfl (by show _ ≤ _ + (1 : Int); omega) (by show _ + (1 : Int) ≤ _; omega)) rfl ?_
  refine wVal (fun w b ⟨h2, _⟩ => bitsI _ q.den k w h2 (by omega)) rfl ?_
  refine wPr (prNe rfl rfl) rfl ?_
  refine wTrue (by unfold DyOk at hq; show Value.bool (((tzOf q.den : Nat) : Int) + 1 != ((blOf q.den : Nat) : Int)) = _; simp; omega) ?_
  exact wRet fun w b _ => ⟨rfl, b⟩
end Go.Proofs.YtkekgmdofgkbcaaGreatDoor

namespace Cin
open Go Go.RowKit
theorem lim_bit {xs : List Nat} (ho : Ok xs) (i : Nat) : lim xs (i / 32) / 2 ^ (i % 32) % 2 = val xs / 2 ^ i % 2 := by
  rw [pow2_split32 i, ← Nat.div_div_eq_div_mul, val_div_pw ho, val_drop_step]
  generalize val (xs.drop (i / 32 + 1)) = y
  generalize lim xs (i / 32) = z
  have ht : i % 32 < 32 := Nat.mod_lt _ (by decide)
  generalize i % 32 = t at *
  have e : 4294967296 = 2 ^ t * (2 * 2 ^ (31 - t)) := by
    rw [← Nat.mul_assoc, Nat.mul_comm (2 ^ t) 2, Nat.mul_assoc, ← Nat.pow_add, show t + (31 - t) = 31 by omega]
  rw [e, Nat.mul_assoc, Nat.add_mul_div_left _ _ (Nat.pow_pos (by decide)), Nat.mul_assoc, Nat.add_mul_mod_self_left]
theorem tz_more {x i : Nat} (h : 2 ^ i ∣ x) (hb : x / 2 ^ i % 2 = 0) : 2 ^ (i + 1) ∣ x := by
  obtain ⟨c, rfl⟩ := h
  rw [Nat.mul_div_cancel_left _ (Nat.pow_pos (by decide))] at hb
  rw [Nat.pow_succ]
  exact Nat.mul_dvd_mul_left _ (Nat.dvd_of_mod_eq_zero hb)
theorem tz_end {x i : Nat} (h : 2 ^ i ∣ x) (hb : x / 2 ^ i % 2 ≠ 0) : IsTz x i := by
  obtain ⟨c, rfl⟩ := h
  rw [Nat.mul_div_cancel_left _ (Nat.pow_pos (by decide))] at hb
  exact .inr ⟨c / 2, by congr 1; omega⟩
theorem tz_zero {xs : List Nat} (ho : Ok xs) (hn : Norm xs) (h : 2 ^ (32 * xs.length) ∣ val xs) : IsTz (val xs) (32 * xs.length) := by
  have hl := val_lt ho
  rw [pw_two] at hl
  have h0 := Nat.eq_zero_of_dvd_of_lt h hl
  have e : xs = [] := by
    rcases hn with e | e
    · exact e
    · exfalso
      rcases Nat.eq_zero_or_pos xs.length with h1 | h1
      · have := List.length_eq_zero_iff.1 h1
        subst this
        exact e rfl
      · have h2 := val_ge (.inr e) (fun h => by subst h; simp at h1)
        have := pw_pos (xs.length - 1)
        omega
  subst e
  exact .inl ⟨rfl, rfl⟩
end Cin
namespace Go.Proofs.YtkekgmdofgkbcaaGreatDoor
open Go.RowKit Cin
set_option maxRecDepth 100000 in
set_option maxHeartbeats 1000000 in
theorem rbit_any (v : Value) (xs : List Nat) (i : Nat) (w : World) (hs : Sl 190 .u32 w v xs) (ho : Ok xs) (hi : i < 32 * xs.length) (hl : xs.length ≤ 1000000) :
    Calls Tryz.prog 137 #[v, .int .i64 i] w fun e w' => e = .returned (.int .u32 (val xs / 2 ^ i % 2 : Nat)) ∧ w' = w := by
  obtain ⟨ad, cap, rfl, hc, _⟩ := hs.shape
  obtain ⟨len, hn⟩ : ∃ n : Nat, xs.length = n := ⟨_, rfl⟩
  obtain ⟨q, eq, eq'⟩ : ∃ q : Nat, (i : Int) / 32 = (q : Int) ∧ q = i / 32 := ⟨i / 32, by omega, rfl⟩
  obtain ⟨t, et, et'⟩ : ∃ t : Nat, (i : Int) % 32 = (t : Int) ∧ t = i % 32 := ⟨i % 32, by omega, rfl⟩
  obtain ⟨bk, off, rfl, hcell, hblt⟩ := hs.cell (i := q) (by omega)
  have hlim := lim_lt ho q
  obtain ⟨y, ey, ey'⟩ : ∃ y : Nat, ((lim xs q : Nat) : Int) / 2 ^ t = (y : Int) ∧ y = lim xs q / 2 ^ t := ⟨lim xs q / 2 ^ t, by simp, rfl⟩
  have hy : y < 4294967296 := by have := Nat.div_le_self (lim xs q) (2 ^ t); omega
  have hand : bits BinOp.and IntKind.u32 (y : Int) 1 = ((y % 2 : Nat) : Int) := by
    have := u32_and_nat y 1 hy (by decide)
    rw [show ((1 : Nat) : Int) = 1 from rfl] at this
    rw [this, Nat.and_one_is_mod]
  have HE := Lib.hid (show y % 2 = val xs / 2 ^ i % 2 by rw [← lim_bit ho i, ey', eq', et'])
  obtain ⟨z, ez⟩ : ∃ z : Nat, y % 2 = z := ⟨_, rfl⟩
  rw [ez] at hand
  rw [hn] at hc hi hl ⊢
  have EZ := Lib.hid ez
  have hq : q < len := by omega
  have ht : t < 32 := by omega
  have d0 : decide ((i : Int) < 0) = false := by rw [decide_eq_false_iff_not]; omega
  have d1 : decide ((len : Int) ≤ (q : Int)) = false := by rw [decide_eq_false_iff_not]; omega
  clear hs ho hn eq' et' ey' ez
  go_enter Tryz.func137, Tryz.ntmps137
  go_wp2
  go_ret
  exact ⟨ret_int (by rw [← HE.out, EZ.out]), rfl⟩
set_option maxRecDepth 100000 in
set_option maxHeartbeats 1000000 in
theorem rzeros_any (v : Value) (x k : Nat) (w : World) (h : RefB w v x k) (hk : k ≤ 1000000) :
    Calls Tryz.prog 86 #[v] w fun e w' => ∃ c : Nat, e = .returned (.int .i64 c) ∧ IsTz x c ∧ Below w.heap.size w w' := by
  obtain ⟨⟨xs, hs, ho, hnm, hval⟩, hx⟩ := h
  have HS0 := Lib.hid hs
  obtain ⟨ad, cap, rfl, hc, _⟩ := hs.shape
  have hl : xs.length ≤ k := norm_len hnm (by rw [hval]; exact hx)
  obtain ⟨len, hn⟩ : ∃ n : Nat, xs.length = n := ⟨_, rfl⟩
  have HN := Lib.hid hn
  rw [hn] at hl hc HS0 ⊢
  have HM := Lib.hid hnm
  have HV := Lib.hid hval
  have HO := Lib.hid ho
  have e32 : IntKind.i64.wrap (32 * (len : Int)) = ((32 * len : Nat) : Int) := by rw [IntWalk.i64_in _ (by omega)]; omega
  obtain ⟨m, em⟩ : ∃ m : Nat, 32 * len = m := ⟨_, rfl⟩
  rw [em] at e32
  have EM := Lib.hid em
  have hmb : m ≤ 32000000 := by omega
  have e33 : 32 * (len : Int) = (m : Int) := by omega
  clear hs hnm hval hx hn ho em
  go_enter Tryz.func86, Tryz.ntmps86
  go_wp2_with fail
  go_loopw [3] (fun cx wr => ∃ j : Nat, j ≤ m ∧ cx = .int .i64 j ∧ Hid (2 ^ j ∣ val xs) ∧ wr = w) (fun cx _ => m - (intOf cx).toNat)
  case atStart => exact ⟨0, Nat.zero_le _, rfl, Lib.hid (Nat.one_dvd _), rfl⟩
  case round =>
    obtain ⟨j, hj, rfl, HD, rfl⟩ := hrel
    by_cases hlt : j < m
    · have d0 : decide ((j : Int) < (m : Int)) = true := by rw [decide_eq_true_iff]; omega
      go_wp2_with fail
      refine (rbit_any _ xs j _ HS0.out HO.out (by have := EM.out; have := HN.out; omega) (by have := HN.out; omega)).mono ?_
      rintro e w1 ⟨rfl, rfl⟩
      by_cases hb : val xs / 2 ^ j % 2 = 0
      · have HB := Lib.hid (tz_more HD.out hb)
        rw [hb]
        clear hb
        have w1' : IntKind.i64.wrap ((j : Int) + 1) = (j : Int) + 1 := IntWalk.i64_in _ (by omega)
        go_wp2_with fail
        exact ⟨⟨j + 1, by omega, by go_num, HB, trivial⟩, by simp [intOf]; omega⟩
      · have hb1 : val xs / 2 ^ j % 2 = 1 := by omega
        have HB := Lib.hid (tz_end HD.out hb)
        rw [hb1]
        clear hb hb1
        go_wp2_with fail
        go_ret
        exact ⟨j, rfl, by have := HB.out; rwa [HV.out] at this, Below.refl _ _⟩
    · obtain rfl : m = j := by omega
      have HB := Lib.hid (tz_zero HO.out HM.out (by rw [HN.out, EM.out]; exact HD.out))
      have d0 : decide ((m : Int) < (m : Int)) = false := by simp
      go_wp2_with fail
      go_ret
      exact ⟨m, rfl, by have := HB.out; rwa [HV.out, HN.out, EM.out] at this, Below.refl _ _⟩
end Go.Proofs.YtkekgmdofgkbcaaGreatDoor

namespace Go.Proofs.YtkekgmdofgkbcaaGreatDoor
open Go.RowKit Cin
theorem rbitsI (v : Value) (x k : Nat) (w : World) (h : RefB w v x k) (hk : k ≤ 1000000) :
    Calls Tryz.prog 87 #[v] w fun e w' => e = .returned (.int .i64 (blOf x : Nat)) ∧ Below w.heap.size w w' :=
  (rbits_any v x k w h hk).mono fun _ _ ⟨j, e, hn, _, hw⟩ => ⟨by rw [e, hn.unique (blOf_ok x)], by rw [hw]; exact Below.refl _ _⟩
theorem rzerosI (v : Value) (x k : Nat) (w : World) (h : RefB w v x k) (hk : k ≤ 1000000) :
    Calls Tryz.prog 86 #[v] w fun e w' => e = .returned (.int .i64 (tzOf x : Nat)) ∧ Below w.heap.size w w' :=
  (rzeros_any v x k w h hk).mono fun _ _ ⟨j, e, hn, hb⟩ => ⟨by rw [e, hn.unique (tzOf_ok x)], hb⟩
instance (q : Rat) : Decidable (DyOk q) := inferInstanceAs (Decidable (_ = _))
theorem ddyadic_any (v : Value) (q : Rat) (k : Nat) (w : World) (h : DRatB w v q k) (hk : k ≤ 8000) :
    Calls Tryz.prog 46 #[v] w fun e w' => e = .returned (.bool (decide (DyOk q))) ∧ Below w.heap.size w w' := by
  obtain ⟨a, b, d, rfl, h⟩ := h
  have hbl := bl_pw h.2.2
  refine go (fun w => DQ w a b d q k) [[a, b, d]] [some 3] (tr := (.em (.call 85 [.g [.c 0 0, .c 0 1, .c 0 2]] [none]) (.em (.call 86 [.s (.c 1 0)] [none]) (.em (.call 85 [.g [.c 0 0, .c 0 1, .c 0 2]] [none]) (.em (.call 87 [.s (.c 3 0)] [none]) (.em (.pr (.binOp .sub 3 (.tmp 0) (.const (.int .i64 1)) 3) 3 [.s (.c 4 0), .s (.k (.int .i64 1))]) (.em (.pr (.binOp .eql 3 (.tmp 0) (.tmp 1) 3) 4 [.s (.c 2 0), .s (.c 5 0)]) (.ret (.v (.s (.c 6 0))))))))))) (by kernel_rfl) (by kernel_rfl) (by kernel_rfl) (mD _ _ _ _ _) h ⟨dpl h, trivial⟩ ?_
  refine wRef hU (fun w b h => dden_any _ q k w ⟨_, _, _, rfl, h⟩) (fun x1 => ?_)
  refine wVal (fun w b ⟨h1, _⟩ => rzerosI _ q.den k w h1 (by omega)) rfl ?_
  refine wRef hU (fun w b ⟨_, h⟩ => dden_any _ q k w ⟨_, _, _, rfl, h⟩) (fun x2 => ?_)
  refine wVal (fun w b ⟨h1, _⟩ => rbitsI _ q.den k w h1 (by omega)) rfl ?_
  refine wPr (prSubI rfl rfl (by show _ ≤ _ - (1 : Int); omega) (by show _ - (1 : Int) ≤ _; omega)) rfl ?_
  refine wPr (prEq rfl rfl) rfl ?_
  refine wRet fun w b _ => ⟨?_, b⟩
  show Ending.returned (.bool (((tzOf q.den : Nat) : Int) == ((blOf q.den : Nat) : Int) - 1)) = _
  congr 2
  by_cases hq : DyOk q
  · rw [decide_eq_true hq]; unfold DyOk at hq; rw [← hq]; simp
  · rw [decide_eq_false hq]; unfold DyOk at hq; simp; omega
theorem exp_num {q : Rat} : expOf q = (tzOf q.num.natAbs : Int) - (tzOf q.den : Int) := by unfold expOf; omega
end Go.Proofs.YtkekgmdofgkbcaaGreatDoor

namespace Cin
open Go Go.RowKit
structure RC (A : Rat) (b M0 X Y : Nat) (p : Int) (ex : Bool) : Prop where
  hA : A * (Y : Rat) = (X : Rat) * tp (-p)
  hY : 0 < Y
  h1 : M0 * Y ≤ X
  h2 : X < (M0 + 1) * Y
  h3 : 2 ^ (b - 1) ≤ M0
  h4 : M0 < 2 ^ b
  he : ex = true ↔ M0 * Y = X
end Cin
namespace Go.Proofs.YtkekgmdofgkbcaaGreatDoor
open Go.RowKit Cin
end Go.Proofs.YtkekgmdofgkbcaaGreatDoor

namespace Go.Proofs.YtkekgmdofgkbcaaGreatDoor
open Go.RowKit Cin
theorem odd_le (q : Rat) : (oddOf q).natAbs ≤ q.num.natAbs := by
  have := Nat.div_le_self q.num.natAbs (2 ^ tzOf q.num.natAbs)
  unfold oddOf
  generalize q.num.natAbs / 2 ^ tzOf q.num.natAbs = t at *
  split <;> omega
theorem DyQ.cut {w : World} {x y : Value} {q : Rat} {k K j : Nat} (h : DyQ w x y q k K) (hn : q.num.natAbs < pw j) (hd : q.den < pw j) : DyQ w x y q j (32 * j) := by
  have t1 := tz_pw hn
  have t2 := tz_pw hd
  refine ⟨⟨h.1.1, Nat.lt_of_le_of_lt (odd_le q) hn⟩, h.2.1, ?_, ?_⟩ <;> rw [exp_num] <;> omega
theorem len_le {s : ByteArray} (h : s.size ≤ maxLen) : s.size ≤ 9223372036854775807 := Nat.le_trans h (by unfold maxLen; omega)
end Go.Proofs.YtkekgmdofgkbcaaGreatDoor

namespace Go.Proofs.YtkekgmdofgkbcaaGreatDoor
open Go.RowKit Cin
def SpQ (w : World) (a b c d a' b' c' d' : Value) (x y : Rat) (k : Nat) : Prop := QB w a b c d x k ∧ QB w a' b' c' d' y k
def SpB (w : World) (v : Value) (x y : Rat) (k : Nat) : Prop := ∃ a b c d a' b' c' d', v = .agg #[a, b, c, d, a', b', c', d'] ∧ SpQ w a b c d a' b' c' d' x y k
def DsQ (w : World) (a b d a' b' d' : Value) (x y : Rat) (k : Nat) : Prop := DQ w a b d x k ∧ DQ w a' b' d' y k
def DsB (w : World) (v : Value) (x y : Rat) (k : Nat) : Prop := ∃ a b d a' b' d', v = .agg #[a, b, d, a', b', d'] ∧ DsQ w a b d a' b' d' x y k
theorem spl {w : World} {a b c d a' b' c' d' : Value} {x y : Rat} {k : Nat} (h : SpQ w a b c d a' b' c' d' x y k) : [a, b, c, d, a', b', c', d'].all Value.oneCell' = true := by
  have p := qpl h.1
  have p' := qpl h.2
  simp only [List.all_cons, List.all_nil, Bool.and_true, Bool.and_eq_true] at p p' ⊢
  exact ⟨p.1, p.2.1, p.2.2.1, p.2.2.2, p'.1, p'.2.1, p'.2.2.1, p'.2.2.2⟩
theorem dspl {w : World} {a b d a' b' d' : Value} {x y : Rat} {k : Nat} (h : DsQ w a b d a' b' d' x y k) : [a, b, d, a', b', d'].all Value.oneCell' = true := by
  have p := dpl h.1
  have p' := dpl h.2
  simp only [List.all_cons, List.all_nil, Bool.and_true, Bool.and_eq_true] at p p' ⊢
  exact ⟨p.1, p.2.1, p.2.2, p'.1, p'.2.1, p'.2.2⟩
theorem mSp {D : TypeId → Bool} (a b c d a' b' c' d' : Value) (x y : Rat) (k : Nat) (hD : D 190 = true := by rfl) : Mono D fun w => SpQ w a b c d a' b' c' d' x y k := (mQ _ _ _ _ _ _ hD).and (mQ _ _ _ _ _ _ hD)
theorem mDs {D : TypeId → Bool} (a b d a' b' d' : Value) (x y : Rat) (k : Nat) (hD : D 190 = true := by rfl) : Mono D fun w => DsQ w a b d a' b' d' x y k := (mD _ _ _ _ _ hD).and (mD _ _ _ _ _ hD)
theorem SpQ.mono {w : World} {a b c d a' b' c' d' : Value} {x y : Rat} {k j : Nat} (h : SpQ w a b c d a' b' c' d' x y k) (hj : k ≤ j) : SpQ w a b c d a' b' c' d' x y j := ⟨h.1.mono hj, h.2.mono hj⟩
section rules
variable {w0 : World} {Post : Ending → World → Prop} {F : World → Prop} {L : LC} {E : Env} {tr : Tr} {f : FuncId} {ar : List V1} {args : Array Value}
end rules
theorem v_ge (x y : Rat) : decide (0 ≤ cmpQ x y) = decide (y ≤ x) := by
  unfold cmpQ
  split
  · rw [decide_eq_false (by decide), decide_eq_false (by grind)]
  · split
    · rw [decide_eq_true (by decide), decide_eq_true (by grind)]
    · rw [decide_eq_true (by decide), decide_eq_true (by grind)]
theorem v_gt (x y : Rat) : decide (0 < cmpQ x y) = decide (y < x) := by
  unfold cmpQ
  split
  · rw [decide_eq_false (by decide), decide_eq_false (by grind)]
  · split
    · rw [decide_eq_true (by decide), decide_eq_true (by grind)]
    · rw [decide_eq_false (by decide), decide_eq_false (by grind)]
theorem v_eq (x y : Rat) : (cmpQ x y == 0) = decide (x = y) := by
  unfold cmpQ
  split
  · rw [decide_eq_false (by grind)]; rfl
  · split
    · rw [decide_eq_false (by grind)]; rfl
    · rw [decide_eq_true (by grind)]; rfl
theorem cT_ge {x y : Rat} (e : decide (0 ≤ cmpQ x y) = true) : y ≤ x := by rw [v_ge] at e; simpa using e
theorem cF_ge {x y : Rat} (e : decide (0 ≤ cmpQ x y) = false) : x < y := by rw [v_ge] at e; have : ¬ y ≤ x := (by simpa using e); grind
theorem cT_gt {x y : Rat} (e : decide (0 < cmpQ x y) = true) : y < x := by rw [v_gt] at e; simpa using e
theorem cF_gt {x y : Rat} (e : decide (0 < cmpQ x y) = false) : x ≤ y := by rw [v_gt] at e; have : ¬ y < x := (by simpa using e); grind
def ZeroS : List Value := [.bool false, .slice none 0 0, .bool false, .slice none 0 0, .bool false, .slice none 0 0, .bool false, .slice none 0 0]
end Go.Proofs.YtkekgmdofgkbcaaGreatDoor

namespace Go.Proofs.YtkekgmdofgkbcaaGreatDoor
open Go.RowKit Cin
theorem mid5_any (v : Value) (x y : Rat) (k : Nat) (w : World) (h : SpB w v x y k) (hk : k ≤ 90000) :
    Calls Tryz.prog 51 #[v] w fun e w' => ∃ v', e = .returned v' ∧ RatB w' v' ((x + y) / 2) (k + k + 1 + 2) ∧ Below w.heap.size w w' := by
  obtain ⟨a, b, c, d, a', b', c', d', rfl, h⟩ := h
  refine go (fun w => SpQ w a b c d a' b' c' d' x y k) [[a, b, c, d, a', b', c', d']] [some 8] (tr := (.em (.call 42 [.g [.c 0 0, .c 0 1, .c 0 2, .c 0 3], .g [.c 0 4, .c 0 5, .c 0 6, .c 0 7]] [some 4]) (.em (.call 90 [.s (.k (.int .i64 2))] [some 4]) (.em (.call 89 [.g [.c 1 0, .c 1 1, .c 1 2, .c 1 3], .g [.c 2 0, .c 2 1, .c 2 2, .c 2 3]] [some 4, none]) (.ret (.v (.g [.c 3 0, .c 3 1, .c 3 2, .c 3 3]))))))) (by kernel_rfl) (by kernel_rfl) (by kernel_rfl) (mSp _ _ _ _ _ _ _ _ _ _ _) h ⟨spl h, trivial⟩ ?_
  refine wRat (fun w b h => qadd_any _ _ x y k k w ⟨_, _, _, _, rfl, h.1⟩ ⟨_, _, _, _, rfl, h.2⟩ (by omega) (by omega)) (fun _ _ _ _ => ?_)
  refine wRat (fun w b _ => qof_any 2 w (by decide) (by decide)) (fun _ _ _ _ => ?_)
  refine wRatV (fun w b ⟨h2, h1, _⟩ => qdiv_any _ _ _ _ _ 2 w ⟨_, _, _, _, rfl, h1⟩ ⟨_, _, _, _, rfl, h2⟩ (by omega) (by decide) (by decide)) rfl (fun _ _ _ _ => ?_)
  exact wRet fun w b ⟨h, _⟩ => ⟨_, rfl, ⟨_, _, _, _, rfl, h⟩, b⟩
theorem width_any (v : Value) (x y : Rat) (k : Nat) (w : World) (h : SpB w v x y k) (hk : k ≤ 90000) :
    Calls Tryz.prog 41 #[v] w fun e w' => ∃ v', e = .returned v' ∧ RatB w' v' (y - x) (k + k + 1) ∧ Below w.heap.size w w' := by
  obtain ⟨a, b, c, d, a', b', c', d', rfl, h⟩ := h
  refine go (fun w => SpQ w a b c d a' b' c' d' x y k) [[a, b, c, d, a', b', c', d']] [some 8] (tr := (.em (.call 75 [.g [.c 0 4, .c 0 5, .c 0 6, .c 0 7], .g [.c 0 0, .c 0 1, .c 0 2, .c 0 3]] [some 4]) (.ret (.v (.g [.c 1 0, .c 1 1, .c 1 2, .c 1 3]))))) (by kernel_rfl) (by kernel_rfl) (by kernel_rfl) (mSp _ _ _ _ _ _ _ _ _ _ _) h ⟨spl h, trivial⟩ ?_
  refine wRat (fun w b h => qsub_any _ _ y x k k w ⟨_, _, _, _, rfl, h.2⟩ ⟨_, _, _, _, rfl, h.1⟩ (by omega) (by omega)) (fun _ _ _ _ => ?_)
  exact wRet fun w b ⟨h, _⟩ => ⟨_, rfl, ⟨_, _, _, _, rfl, h⟩, b⟩
theorem plain_any (v : Value) (x y : Rat) (k : Nat) (w : World) (hT : Tabs w) (h : SpB w v x y k) (hk : k ≤ 200000) :
    Calls Tryz.prog 48 #[v] w fun e w' => e = .returned (.agg #[.string (ratS x), .string (ratS y)]) ∧ Below w.heap.size w w' := by
  obtain ⟨a, b, c, d, a', b', c', d', rfl, h⟩ := h
  refine go (fun w => SpQ w a b c d a' b' c' d' x y k) [[a, b, c, d, a', b', c', d']] [some 8] (tr := (.em (.call 53 [.g [.c 0 0, .c 0 1, .c 0 2, .c 0 3]] [none]) (.em (.call 53 [.g [.c 0 4, .c 0 5, .c 0 6, .c 0 7]] [none]) (.ret (.v (.g [.c 1 0, .c 2 0])))))) (by kernel_rfl) (by kernel_rfl) (by kernel_rfl) (mSp _ _ _ _ _ _ _ _ _ _ _) h ⟨spl h, trivial⟩ ?_
  refine wVal (fun w b h => qtext_any _ x k w ⟨_, _, _, _, rfl, h.1⟩ hk (hT.below b)) rfl ?_
  refine wVal (fun w b h => qtext_any _ y k w ⟨_, _, _, _, rfl, h.2⟩ hk (hT.below b)) rfl ?_
  exact wRet fun w b _ => ⟨rfl, b⟩
def SpOk (s r : ByteArray) : Prop := RatOk s ∧ RatOk r ∧ ratVal s ≤ ratVal r
theorem sparseY (s r : ByteArray) (w : World) (hs : s.size ≤ 9223372036854775807) (hr : r.size ≤ 9223372036854775807) (h : SpOk s r) :
    Calls Tryz.prog 80 #[.agg #[.string s, .string r]] w fun e w' => ∃ v', e = .returned (.tuple #[v', .int .i64 0]) ∧ SpB w' v' (ratVal s) (ratVal r) 500 ∧ Below w.heap.size w w' := by
  refine go (fun _ => True) [[.string s, .string r]] [some 2] (tr := (.em (.call 64 [.s (.c 0 0)] [some 4, none]) (.em (.pr (.binOp .neq 27 (.tmp 0) (.const (.int .i64 0)) 27) 4 [.s (.c 1 4), .s (.k (.int .i64 0))]) (.cond (.c 2 0) (.ret (.t [.g [.k (.bool false), .k (.slice none 0 0), .k (.bool false), .k (.slice none 0 0), .k (.bool false), .k (.slice none 0 0), .k (.bool false), .k (.slice none 0 0)], .s (.c 1 4)])) (.em (.call 64 [.s (.c 0 1)] [some 4, none]) (.em (.pr (.binOp .neq 27 (.tmp 0) (.const (.int .i64 0)) 27) 4 [.s (.c 3 4), .s (.k (.int .i64 0))]) (.cond (.c 4 0) (.ret (.t [.g [.k (.bool false), .k (.slice none 0 0), .k (.bool false), .k (.slice none 0 0), .k (.bool false), .k (.slice none 0 0), .k (.bool false), .k (.slice none 0 0)], .s (.c 3 4)])) (.em (.call 40 [.g [.c 1 0, .c 1 1, .c 1 2, .c 1 3], .g [.c 3 0, .c 3 1, .c 3 2, .c 3 3]] [none]) (.em (.pr (.binOp .gtr 3 (.tmp 0) (.const (.int .i64 0)) 3) 4 [.s (.c 5 0), .s (.k (.int .i64 0))]) (.cond (.c 6 0) (.ret (.t [.g [.k (.bool false), .k (.slice none 0 0), .k (.bool false), .k (.slice none 0 0), .k (.bool false), .k (.slice none 0 0), .k (.bool false), .k (.slice none 0 0)], .s (.k (.int .i64 1))])) (.ret (.t [.g [.c 1 0, .c 1 1, .c 1 2, .c 1 3, .c 3 0, .c 3 1, .c 3 2, .c 3 3], .s (.k (.int .i64 0))])))))))))))) (by kernel_rfl) (by kernel_rfl) (by kernel_rfl) Mono.true trivial ⟨rfl, trivial⟩ ?_
  refine wRatV (fun w b _ => qparse_ok s w hs h.1) rfl (fun _ _ _ _ => ?_)
  refine wPr (prNe rfl rfl) rfl ?_
  refine wFalse rfl ?_
  refine wRatV (fun w b _ => qparse_ok r w hr h.2.1) rfl (fun _ _ _ _ => ?_)
  refine wPr (prNe rfl rfl) rfl ?_
  refine wFalse rfl ?_
  refine wVal (fun w b ⟨h2, h1, _⟩ => qcmp_any _ _ _ _ 500 500 w ⟨_, _, _, _, rfl, h1⟩ ⟨_, _, _, _, rfl, h2⟩ (by decide) (by decide)) rfl ?_
  refine wPr (prGt rfl rfl) rfl ?_
  refine wFalse (by show Value.bool (decide _) = _; rw [v_gt, decide_eq_false (by have := h.2.2; grind)]) ?_
  exact wRet fun w b ⟨h2, h1, _⟩ => ⟨_, rfl, ⟨_, _, _, _, _, _, _, _, rfl, h1, h2⟩, b⟩
open Classical in
noncomputable def spCode (s r : ByteArray) : Int := if RatOk s ∧ RatOk r then (if ratVal s ≤ ratVal r then 0 else 1) else 2
theorem sparseN (s r : ByteArray) (w : World) (hs : s.size ≤ 9223372036854775807) (hr : r.size ≤ 9223372036854775807) (h : ¬ SpOk s r) :
    Calls Tryz.prog 80 #[.agg #[.string s, .string r]] w fun e w' => e = .returned (.tuple #[.agg ZeroS.toArray, .int .i64 (spCode s r)]) ∧ Below w.heap.size w w' := by
  refine go (fun _ => True) [[.string s, .string r]] [some 2] (tr := (.em (.call 64 [.s (.c 0 0)] [some 4, none]) (.em (.pr (.binOp .neq 27 (.tmp 0) (.const (.int .i64 0)) 27) 4 [.s (.c 1 4), .s (.k (.int .i64 0))]) (.cond (.c 2 0) (.ret (.t [.g [.k (.bool false), .k (.slice none 0 0), .k (.bool false), .k (.slice none 0 0), .k (.bool false), .k (.slice none 0 0), .k (.bool false), .k (.slice none 0 0)], .s (.c 1 4)])) (.em (.call 64 [.s (.c 0 1)] [some 4, none]) (.em (.pr (.binOp .neq 27 (.tmp 0) (.const (.int .i64 0)) 27) 4 [.s (.c 3 4), .s (.k (.int .i64 0))]) (.cond (.c 4 0) (.ret (.t [.g [.k (.bool false), .k (.slice none 0 0), .k (.bool false), .k (.slice none 0 0), .k (.bool false), .k (.slice none 0 0), .k (.bool false), .k (.slice none 0 0)], .s (.c 3 4)])) (.em (.call 40 [.g [.c 1 0, .c 1 1, .c 1 2, .c 1 3], .g [.c 3 0, .c 3 1, .c 3 2, .c 3 3]] [none]) (.em (.pr (.binOp .gtr 3 (.tmp 0) (.const (.int .i64 0)) 3) 4 [.s (.c 5 0), .s (.k (.int .i64 0))]) (.cond (.c 6 0) (.ret (.t [.g [.k (.bool false), .k (.slice none 0 0), .k (.bool false), .k (.slice none 0 0), .k (.bool false), .k (.slice none 0 0), .k (.bool false), .k (.slice none 0 0)], .s (.k (.int .i64 1))])) (.ret (.t [.g [.c 1 0, .c 1 1, .c 1 2, .c 1 3, .c 3 0, .c 3 1, .c 3 2, .c 3 3], .s (.k (.int .i64 0))])))))))))))) (by kernel_rfl) (by kernel_rfl) (by kernel_rfl) Mono.true trivial ⟨rfl, trivial⟩ ?_
  unfold spCode
  by_cases h1 : RatOk s
  · refine wRatV (fun w b _ => qparse_ok s w hs h1) rfl (fun _ _ _ _ => ?_)
    refine wPr (prNe rfl rfl) rfl ?_
    refine wFalse rfl ?_
    by_cases h2 : RatOk r
    · refine wRatV (fun w b _ => qparse_ok r w hr h2) rfl (fun _ _ _ _ => ?_)
      refine wPr (prNe rfl rfl) rfl ?_
      refine wFalse rfl ?_
      refine wVal (fun w b ⟨h2, h1, _⟩ => qcmp_any _ _ _ _ 500 500 w ⟨_, _, _, _, rfl, h1⟩ ⟨_, _, _, _, rfl, h2⟩ (by decide) (by decide)) rfl ?_
      refine wPr (prGt rfl rfl) rfl ?_
      have h3 : ¬ ratVal s ≤ ratVal r := fun h3 => h ⟨h1, h2, h3⟩
      refine wTrue (by show Value.bool (decide _) = _; rw [v_gt, decide_eq_true (by grind)]) ?_
      exact wRet fun w b _ => ⟨by rw [if_pos ⟨h1, h2⟩, if_neg h3]; rfl, b⟩
    · refine wKnown [.bool false, .slice none 0 0, .bool false, .slice none 0 0, .int .i64 2] (fun w b _ => qparse_no r w hr h2) rfl rfl ?_
      refine wPr (prNe rfl rfl) rfl ?_
      refine wTrue rfl ?_
      exact wRet fun w b _ => ⟨by rw [if_neg (fun h => h2 h.2)]; rfl, b⟩
  · refine wKnown [.bool false, .slice none 0 0, .bool false, .slice none 0 0, .int .i64 2] (fun w b _ => qparse_no s w hs h1) rfl rfl ?_
    refine wPr (prNe rfl rfl) rfl ?_
    refine wTrue rfl ?_
    exact wRet fun w b _ => ⟨by rw [if_neg (fun h => h1 h.1)]; rfl, b⟩
def ZeroT : List Value := [.bool false, .slice none 0 0, .slice none 0 0, .bool false, .slice none 0 0, .slice none 0 0]
theorem dsparseY (s r : ByteArray) (w : World) (hs : s.size ≤ 9223372036854775807) (hr : r.size ≤ 9223372036854775807) (h : SpOk s r) :
    Calls Tryz.prog 44 #[.agg #[.string s, .string r]] w fun e w' => ∃ v', e = .returned (.tuple #[v', .int .i64 0]) ∧ DsB w' v' (ratVal s) (ratVal r) 500 ∧ Below w.heap.size w w' := by
  refine go (fun _ => True) [[.string s, .string r]] [some 2] (tr := (.em (.call 63 [.s (.c 0 0)] [some 3, none]) (.em (.call 63 [.s (.c 0 1)] [some 3, none]) (.em (.pr (.unOp .not 4 (.tmp 0)) 4 [.s (.c 1 3)]) (.cond (.c 3 0) (.ret (.t [.g [.k (.bool false), .k (.slice none 0 0), .k (.slice none 0 0), .k (.bool false), .k (.slice none 0 0), .k (.slice none 0 0)], .s (.k (.int .i64 2))])) (.em (.pr (.unOp .not 4 (.tmp 0)) 4 [.s (.c 2 3)]) (.cond (.c 4 0) (.ret (.t [.g [.k (.bool false), .k (.slice none 0 0), .k (.slice none 0 0), .k (.bool false), .k (.slice none 0 0), .k (.slice none 0 0)], .s (.k (.int .i64 2))])) (.em (.call 45 [.g [.c 1 0, .c 1 1, .c 1 2], .g [.c 2 0, .c 2 1, .c 2 2]] [none]) (.em (.pr (.binOp .gtr 3 (.tmp 0) (.const (.int .i64 0)) 3) 4 [.s (.c 5 0), .s (.k (.int .i64 0))]) (.cond (.c 6 0) (.ret (.t [.g [.k (.bool false), .k (.slice none 0 0), .k (.slice none 0 0), .k (.bool false), .k (.slice none 0 0), .k (.slice none 0 0)], .s (.k (.int .i64 1))])) (.ret (.t [.g [.c 1 0, .c 1 1, .c 1 2, .c 2 0, .c 2 1, .c 2 2], .s (.k (.int .i64 0))])))))))))))) (by kernel_rfl) (by kernel_rfl) (by kernel_rfl) Mono.true trivial ⟨rfl, trivial⟩ ?_
  refine wDQV (fun w b _ => dparseY s w hs h.1) rfl (fun _ _ _ => ?_)
  refine wDQV (fun w b _ => dparseY r w hr h.2.1) rfl (fun _ _ _ => ?_)
  refine wPr (prNot rfl) rfl ?_
  refine wFalse rfl ?_
  refine wPr (prNot rfl) rfl ?_
  refine wFalse rfl ?_
  refine wVal (fun w b ⟨h2, h1, _⟩ => dcmp_any _ _ _ _ 500 500 w ⟨_, _, _, rfl, h1⟩ ⟨_, _, _, rfl, h2⟩ (by decide) (by decide)) rfl ?_
  refine wPr (prGt rfl rfl) rfl ?_
  refine wFalse (by show Value.bool (decide _) = _; rw [v_gt, decide_eq_false (by have := h.2.2; grind)]) ?_
  exact wRet fun w b ⟨h2, h1, _⟩ => ⟨_, rfl, ⟨_, _, _, _, _, _, rfl, h1, h2⟩, b⟩
theorem wNo {w0 : World} {Post : Ending → World → Prop} {F : World → Prop} {L : LC} {E : Env} {tr : Tr} {ar : List V1} {D Z : TypeId → Bool} (s : ByteArray) (hs : s.size ≤ 9223372036854775807) (h : ¬ RatOk s)
    {E' : Value → Value → Value → Env} (hk : ∀ a b d, Wk Tryz.prog w0 D Z Post L F tr (E' a b d)) (ha : (ar.map (V1.den [] E)).toArray = #[.string s] := by rfl)
    (hE : ∀ a b d, E ++ [[a, b, d, .bool false]] = E' a b d := by intros; (simp only [List.cons_append, List.nil_append]) <;> exact rfl) : Wk Tryz.prog w0 D Z Post L F (.em (.call 63 ar [some 3, none]) tr) E := by
  intro hm u hF w e b
  rw [ha]
  refine (dparse_any s w hs).mono ?_
  rintro e1 w' (⟨h', _⟩ | ⟨_, a, b, d, rfl, hp, hb⟩)
  · exact absurd h' h
  · simp only [List.all_cons, List.all_nil, Bool.and_true, Bool.and_eq_true] at hp
    exact ⟨[a, b, d, .bool false], rfl, by simp only [List.all_cons, List.all_nil, Bool.and_true, Bool.and_eq_true]; exact ⟨hp.1, hp.2.1, hp.2.2, rfl⟩, hb, hE _ _ _ ▸ hk _ _ _ hm w' (hm u w' (e.below hb) hF)⟩
theorem dsparseN (s r : ByteArray) (w : World) (hs : s.size ≤ 9223372036854775807) (hr : r.size ≤ 9223372036854775807) (h : ¬ SpOk s r) :
    Calls Tryz.prog 44 #[.agg #[.string s, .string r]] w fun e w' => e = .returned (.tuple #[.agg ZeroT.toArray, .int .i64 (spCode s r)]) ∧ Below w.heap.size w w' := by
  refine go (fun _ => True) [[.string s, .string r]] [some 2] (tr := (.em (.call 63 [.s (.c 0 0)] [some 3, none]) (.em (.call 63 [.s (.c 0 1)] [some 3, none]) (.em (.pr (.unOp .not 4 (.tmp 0)) 4 [.s (.c 1 3)]) (.cond (.c 3 0) (.ret (.t [.g [.k (.bool false), .k (.slice none 0 0), .k (.slice none 0 0), .k (.bool false), .k (.slice none 0 0), .k (.slice none 0 0)], .s (.k (.int .i64 2))])) (.em (.pr (.unOp .not 4 (.tmp 0)) 4 [.s (.c 2 3)]) (.cond (.c 4 0) (.ret (.t [.g [.k (.bool false), .k (.slice none 0 0), .k (.slice none 0 0), .k (.bool false), .k (.slice none 0 0), .k (.slice none 0 0)], .s (.k (.int .i64 2))])) (.em (.call 45 [.g [.c 1 0, .c 1 1, .c 1 2], .g [.c 2 0, .c 2 1, .c 2 2]] [none]) (.em (.pr (.binOp .gtr 3 (.tmp 0) (.const (.int .i64 0)) 3) 4 [.s (.c 5 0), .s (.k (.int .i64 0))]) (.cond (.c 6 0) (.ret (.t [.g [.k (.bool false), .k (.slice none 0 0), .k (.slice none 0 0), .k (.bool false), .k (.slice none 0 0), .k (.slice none 0 0)], .s (.k (.int .i64 1))])) (.ret (.t [.g [.c 1 0, .c 1 1, .c 1 2, .c 2 0, .c 2 1, .c 2 2], .s (.k (.int .i64 0))])))))))))))) (by kernel_rfl) (by kernel_rfl) (by kernel_rfl) Mono.true trivial ⟨rfl, trivial⟩ ?_
  unfold spCode
  by_cases h1 : RatOk s
  · refine wDQV (fun w b _ => dparseY s w hs h1) rfl (fun _ _ _ => ?_)
    by_cases h2 : RatOk r
    · refine wDQV (fun w b _ => dparseY r w hr h2) rfl (fun _ _ _ => ?_)
      refine wPr (prNot rfl) rfl ?_
      refine wFalse rfl ?_
      refine wPr (prNot rfl) rfl ?_
      refine wFalse rfl ?_
      refine wVal (fun w b ⟨h2, h1, _⟩ => dcmp_any _ _ _ _ 500 500 w ⟨_, _, _, rfl, h1⟩ ⟨_, _, _, rfl, h2⟩ (by decide) (by decide)) rfl ?_
      refine wPr (prGt rfl rfl) rfl ?_
      have h3 : ¬ ratVal s ≤ ratVal r := fun h3 => h ⟨h1, h2, h3⟩
      refine wTrue (by show Value.bool (decide _) = _; rw [v_gt, decide_eq_true (by grind)]) ?_
      exact wRet fun w b _ => ⟨by rw [if_pos ⟨h1, h2⟩, if_neg h3]; rfl, b⟩
    · refine wNo r hr h2 (fun _ _ _ => ?_)
      refine wPr (prNot rfl) rfl ?_
      refine wFalse rfl ?_
      refine wPr (prNot rfl) rfl ?_
      refine wTrue rfl ?_
      exact wRet fun w b _ => ⟨by rw [if_neg (fun h => h2 h.2)]; rfl, b⟩
  · refine wNo s hs h1 (fun _ _ _ => ?_)
    by_cases h2 : RatOk r
    · refine wDQV (fun w b _ => dparseY r w hr h2) rfl (fun _ _ _ => ?_)
      refine wPr (prNot rfl) rfl ?_
      refine wTrue rfl ?_
      exact wRet fun w b _ => ⟨by rw [if_neg (fun h => h1 h.1)]; rfl, b⟩
    · refine wNo r hr h2 (fun _ _ _ => ?_)
      refine wPr (prNot rfl) rfl ?_
      refine wTrue rfl ?_
      exact wRet fun w b _ => ⟨by rw [if_neg (fun h => h1 h.1)]; rfl, b⟩
theorem is5_any (v u : Value) (x y : Rat) (k j : Nat) (w : World) (h : SpB w v x y k) (h' : DsB w u x y j) (hk : k ≤ 200000) (hj : j ≤ 200000) (hT : Tabs w) :
    Calls Tryz.prog 47 #[v, u] w fun e w' => e = .returned (.bool true) ∧ Below w.heap.size w w' := by
  obtain ⟨a, b, c, d, a', b', c', d', rfl, h⟩ := h
  obtain ⟨p, q, r, p', q', r', rfl, h'⟩ := h'
  refine go (fun w => SpQ w a b c d a' b' c' d' x y k ∧ DsQ w p q r p' q' r' x y j) [[a, b, c, d, a', b', c', d'], [p, q, r, p', q', r']] [some 8, some 6] (tr := (.em (.call 23 [.g [.c 0 0, .c 0 1, .c 0 2, .c 0 3], .g [.c 1 0, .c 1 1, .c 1 2]] [none]) (.cond (.c 2 0) (.em (.call 23 [.g [.c 0 4, .c 0 5, .c 0 6, .c 0 7], .g [.c 1 3, .c 1 4, .c 1 5]] [none]) (.ret (.v (.s (.c 3 0))))) (.ret (.v (.s (.k (.bool false)))))))) (by kernel_rfl) (by kernel_rfl) (by kernel_rfl) ((mSp _ _ _ _ _ _ _ _ _ _ _).and (mDs _ _ _ _ _ _ _ _ _)) ⟨h, h'⟩ ⟨spl h, dspl h', trivial⟩ ?_
  refine wVal (fun w b ⟨h, h'⟩ => is_any _ _ x k j w ⟨_, _, _, _, rfl, h.1⟩ ⟨_, _, _, rfl, h'.1⟩ hk hj (hT.below b)) rfl ?_
  refine wTrue rfl ?_
  refine wVal (fun w b ⟨h, h'⟩ => is_any _ _ y k j w ⟨_, _, _, _, rfl, h.2⟩ ⟨_, _, _, rfl, h'.2⟩ hk hj (hT.below b)) rfl ?_
  exact wRet fun w b _ => ⟨rfl, b⟩
section prims
variable {P : Program} {t t2 ty : TypeId} {vs : List Value} {p q : Operand} {x y : Int}
end prims
end Go.Proofs.YtkekgmdofgkbcaaGreatDoor

namespace Go.Proofs.YtkekgmdofgkbcaaGreatDoor
open Go.RowKit Cin
def D2 : TypeId → Bool := fun t => t == 190 || t == 59
theorem hR2 : D2 59 = true := rfl
theorem DQ.mono {w : World} {a b d : Value} {q : Rat} {k j : Nat} (h : DQ w a b d q k) (hj : k ≤ j) : DQ w a b d q j := ⟨h.1.mono hj, h.2.1, lt_pw_mono h.2.2 hj⟩
def ListD (w : World) (k : Nat) : List (List Value) → List Rat → Prop
  | [], [] => True
  | x :: xs, q :: qs => (∃ a b d, x = [a, b, d] ∧ DQ w a b d q k) ∧ ListD w k xs qs
  | _, _ => False
theorem ListD.len {w : World} {k : Nat} : ∀ {xs : List (List Value)} {qs : List Rat}, ListD w k xs qs → xs.length = qs.length
  | [], [], _ => rfl
  | _ :: _, _ :: _, h => by simp [h.2.len]
theorem ListD.at {w : World} {k : Nat} : ∀ {xs : List (List Value)} {qs : List Rat} {i : Nat}, ListD w k xs qs → i < qs.length → ∃ q a b d, qs[i]? = some q ∧ xs[i]? = some [a, b, d] ∧ DQ w a b d q k
  | [], [], _, _, hi => absurd hi (Nat.not_lt_zero _)
  | [], _ :: _, _, h, _ => h.elim
  | _ :: _, [], _, h, _ => h.elim
  | x :: xs, q :: qs, 0, h, _ => by obtain ⟨⟨a, b, d, rfl, hq⟩, _⟩ := h; exact ⟨q, a, b, d, rfl, rfl, hq⟩
  | x :: xs, q :: qs, i + 1, h, hi => by
    obtain ⟨q', a, b, d, h1, h2, h3⟩ := h.2.at (i := i) (by simpa using hi)
    exact ⟨q', a, b, d, by simpa using h1, by simpa using h2, h3⟩
end Go.Proofs.YtkekgmdofgkbcaaGreatDoor

namespace Go.Proofs.YtkekgmdofgkbcaaGreatDoor
open Go.RowKit Cin
def JT : Jd := ⟨Tabs, fun b h => h.below b⟩
def pQ (q : Rat) (k : Nat) : Pd := pdOf 190 4 (fun w cs => ∃ a b c d, cs = [a, b, c, d] ∧ QB w a b c d q k) (by rintro w cs ⟨a, b, c, d, rfl, _⟩; rfl) (by rintro w cs ⟨a, b, c, d, rfl, h⟩; exact qpl h)
  (by rintro u w cs he ⟨a, b, c, d, rfl, h⟩; exact ⟨a, b, c, d, rfl, mQ (D := fun t => t == 190) _ _ _ _ _ _ rfl u w he h⟩)
def pD (q : Rat) (k : Nat) : Pd := pdOf 190 3 (fun w cs => ∃ a b d, cs = [a, b, d] ∧ DQ w a b d q k) (by rintro w cs ⟨a, b, d, rfl, _⟩; rfl) (by rintro w cs ⟨a, b, d, rfl, h⟩; exact dpl h)
  (by rintro u w cs he ⟨a, b, d, rfl, h⟩; exact ⟨a, b, d, rfl, mD (D := fun t => t == 190) _ _ _ _ _ rfl u w he h⟩)
theorem pQ_mono {q : Rat} {k j : Nat} (hj : k ≤ j) {l : Lm} {w : World} {cs : List Value} (h : (pQ q k).R l w cs) : (pQ q j).R l w cs := let ⟨a, b, c, d, e, h⟩ := h; ⟨a, b, c, d, e, h.mono hj⟩
section cells
variable {l : Lm} {w : World} {cs : List Value} {x y : Rat} {k j : Nat} {v u : Value}
theorem rQ (h : RL l w [pQ x k] cs) : ∃ a b c d, cs = [a, b, c, d] ∧ QB w a b c d x k := by
  obtain ⟨c1, c2, rfl, ⟨a, b, c, d, rfl, h⟩, rfl⟩ := h
  exact ⟨a, b, c, d, rfl, h⟩
theorem rD (h : RL l w [pD x k] cs) : ∃ a b d, cs = [a, b, d] ∧ DQ w a b d x k := by
  obtain ⟨c1, c2, rfl, ⟨a, b, d, rfl, h⟩, rfl⟩ := h
  exact ⟨a, b, d, rfl, h⟩
theorem rS (h : RL l w [pQ x k, pQ y k] cs) : ∃ a b c d a' b' c' d', cs = [a, b, c, d, a', b', c', d'] ∧ SpQ w a b c d a' b' c' d' x y k := by
  obtain ⟨c1, c2, rfl, ⟨a, b, c, d, rfl, h⟩, c3, c4, rfl, ⟨a', b', c', d', rfl, h'⟩, rfl⟩ := h
  exact ⟨a, b, c, d, a', b', c', d', rfl, h, h'⟩
theorem rE (h : RL l w [pD x k, pD y k] cs) : ∃ a b d a' b' d', cs = [a, b, d, a', b', d'] ∧ DsQ w a b d a' b' d' x y k := by
  obtain ⟨c1, c2, rfl, ⟨a, b, d, rfl, h⟩, c3, c4, rfl, ⟨a', b', d', rfl, h'⟩, rfl⟩ := h
  exact ⟨a, b, d, a', b', d', rfl, h, h'⟩
theorem rP (h : RL l w [pV v, pV u] cs) : cs = [v, u] := by
  obtain ⟨c1, c2, rfl, ⟨rfl, _⟩, c3, c4, rfl, ⟨rfl, _⟩, rfl⟩ := h
  rfl
end cells
section told
variable {w : W0} {w' : World} {e : Ending} {v c : Value} {x y q : Rat} {k j : Nat} {B : Bd}
theorem sV (hv : v.oneCell' = true) : RepS B w' [.ro false (pV v)] [v] [] := RepS.one_of ⟨⟨rfl, hv⟩, rfl⟩
theorem sQ {a b c d : Value} (h : QB w' a b c d q k) : RepS B w' [.ro false (pQ q k)] [a, b, c, d] [] := RepS.one_of ⟨⟨a, b, c, d, rfl, h⟩, rfl⟩
theorem sD {a b d : Value} (h : DQ w' a b d q k) : RepS B w' [.ro false (pD q k)] [a, b, d] [] := RepS.one_of ⟨⟨a, b, d, rfl, h⟩, rfl⟩
theorem tV (h : e = .returned v ∧ Below w.w.heap.size w.w w') (hv : v.oneCell' = true) : TellsA w [none] (fun _ => [.ro false (pV v)]) e w' := by
  obtain ⟨rfl, hb⟩ := h
  exact ⟨[v], [], fun _ => 0, rfl, List.nodup_nil, sV hv, hb⟩
theorem tQ (h : ∃ v, e = .returned v ∧ RatB w' v q k ∧ Below w.w.heap.size w.w w') : TellsA w [some 4] (fun _ => [.ro false (pQ q k)]) e w' := by
  obtain ⟨v, rfl, ⟨a, b, c, d, rfl, h⟩, hb⟩ := h
  exact ⟨[a, b, c, d], [], fun _ => 0, rfl, List.nodup_nil, sQ h, hb⟩
theorem tSV (h : ∃ v, e = .returned (.tuple #[v, c]) ∧ SpB w' v x y k ∧ Below w.w.heap.size w.w w') (hv : c.oneCell' = true) : TellsA w [some 8, none] (fun _ => [.ro false (pQ x k), .ro false (pQ y k), .ro false (pV c)]) e w' := by
  obtain ⟨v, rfl, ⟨a, b, c1, d, a', b', c', d', rfl, h⟩, hb⟩ := h
  exact ⟨[a, b, c1, d, a', b', c', d', c], [], fun _ => 0, rfl, List.nodup_nil, (sQ h.1).app ((sQ h.2).app (sV hv)), hb⟩
theorem tEV (h : ∃ v, e = .returned (.tuple #[v, c]) ∧ DsB w' v x y k ∧ Below w.w.heap.size w.w w') (hv : c.oneCell' = true) : TellsA w [some 6, none] (fun _ => [.ro false (pD x k), .ro false (pD y k), .ro false (pV c)]) e w' := by
  obtain ⟨v, rfl, ⟨a, b, d, a', b', d', rfl, h⟩, hb⟩ := h
  exact ⟨[a, b, d, a', b', d', c], [], fun _ => 0, rfl, List.nodup_nil, (sD h.1).app ((sD h.2).app (sV hv)), hb⟩
theorem sK : ∀ {cs : List Value}, cs.all Value.oneCell' = true → RepS B w' (cs.map fun v => .ro false (pV v)) cs []
  | [], _ => ⟨rfl, rfl⟩
  | v :: cs, h => by
    simp only [List.all_cons, Bool.and_eq_true] at h
    exact (sV (B := B) (w' := w') h.1).app (sK h.2)
theorem tK {V : Value} {sh : List (Option Nat)} (cs : List Value) (h : e = .returned V ∧ Below w.w.heap.size w.w w') (hV : (mkSV sh 0).den [] [cs] = V) (hc : cs.all Value.oneCell' = true) : TellsA w sh (fun _ => cs.map fun v => .ro false (pV v)) e w' := by
  obtain ⟨rfl, hb⟩ := h
  exact ⟨cs, [], fun _ => 0, by rw [hV], List.nodup_nil, sK hc, hb⟩
end told
theorem qcmp_ct (x y : Rat) (k j : Nat) (hk0 : k ≤ 1000000 := by omega) (hk1 : j ≤ 1000000 := by omega) : Ct Tryz.prog JT 40 [some 4, some 4] [[pQ (x) (k)], [pQ (y) (j)]] [none] (fun _ => [.ro false (pV (.int .i64 (cmpQ x y)))]) := by
  intro w0 E hJ hA
  obtain ⟨c1, E1, rfl, _, h1, c2, E2, rfl, _, h2, hE⟩ := hA
  obtain ⟨a1, b1, c1, d1, rfl, q1⟩ := rQ h1
  obtain ⟨a2, b2, c2, d2, rfl, q2⟩ := rQ h2
  subst hE
  exact (qcmp_any _ _ x y k j w0.w ⟨_, _, _, _, rfl, q1⟩ ⟨_, _, _, _, rfl, q2⟩ hk0 hk1).mono fun e w1 h => tV h rfl
theorem qneg_ct (x : Rat) (k : Nat) (hk0 : k ≤ 1000000 := by omega) : Ct Tryz.prog JT 88 [some 4] [[pQ (x) (k)]] [some 4] (fun _ => [.ro false (pQ (-x) (k))]) := by
  intro w0 E hJ hA
  obtain ⟨c1, E1, rfl, _, h1, hE⟩ := hA
  obtain ⟨a1, b1, c1, d1, rfl, q1⟩ := rQ h1
  subst hE
  exact (qneg_any _ x k w0.w ⟨_, _, _, _, rfl, q1⟩ hk0).mono fun e w1 h => tQ h
theorem qadd_ct (x y : Rat) (k j : Nat) (hk0 : k ≤ 200000 := by omega) (hk1 : j ≤ 200000 := by omega) : Ct Tryz.prog JT 42 [some 4, some 4] [[pQ (x) (k)], [pQ (y) (j)]] [some 4] (fun _ => [.ro false (pQ (x + y) (k + j + 1))]) := by
  intro w0 E hJ hA
  obtain ⟨c1, E1, rfl, _, h1, c2, E2, rfl, _, h2, hE⟩ := hA
  obtain ⟨a1, b1, c1, d1, rfl, q1⟩ := rQ h1
  obtain ⟨a2, b2, c2, d2, rfl, q2⟩ := rQ h2
  subst hE
  exact (qadd_any _ _ x y k j w0.w ⟨_, _, _, _, rfl, q1⟩ ⟨_, _, _, _, rfl, q2⟩ hk0 hk1).mono fun e w1 h => tQ h
theorem mid5_ct (x y : Rat) (k : Nat) (hk0 : k ≤ 90000 := by omega) : Ct Tryz.prog JT 51 [some 8] [[pQ (x) (k), pQ (y) (k)]] [some 4] (fun _ => [.ro false (pQ ((x + y) / 2) (k + k + 1 + 2))]) := by
  intro w0 E hJ hA
  obtain ⟨c1, E1, rfl, _, h1, hE⟩ := hA
  obtain ⟨a1, b1, c1, d1, e1, f1, g1, i1, rfl, q1⟩ := rS h1
  subst hE
  exact (mid5_any _ x y k w0.w ⟨_, _, _, _, _, _, _, _, rfl, q1⟩ hk0).mono fun e w1 h => tQ h
theorem width5_ct (x y : Rat) (k : Nat) (hk0 : k ≤ 90000 := by omega) : Ct Tryz.prog JT 41 [some 8] [[pQ (x) (k), pQ (y) (k)]] [some 4] (fun _ => [.ro false (pQ (y - x) (k + k + 1))]) := by
  intro w0 E hJ hA
  obtain ⟨c1, E1, rfl, _, h1, hE⟩ := hA
  obtain ⟨a1, b1, c1, d1, e1, f1, g1, i1, rfl, q1⟩ := rS h1
  subst hE
  exact (width_any _ x y k w0.w ⟨_, _, _, _, _, _, _, _, rfl, q1⟩ hk0).mono fun e w1 h => tQ h
theorem plain5_ct (x y : Rat) (k : Nat) (hk0 : k ≤ 200000 := by omega) : Ct Tryz.prog JT 48 [some 8] [[pQ (x) (k), pQ (y) (k)]] [some 2] (fun _ => [.ro false (pV (.string (ratS x))), .ro false (pV (.string (ratS y)))]) := by
  intro w0 E hJ hA
  obtain ⟨c1, E1, rfl, _, h1, hE⟩ := hA
  obtain ⟨a1, b1, c1, d1, e1, f1, g1, i1, rfl, q1⟩ := rS h1
  subst hE
  exact (plain_any _ x y k w0.w hJ ⟨_, _, _, _, _, _, _, _, rfl, q1⟩ hk0).mono fun e w1 h => tK [.string (ratS x), .string (ratS y)] h rfl rfl
theorem sparse_ct (s r : ByteArray) (hs : s.size ≤ 9223372036854775807) (hr : r.size ≤ 9223372036854775807) (h : SpOk s r) : Ct Tryz.prog JT 80 [some 2] [[pV (.string s), pV (.string r)]] [some 8, none] (fun _ => [.ro false (pQ (ratVal s) (500)), .ro false (pQ (ratVal r) (500)), .ro false (pV (.int .i64 0))]) := by
  intro w0 E hJ hA
  obtain ⟨c1, E1, rfl, _, h1, hE⟩ := hA
  obtain rfl := rP h1
  subst hE
  exact (sparseY s r w0.w hs hr h).mono fun e w1 h => tSV h rfl
theorem sparseN_ct (s r : ByteArray) (hs : s.size ≤ 9223372036854775807) (hr : r.size ≤ 9223372036854775807) (h : ¬ SpOk s r) : Ct Tryz.prog JT 80 [some 2] [[pV (.string s), pV (.string r)]] [some 8, none] (fun _ => [.ro false (pV (.bool false)), .ro false (pV (.slice none 0 0)), .ro false (pV (.bool false)), .ro false (pV (.slice none 0 0)), .ro false (pV (.bool false)), .ro false (pV (.slice none 0 0)), .ro false (pV (.bool false)), .ro false (pV (.slice none 0 0)), .ro false (pV (.int .i64 (spCode s r)))]) := by
  intro w0 E hJ hA
  obtain ⟨c1, E1, rfl, _, h1, hE⟩ := hA
  obtain rfl := rP h1
  subst hE
  exact (sparseN s r w0.w hs hr h).mono fun e w1 h => tK [.bool false, .slice none 0 0, .bool false, .slice none 0 0, .bool false, .slice none 0 0, .bool false, .slice none 0 0, .int .i64 (spCode s r)] h rfl rfl
theorem dsparse_ct (s r : ByteArray) (hs : s.size ≤ 9223372036854775807) (hr : r.size ≤ 9223372036854775807) (h : SpOk s r) : Ct Tryz.prog JT 44 [some 2] [[pV (.string s), pV (.string r)]] [some 6, none] (fun _ => [.ro false (pD (ratVal s) (500)), .ro false (pD (ratVal r) (500)), .ro false (pV (.int .i64 0))]) := by
  intro w0 E hJ hA
  obtain ⟨c1, E1, rfl, _, h1, hE⟩ := hA
  obtain rfl := rP h1
  subst hE
  exact (dsparseY s r w0.w hs hr h).mono fun e w1 h => tEV h rfl
theorem dsparseN_ct (s r : ByteArray) (hs : s.size ≤ 9223372036854775807) (hr : r.size ≤ 9223372036854775807) (h : ¬ SpOk s r) : Ct Tryz.prog JT 44 [some 2] [[pV (.string s), pV (.string r)]] [some 6, none] (fun _ => [.ro false (pV (.bool false)), .ro false (pV (.slice none 0 0)), .ro false (pV (.slice none 0 0)), .ro false (pV (.bool false)), .ro false (pV (.slice none 0 0)), .ro false (pV (.slice none 0 0)), .ro false (pV (.int .i64 (spCode s r)))]) := by
  intro w0 E hJ hA
  obtain ⟨c1, E1, rfl, _, h1, hE⟩ := hA
  obtain rfl := rP h1
  subst hE
  exact (dsparseN s r w0.w hs hr h).mono fun e w1 h => tK [.bool false, .slice none 0 0, .slice none 0 0, .bool false, .slice none 0 0, .slice none 0 0, .int .i64 (spCode s r)] h rfl rfl
theorem dcmp_ct (x y : Rat) (k j : Nat) (hk0 : k ≤ 3000 := by omega) (hk1 : j ≤ 3000 := by omega) : Ct Tryz.prog JT 45 [some 3, some 3] [[pD (x) (k)], [pD (y) (j)]] [none] (fun _ => [.ro false (pV (.int .i64 (cmpQ x y)))]) := by
  intro w0 E hJ hA
  obtain ⟨c1, E1, rfl, _, h1, c2, E2, rfl, _, h2, hE⟩ := hA
  obtain ⟨a1, b1, d1, rfl, q1⟩ := rD h1
  obtain ⟨a2, b2, d2, rfl, q2⟩ := rD h2
  subst hE
  exact (dcmp_any _ _ x y k j w0.w ⟨_, _, _, rfl, q1⟩ ⟨_, _, _, rfl, q2⟩ hk0 hk1).mono fun e w1 h => tV h rfl
theorem ddyadic_ct (x : Rat) (k : Nat) (hk0 : k ≤ 8000 := by omega) : Ct Tryz.prog JT 46 [some 3] [[pD (x) (k)]] [none] (fun _ => [.ro false (pV (.bool (decide (DyOk x))))]) := by
  intro w0 E hJ hA
  obtain ⟨c1, E1, rfl, _, h1, hE⟩ := hA
  obtain ⟨a1, b1, d1, rfl, q1⟩ := rD h1
  subst hE
  exact (ddyadic_any _ x k w0.w ⟨_, _, _, rfl, q1⟩ hk0).mono fun e w1 h => tV h rfl
theorem is5_ct (x y : Rat) (k j : Nat) (hk0 : k ≤ 200000 := by omega) (hk1 : j ≤ 200000 := by omega) : Ct Tryz.prog JT 47 [some 8, some 6] [[pQ (x) (k), pQ (y) (k)], [pD (x) (j), pD (y) (j)]] [none] (fun _ => [.ro false (pV (.bool true))]) := by
  intro w0 E hJ hA
  obtain ⟨c1, E1, rfl, _, h1, c2, E2, rfl, _, h2, hE⟩ := hA
  obtain ⟨a1, b1, c1, d1, e1, f1, g1, i1, rfl, q1⟩ := rS h1
  obtain ⟨a2, b2, c2, d2, e2, f2, rfl, q2⟩ := rE h2
  subst hE
  exact (is5_any _ _ x y k j w0.w ⟨_, _, _, _, _, _, _, _, rfl, q1⟩ ⟨_, _, _, _, _, _, rfl, q2⟩ hk0 hk1 hJ).mono fun e w1 h => tV h rfl
end Go.Proofs.YtkekgmdofgkbcaaGreatDoor

namespace Go.Proofs.YtkekgmdofgkbcaaGreatDoor
open Go.RowKit Cin
def spanR : Rty := ⟨92, 8, [190], []⟩
abbrev pBox (ss : List (Rat × Rat)) (k : Nat) : Pd := pRows spanR (ss.map fun s => [pQ s.1 k, pQ s.2 k])
def rightB (ss : List (Rat × Rat)) : Bool := decide (1 ≤ ss.length) && decide (ss.length ≤ 3) && ss.all fun s => decide (s.1 < s.2)
theorem at_some {α : Type} {l : List α} {i : Nat} (h : i < l.length) : ∃ x, l[i]? = some x := ⟨l[i], by simp [h]⟩
theorem row_at {ss : List (Rat × Rat)} {i k : Nat} {s : Rat × Rat} (h : ss[i]? = some s) : (ss.map fun s => [pQ s.1 k, pQ s.2 k])[i]? = some [pQ s.1 k, pQ s.2 k] := by simp [h]
theorem right_ct (ss : List (Rat × Rat)) (k : Nat) (hk : k ≤ 1000000 := by omega) : Ct Tryz.prog JT 15 [none] [[pBox ss k]] [none] (fun _ => [.ro false (pV (.bool (rightB ss)))]) := by
  refine aCt (D := DD) hMix (tr := (.em (.pr (.call (.mk (.builtin .len) #[.tmp 0] #[26])) 3 [.s (.c 0 0)]) (.em (.pr (.binOp .lss 3 (.tmp 0) (.const (.int .i64 1)) 3) 4 [.s (.c 1 0), .s (.k (.int .i64 1))]) (.cond (.c 2 0) (.ret (.v (.s (.k (.bool false))))) (.em (.pr (.call (.mk (.builtin .len) #[.tmp 0] #[26])) 3 [.s (.c 0 0)]) (.em (.pr (.binOp .gtr 3 (.tmp 0) (.const (.int .i64 3)) 3) 4 [.s (.c 3 0), .s (.k (.int .i64 3))]) (.cond (.c 4 0) (.ret (.v (.s (.k (.bool false))))) (.em (.pr (.call (.mk (.builtin .len) #[.tmp 0] #[26])) 3 [.s (.c 0 0)]) (.loop 0 [.k (.bool false), .k (.int .i64 0)] (.em (.pr (.binOp .lss 3 (.tmp 0) (.tmp 1) 3) 0 [.s (.c 6 1), .s (.c 5 0)]) (.cond (.c 7 0) (.em (.pr (.indexAddr 26 (.tmp 0) (.tmp 1)) 0 [.s (.c 0 0), .s (.c 6 1)]) (.em (.ld (.load 92 (.tmp 0)) 92 [.s (.c 8 0)] (some 8)) (.em (.call 40 [.g [.c 9 0, .c 9 1, .c 9 2, .c 9 3], .g [.c 9 4, .c 9 5, .c 9 6, .c 9 7]] [none]) (.em (.pr (.binOp .geq 3 (.tmp 0) (.const (.int .i64 0)) 3) 4 [.s (.c 10 0), .s (.k (.int .i64 0))]) (.cond (.c 11 0) (.ret (.v (.s (.k (.bool false))))) (.em (.pr (.binOp .add 3 (.tmp 0) (.const (.int .i64 1)) 3) 3 [.s (.c 6 1), .s (.k (.int .i64 1))]) (.back 0 [.c 6 0, .c 12 0]))))))) (.ret (.v (.s (.k (.bool true)))))))))))))))) (by kernel_rfl) (by kernel_rfl) (by kernel_rfl) rfl (fun w0 => ?_)
  refine aLen rfl (List.length_map _) ?_
  refine aPr rfl (prLt rfl rfl) rfl ?_
  refine aIf rfl (fun h => ?_) (fun h => ?_)
  · have e : rightB ss = false := by simp at h; simp [rightB]; omega
    exact aRet (fun _ => 0) rfl rfl (by rw [e]; rfl)
  refine aLen rfl (List.length_map _) ?_
  refine aPr rfl (prGt rfl rfl) rfl ?_
  refine aIf rfl (fun h1 => ?_) (fun h1 => ?_)
  · have e : rightB ss = false := by simp at h1; simp [rightB]; omega
    exact aRet (fun _ => 0) rfl rfl (by rw [e]; rfl)
  refine aLen rfl (List.length_map _) ?_
  refine aLoop (fun i : Nat => [.ro true (pV (.bool false)), .ro true (pV (.int .i64 i))]) (fun i => i ≤ ss.length ∧ ∀ j s, j < i → ss[j]? = some s → s.1 < s.2) (fun i => ss.length - i) 0 rfl ⟨Nat.zero_le _, fun j s hj => by omega⟩ (fun i ⟨hi, hs⟩ => ?_)
  refine aPr rfl (prLt rfl rfl) rfl ?_
  refine aIf rfl (fun h2 => ?_) (fun h2 => ?_)
  · have hlt : i < ss.length := by simpa using h2
    obtain ⟨s, he⟩ := at_some hlt
    refine aIdx rfl rfl (fun _ => rfl) (by omega) (row_at he) ?_
    refine aLd rfl rfl rfl ?_
    refine aCall rfl (qcmp_ct _ _ _ _) (fun γ => ?_)
    refine aPr rfl (prGe rfl rfl) rfl ?_
    refine aIf rfl (fun h3 => ?_) (fun h3 => ?_)
    · have e : rightB ss = false := by
        have := cT_ge h3
        simp only [rightB, Bool.and_eq_false_iff, List.all_eq_false]
        exact .inr ⟨s, List.mem_of_getElem? he, by simp; grind⟩
      exact aRet (fun _ => 0) rfl rfl (by rw [e]; rfl)
    · have hc := cF_ge h3
      refine aPr rfl (prAddI rfl rfl (by simp at h h1; omega) (by simp at h h1; omega)) rfl ?_
      refine aBack rfl rfl ⟨i + 1, rfl, rfl, ⟨hlt, fun j s' hj hs' => ?_⟩, by omega⟩
      by_cases hji : j = i
      · subst hji; rw [he] at hs'; cases hs'; exact hc
      · exact hs j s' (by omega) hs'
  · have e : rightB ss = true := by
      have : i = ss.length := by have : ¬ i < ss.length := (by simpa using h2); omega
      simp at h h1
      simp only [rightB, Bool.and_eq_true, decide_eq_true_eq, List.all_eq_true]
      refine ⟨⟨by omega, by omega⟩, fun s hm => ?_⟩
      obtain ⟨j, hj, rfl⟩ := List.getElem_of_mem hm
      exact hs j _ (by omega) (List.getElem?_eq_getElem hj)
    exact aRet (fun _ => 0) rfl rfl (by rw [e]; rfl)
end Go.Proofs.YtkekgmdofgkbcaaGreatDoor

namespace Go.Proofs.YtkekgmdofgkbcaaGreatDoor
open Go.RowKit Cin
def filled (xs : List (List Pd)) (z : List Pd) (i : Nat) : List (List Pd) := xs.take i ++ List.replicate (xs.length - i) z
theorem filled_zero (xs : List (List Pd)) (z : List Pd) : List.replicate xs.length z = filled xs z 0 := by simp [filled]
theorem filled_len (xs : List (List Pd)) (z : List Pd) {i : Nat} (h : i ≤ xs.length) : (filled xs z i).length = xs.length := by simp [filled]; omega
theorem filled_at (xs : List (List Pd)) (z : List Pd) {i : Nat} (h : i < xs.length) : (filled xs z i)[i]? = some z := by
  unfold filled
  rw [List.getElem?_append_right (by simp; omega), List.length_take, Nat.min_eq_left (by omega), Nat.sub_self, List.getElem?_replicate, if_pos (by omega)]
theorem filled_set (xs : List (List Pd)) (z : List Pd) {i : Nat} {row : List Pd} (h : xs[i]? = some row) : (filled xs z i).set i row = filled xs z (i + 1) := by
  have hlt := (List.getElem?_eq_some_iff.1 h).1
  refine List.ext_getElem? fun j => ?_
  unfold filled
  rw [List.getElem?_set]
  by_cases e : i = j
  · subst e
    rw [if_pos rfl, if_pos (by simp; omega), List.getElem?_append_left (by simp; omega), List.getElem?_take, if_pos (by omega), h]
  · rw [if_neg e]
    by_cases hj : j < i
    · rw [List.getElem?_append_left (by simp; omega), List.getElem?_append_left (by simp; omega), List.getElem?_take, List.getElem?_take, if_pos hj, if_pos (by omega)]
    · rw [List.getElem?_append_right (by simp; omega), List.getElem?_append_right (by simp; omega), List.getElem?_replicate, List.getElem?_replicate]
      simp only [List.length_take]
      by_cases hl : j < xs.length
      · rw [if_pos (by omega), if_pos (by omega)]
      · rw [if_neg (by omega), if_neg (by omega)]
theorem filled_all (xs : List (List Pd)) (z : List Pd) : filled xs z xs.length = xs := by simp [filled]
def DS : TypeId → Bool := fun t => t == 190 || t == 92
def zSpan : List Pd := [pV (.bool false), pV (.slice none 0 0), pV (.bool false), pV (.slice none 0 0), pV (.bool false), pV (.slice none 0 0), pV (.bool false), pV (.slice none 0 0)]
abbrev rowsB (ss : List (Rat × Rat)) (k : Nat) : List (List Pd) := ss.map fun s => [pQ s.1 k, pQ s.2 k]
theorem bfresh_ct (ss : List (Rat × Rat)) (k : Nat) (hl : ss.length ≤ 1000) (hk : k ≤ 1000000 := by omega) : Ct Tryz.prog JT 50 [none] [[pBox ss k]] [none] (fun γ => [.own (γ 0) spanR (rowsB ss k)]) := by
  refine aCt (D := DS) hMix (tr := (.em (.pr (.call (.mk (.builtin .len) #[.tmp 0] #[26])) 3 [.s (.c 0 0)]) (.em (.wx (.makeSlice 26 (.tmp 0) (.tmp 1)) 26 [.s (.c 1 0), .s (.c 1 0)] (some none)) (.em (.pr (.call (.mk (.builtin .len) #[.tmp 0] #[26])) 3 [.s (.c 0 0)]) (.loop 0 [.k (.int .i64 0)] (.em (.pr (.binOp .lss 3 (.tmp 0) (.tmp 1) 3) 0 [.s (.c 4 0), .s (.c 3 0)]) (.cond (.c 5 0) (.em (.pr (.indexAddr 26 (.tmp 0) (.tmp 1)) 0 [.s (.c 0 0), .s (.c 4 0)]) (.em (.ld (.load 92 (.tmp 0)) 92 [.s (.c 6 0)] (some 8)) (.em (.wx (.alloc 92) 0 [] (some none)) (.em (.wx (.store 92 (.tmp 0) (.tmp 1)) 0 [.s (.c 8 0), .g [.c 7 0, .c 7 1, .c 7 2, .c 7 3, .c 7 4, .c 7 5, .c 7 6, .c 7 7]] none) (.em (.pr (.fieldAddr 92 (.tmp 0) 0) 0 [.s (.c 8 0)]) (.em (.pr (.fieldAddr 92 (.tmp 0) 1) 0 [.s (.c 8 0)]) (.em (.ld (.load 54 (.tmp 0)) 54 [.s (.c 10 0)] (some 4)) (.em (.ld (.load 54 (.tmp 0)) 54 [.s (.c 11 0)] (some 4)) (.em (.call 88 [.g [.c 12 0, .c 12 1, .c 12 2, .c 12 3]] [some 4]) (.em (.call 88 [.g [.c 14 0, .c 14 1, .c 14 2, .c 14 3]] [some 4]) (.em (.call 88 [.g [.c 13 0, .c 13 1, .c 13 2, .c 13 3]] [some 4]) (.em (.call 88 [.g [.c 16 0, .c 16 1, .c 16 2, .c 16 3]] [some 4]) (.em (.pr (.indexAddr 26 (.tmp 0) (.tmp 1)) 0 [.s (.c 2 0), .s (.c 4 0)]) (.em (.wx (.store 92 (.tmp 0) (.tmp 1)) 0 [.s (.c 18 0), .g [.c 15 0, .c 15 1, .c 15 2, .c 15 3, .c 17 0, .c 17 1, .c 17 2, .c 17 3]] none) (.em (.pr (.binOp .add 3 (.tmp 0) (.const (.int .i64 1)) 3) 3 [.s (.c 4 0), .s (.k (.int .i64 1))]) (.back 0 [.c 20 0])))))))))))))))) (.ret (.v (.s (.c 2 0))))))))))) (by kernel_rfl) (by kernel_rfl) (by kernel_rfl) rfl (fun w0 => ?_)
  refine aLen rfl (List.length_map _) ?_
  refine aMake ss.length spanR (zs := ZeroS) (zrow := zSpan) rfl rfl rfl rfl (fun g => ?_) (by show _ * 8 ≤ _; omega)
  refine aLen rfl (List.length_map _) ?_
  have e0 : List.replicate ss.length zSpan = filled (rowsB ss k) zSpan 0 := by have := filled_zero (rowsB ss k) zSpan; rwa [List.length_map] at this
  rw [e0]
  refine aLoopU [(2, 0, fun i : Nat => .own g spanR (filled (rowsB ss k) zSpan i))] (fun i : Nat => [.ro true (pV (.int .i64 i))]) (fun i => i ≤ ss.length) (fun i => ss.length - i) 0 (Nat.zero_le _) (fun i hi => ?_)
  refine aPr rfl (prLt rfl rfl) rfl ?_
  refine aIf rfl (fun h2 => ?_) (fun h2 => ?_)
  · have hlt : i < ss.length := by simpa using h2
    obtain ⟨s, he⟩ := at_some hlt
    refine aIdx rfl rfl (fun _ => rfl) (by omega) (row_at he) ?_
    refine aLd rfl rfl rfl ?_
    refine aAlloc spanR (zs := ZeroS) (row := zSpan) rfl (fun g8 => ?_)
    refine aStore 8 0 0 0 rfl rfl rfl rfl rfl rfl rfl rfl ?_
    refine aFieldK (off := 0) rfl (by kernel_rfl) ?_
    refine aFieldK (off := 4) rfl (by kernel_rfl) ?_
    refine aLdK 8 0 0 0 rfl rfl rfl rfl rfl rfl ?_
    refine aLdK 8 0 0 4 rfl rfl rfl rfl rfl rfl ?_
    refine aCall rfl (qneg_ct _ _) (fun γ => ?_)
    refine aCall rfl (qneg_ct _ _) (fun γ => ?_)
    refine aCall rfl (qneg_ct _ _) (fun γ => ?_)
    refine aCall rfl (qneg_ct _ _) (fun γ => ?_)
    rw [Rat.neg_neg, Rat.neg_neg]
    refine aIdxO rfl rfl (fun _ => rfl) (by omega) (by rw [filled_len _ _ (by simp; omega)]; simp; omega) ?_
    refine aStore 2 0 i 0 rfl rfl rfl rfl (filled_at _ _ (by simpa using hlt)) (by show _ = i * 8 + 0; rfl) rfl rfl ?_
    rw [filled_set _ _ (row_at he)]
    refine aPr rfl (prAddI rfl rfl (by omega) (by omega)) rfl ?_
    exact aBack rfl rfl ⟨i + 1, rfl, rfl, hlt, by omega⟩
  · have hi2 : i = ss.length := by have : ¬ i < ss.length := (by simpa using h2); omega
    subst hi2
    refine aRet (fun _ => g) rfl rfl ?_
    have := filled_all (rowsB ss k) zSpan
    rw [List.length_map] at this
    rw [this]; rfl
end Go.Proofs.YtkekgmdofgkbcaaGreatDoor
