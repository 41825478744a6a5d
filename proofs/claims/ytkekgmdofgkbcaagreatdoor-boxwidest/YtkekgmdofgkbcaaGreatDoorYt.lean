/- Contracts of package dyad: New, Of, Rat, Parts, Cmp, Parse, Text. -/
import Derived.Test.YtkekgmdofgkbcaaGreatDoorYs
import Derived.Test.YtkekgmdofgkbcaaGreatDoorYr
import Derived.Test.YtkekgmdofgkbcaaGreatDoorYq
import Derived.Test.YtkekgmdofgkbcaaGreatDoorYj
import Derived.Test.YtkekgmdofgkbcaaGreatDoorYn
import Derived.Test.YtkekgmdofgkbcaaGreatDoorYg
import Derived.Laws.StructEq
import Derived.ChangeKeysEq
namespace Go.Proofs.YtkekgmdofgkbcaaGreatDoor
open Go.RowKit Cin
theorem den_lt {w : World} {a b c d : Value} {q : Rat} {k : Nat} (h : QB w a b c d q k) : q.den < pw k := h.2.2
theorem yof_yes (v : Value) (q : Rat) (k : Nat) (w : World) (hT : Tabs w) (h : RatB w v q k) (hk : k ≤ 8000) (hq : DyOk q) :
    Calls Tryz.prog 133 #[v] w fun r w' => ∃ v', r = .returned (.tuple #[v', .bool true]) ∧ DyB w' v' q k (64 * k) ∧ Below w.heap.size w w' := by
  obtain ⟨a, b, c, d, rfl, h⟩ := h
  have hd := den_lt h
  have htz := tz_pw hd
  have hbl := bl_pw hd
  refine go (fun w => QB w a b c d q k) [[a, b, c, d]] [some 4] (tr := (.em (.call 176 [.g [.c 0 0, .c 0 1, .c 0 2, .c 0 3]] [some 2]) (.em (.call 130 [.g [.c 1 0, .c 1 1]] [some 1]) (.em (.call 177 [.g [.c 2 0]] [none]) (.em (.pr (.binOp .add 3 (.tmp 0) (.const (.int .i64 1)) 3) 3 [.s (.c 3 0), .s (.k (.int .i64 1))]) (.em (.call 178 [.g [.c 2 0]] [none]) (.em (.pr (.binOp .neq 3 (.tmp 0) (.tmp 1) 3) 4 [.s (.c 4 0), .s (.c 5 0)]) (.cond (.c 6 0) (.ret (.t [.g [.k (.bool false), .k (.slice none 0 0), .k (.int .i64 0)], .s (.k (.bool false))])) (.em (.call 180 [.g [.c 0 0, .c 0 1, .c 0 2, .c 0 3]] [some 2]) (.em (.call 177 [.g [.c 2 0]] [none]) (.em (.pr (.unOp .neg 3 (.tmp 0)) 3 [.s (.c 8 0)]) (.em (.call 179 [.g [.c 7 0, .c 7 1], .s (.c 9 0)] [some 3]) (.ret (.t [.g [.c 10 0, .c 10 1, .c 10 2], .s (.k (.bool true))])))))))))))))) (by kernel_rfl) (by kernel_rfl) (by kernel_rfl) (mQ _ _ _ _ _ _) h ⟨qpl h, trivial⟩ ?_
  refine wInt hU (fun w b h => qden_any _ q k w ⟨_, _, _, _, rfl, h⟩ (by omega)) (fun x1 y1 => ?_)
  refine wNat hU (n := q.den) (m := k) (fun w b ⟨h1, _⟩ => by have := abs_any _ _ k w h1 (by omega); rwa [Int.natAbs_natCast] at this) (fun x2 => ?_)
  refine wVal (fun w b ⟨h2, _⟩ => zerosI _ q.den k w (hT.below b) h2 (by omega)) rfl ?_
  refine wPr (prAddI rfl rfl (by show _ ≤ _ + (1 : Int); omega) (by show _ + (1 : Int) ≤ _; omega)) rfl ?_
  refine wVal (fun w b ⟨h2, _⟩ => bitsI _ q.den k w h2 (by omega)) rfl ?_
  refine wPr (prNe rfl rfl) rfl ?_
  refine wFalse (by have := hq; unfold DyOk at this; show Value.bool (((tzOf q.den : Nat) : Int) + 1 != ((blOf q.den : Nat) : Int)) = _; rw [← this]; simp) ?_
  refine wInt hU (fun w b ⟨_, _, h⟩ => qnum_any _ q k w ⟨_, _, _, _, rfl, h⟩ (by omega)) (fun x3 y3 => ?_)
  refine wVal (fun w b ⟨_, h2, _⟩ => zerosI _ q.den k w (hT.below b) h2 (by omega)) rfl ?_
  refine wPr (prNegI rfl (by omega) (by omega)) rfl ?_
  refine wDy (q := q) (fun w b ⟨h3, _⟩ => by
    have := strip_any _ q.num (-(tzOf q.den : Int)) k (32 * k) w (hT.below b) h3 (by omega) (by omega) (by omega) (by omega)
    rw [hq.val, show 32 * k + 32 * k = 64 * k by omega] at this
    exact this) (fun x4 y4 => ?_)
  exact wRet fun w b ⟨h, _⟩ => ⟨_, rfl, ⟨_, _, rfl, h⟩, b⟩
theorem yof_no (v : Value) (q : Rat) (k : Nat) (w : World) (hT : Tabs w) (h : RatB w v q k) (hk : k ≤ 8000) (hq : ¬ DyOk q) :
    Calls Tryz.prog 133 #[v] w fun r w' => r = .returned (.tuple #[.agg #[.bool false, .slice none 0 0, .int .i64 0], .bool false]) ∧ Below w.heap.size w w' := by
  obtain ⟨a, b, c, d, rfl, h⟩ := h
  have hd := den_lt h
  have htz := tz_pw hd
  have hbl := bl_pw hd
  refine go (fun w => QB w a b c d q k) [[a, b, c, d]] [some 4] (tr := (.em (.call 176 [.g [.c 0 0, .c 0 1, .c 0 2, .c 0 3]] [some 2]) (.em (.call 130 [.g [.c 1 0, .c 1 1]] [some 1]) (.em (.call 177 [.g [.c 2 0]] [none]) (.em (.pr (.binOp .add 3 (.tmp 0) (.const (.int .i64 1)) 3) 3 [.s (.c 3 0), .s (.k (.int .i64 1))]) (.em (.call 178 [.g [.c 2 0]] [none]) (.em (.pr (.binOp .neq 3 (.tmp 0) (.tmp 1) 3) 4 [.s (.c 4 0), .s (.c 5 0)]) (.cond (.c 6 0) (.ret (.t [.g [.k (.bool false), .k (.slice none 0 0), .k (.int .i64 0)], .s (.k (.bool false))])) (.em (.call 180 [.g [.c 0 0, .c 0 1, .c 0 2, .c 0 3]] [some 2]) (.em (.call 177 [.g [.c 2 0]] [none]) (.em (.pr (.unOp .neg 3 (.tmp 0)) 3 [.s (.c 8 0)]) (.em (.call 179 [.g [.c 7 0, .c 7 1], .s (.c 9 0)] [some 3]) (.ret (.t [.g [.c 10 0, .c 10 1, .c 10 2], .s (.k (.bool true))])))))))))))))) (by kernel_rfl) (by kernel_rfl) (by kernel_rfl) (mQ _ _ _ _ _ _) h ⟨qpl h, trivial⟩ ?_
  refine wInt hU (fun w b h => qden_any _ q k w ⟨_, _, _, _, rfl, h⟩ (by omega)) (fun x1 y1 => ?_)
  refine wNat hU (n := q.den) (m := k) (fun w b ⟨h1, _⟩ => by have := abs_any _ _ k w h1 (by omega); rwa [Int.natAbs_natCast] at this) (fun x2 => ?_)
  refine wVal (fun w b ⟨h2, _⟩ => zerosI _ q.den k w (hT.below b) h2 (by omega)) rfl ?_
  refine wPr (prAddI rfl rfl (by show _ ≤ _ + (1 : Int); omega) (by show _ + (1 : Int) ≤ _; omega)) rfl ?_
  refine wVal (fun w b ⟨h2, _⟩ => bitsI _ q.den k w h2 (by omega)) rfl ?_
  refine wPr (prNe rfl rfl) rfl ?_
  refine wTrue (by unfold DyOk at hq; show Value.bool (((tzOf q.den : Nat) : Int) + 1 != ((blOf q.den : Nat) : Int)) = _; simp; omega) ?_
  exact wRet fun w b _ => ⟨rfl, b⟩
end Go.Proofs.YtkekgmdofgkbcaaGreatDoor

namespace Cin
open Go Go.RowKit
theorem lim_bit {xs : List Nat} (ho : Ok xs) (i : Nat) : lim xs (i / 32) / 2 ^ (i % 32) % 2 = val xs / 2 ^ i % 2 := by
  rw [pow2_split32 i, ← Nat.div_div_eq_div_mul, val_div_pw ho, val_drop_step]
  generalize val (xs.drop (i / 32 + 1)) = y
  generalize lim xs (i / 32) = z
  have ht : i % 32 < 32 := Nat.mod_lt _ (by decide)
  generalize i % 32 = t at *
  have e : 4294967296 = 2 ^ t * (2 * 2 ^ (31 - t)) := by
    rw [← Nat.mul_assoc, Nat.mul_comm (2 ^ t) 2, Nat.mul_assoc, ← Nat.pow_add, show t + (31 - t) = 31 by omega]
  rw [e, Nat.mul_assoc, Nat.add_mul_div_left _ _ (Nat.pow_pos (by decide)), Nat.mul_assoc, Nat.add_mul_mod_self_left]
theorem tz_more {x i : Nat} (h : 2 ^ i ∣ x) (hb : x / 2 ^ i % 2 = 0) : 2 ^ (i + 1) ∣ x := by
  obtain ⟨c, rfl⟩ := h
  rw [Nat.mul_div_cancel_left _ (Nat.pow_pos (by decide))] at hb
  rw [Nat.pow_succ]
  exact Nat.mul_dvd_mul_left _ (Nat.dvd_of_mod_eq_zero hb)
theorem tz_end {x i : Nat} (h : 2 ^ i ∣ x) (hb : x / 2 ^ i % 2 ≠ 0) : IsTz x i := by
  obtain ⟨c, rfl⟩ := h
  rw [Nat.mul_div_cancel_left _ (Nat.pow_pos (by decide))] at hb
  exact .inr ⟨c / 2, by congr 1; omega⟩
theorem tz_zero {xs : List Nat} (ho : Ok xs) (hn : Norm xs) (h : 2 ^ (32 * xs.length) ∣ val xs) : IsTz (val xs) (32 * xs.length) := by
  have hl := val_lt ho
  rw [pw_two] at hl
  have h0 := Nat.eq_zero_of_dvd_of_lt h hl
  have e : xs = [] := by
    rcases hn with e | e
    · exact e
    · exfalso
      rcases Nat.eq_zero_or_pos xs.length with h1 | h1
      · have := List.length_eq_zero_iff.1 h1
        subst this
        exact e rfl
      · have h2 := val_ge (.inr e) (fun h => by subst h; simp at h1)
        have := pw_pos (xs.length - 1)
        omega
  subst e
  exact .inl ⟨rfl, rfl⟩
end Cin
namespace Go.Proofs.YtkekgmdofgkbcaaGreatDoor
open Go.RowKit Cin
set_option maxRecDepth 100000 in
set_option maxHeartbeats 1000000 in
theorem rbit_any (v : Value) (xs : List Nat) (i : Nat) (w : World) (hs : Sl 190 .u32 w v xs) (ho : Ok xs) (hi : i < 32 * xs.length) (hl : xs.length ≤ 1000000) :
    Calls Tryz.prog 137 #[v, .int .i64 i] w fun e w' => e = .returned (.int .u32 (val xs / 2 ^ i % 2 : Nat)) ∧ w' = w := by
  obtain ⟨ad, cap, rfl, hc, _⟩ := hs.shape
  obtain ⟨len, hn⟩ : ∃ n : Nat, xs.length = n := ⟨_, rfl⟩
  obtain ⟨q, eq, eq'⟩ : ∃ q : Nat, (i : Int) / 32 = (q : Int) ∧ q = i / 32 := ⟨i / 32, by omega, rfl⟩
  obtain ⟨t, et, et'⟩ : ∃ t : Nat, (i : Int) % 32 = (t : Int) ∧ t = i % 32 := ⟨i % 32, by omega, rfl⟩
  obtain ⟨bk, off, rfl, hcell, hblt⟩ := hs.cell (i := q) (by omega)
  have hlim := lim_lt ho q
  obtain ⟨y, ey, ey'⟩ : ∃ y : Nat, ((lim xs q : Nat) : Int) / 2 ^ t = (y : Int) ∧ y = lim xs q / 2 ^ t := ⟨lim xs q / 2 ^ t, by simp, rfl⟩
  have hy : y < 4294967296 := by have := Nat.div_le_self (lim xs q) (2 ^ t); omega
  have hand : bits BinOp.and IntKind.u32 (y : Int) 1 = ((y % 2 : Nat) : Int) := by
    have := u32_and_nat y 1 hy (by decide)
    rw [show ((1 : Nat) : Int) = 1 from rfl] at this
    rw [this, Nat.and_one_is_mod]
  have HE := Lib.hid (show y % 2 = val xs / 2 ^ i % 2 by rw [← lim_bit ho i, ey', eq', et'])
  obtain ⟨z, ez⟩ : ∃ z : Nat, y % 2 = z := ⟨_, rfl⟩
  rw [ez] at hand
  rw [hn] at hc hi hl ⊢
  have EZ := Lib.hid ez
  have hq : q < len := by omega
  have ht : t < 32 := by omega
  have d0 : decide ((i : Int) < 0) = false := by rw [decide_eq_false_iff_not]; omega
  have d1 : decide ((len : Int) ≤ (q : Int)) = false := by rw [decide_eq_false_iff_not]; omega
  clear hs ho hn eq' et' ey' ez
  go_enter Tryz.func137, Tryz.ntmps137
  go_wp2
  go_ret
  exact ⟨ret_int (by rw [← HE.out, EZ.out]), rfl⟩
set_option maxRecDepth 100000 in
set_option maxHeartbeats 1000000 in
theorem rzeros_any (v : Value) (x k : Nat) (w : World) (h : RefB w v x k) (hk : k ≤ 1000000) :
    Calls Tryz.prog 86 #[v] w fun e w' => ∃ c : Nat, e = .returned (.int .i64 c) ∧ IsTz x c ∧ Below w.heap.size w w' := by
  obtain ⟨⟨xs, hs, ho, hnm, hval⟩, hx⟩ := h
  have HS0 := Lib.hid hs
  obtain ⟨ad, cap, rfl, hc, _⟩ := hs.shape
  have hl : xs.length ≤ k := norm_len hnm (by rw [hval]; exact hx)
  obtain ⟨len, hn⟩ : ∃ n : Nat, xs.length = n := ⟨_, rfl⟩
  have HN := Lib.hid hn
  rw [hn] at hl hc HS0 ⊢
  have HM := Lib.hid hnm
  have HV := Lib.hid hval
  have HO := Lib.hid ho
  have e32 : IntKind.i64.wrap (32 * (len : Int)) = ((32 * len : Nat) : Int) := by rw [IntWalk.i64_in _ (by omega)]; omega
  obtain ⟨m, em⟩ : ∃ m : Nat, 32 * len = m := ⟨_, rfl⟩
  rw [em] at e32
  have EM := Lib.hid em
  have hmb : m ≤ 32000000 := by omega
  have e33 : 32 * (len : Int) = (m : Int) := by omega
  clear hs hnm hval hx hn ho em
  go_enter Tryz.func86, Tryz.ntmps86
  go_wp2_with fail
  go_loopw [3] (fun cx wr => ∃ j : Nat, j ≤ m ∧ cx = .int .i64 j ∧ Hid (2 ^ j ∣ val xs) ∧ wr = w) (fun cx _ => m - (intOf cx).toNat)
  case atStart => exact ⟨0, Nat.zero_le _, rfl, Lib.hid (Nat.one_dvd _), rfl⟩
  case round =>
    obtain ⟨j, hj, rfl, HD, rfl⟩ := hrel
    by_cases hlt : j < m
    · have d0 : decide ((j : Int) < (m : Int)) = true := by rw [decide_eq_true_iff]; omega
      go_wp2_with fail
      refine (rbit_any _ xs j _ HS0.out HO.out (by have := EM.out; have := HN.out; omega) (by have := HN.out; omega)).mono ?_
      rintro e w1 ⟨rfl, rfl⟩
      by_cases hb : val xs / 2 ^ j % 2 = 0
      · have HB := Lib.hid (tz_more HD.out hb)
        rw [hb]
        clear hb
        have w1' : IntKind.i64.wrap ((j : Int) + 1) = (j : Int) + 1 := IntWalk.i64_in _ (by omega)
        go_wp2_with fail
        exact ⟨⟨j + 1, by omega, by go_num, HB, trivial⟩, by simp [intOf]; omega⟩
      · have hb1 : val xs / 2 ^ j % 2 = 1 := by omega
        have HB := Lib.hid (tz_end HD.out hb)
        rw [hb1]
        clear hb hb1
        go_wp2_with fail
        go_ret
        exact ⟨j, rfl, by have := HB.out; rwa [HV.out] at this, Below.refl _ _⟩
    · obtain rfl : m = j := by omega
      have HB := Lib.hid (tz_zero HO.out HM.out (by rw [HN.out, EM.out]; exact HD.out))
      have d0 : decide ((m : Int) < (m : Int)) = false := by simp
      go_wp2_with fail
      go_ret
      exact ⟨m, rfl, by have := HB.out; rwa [HV.out, HN.out, EM.out] at this, Below.refl _ _⟩
end Go.Proofs.YtkekgmdofgkbcaaGreatDoor

namespace Go.Proofs.YtkekgmdofgkbcaaGreatDoor
open Go.RowKit Cin
theorem rbitsI (v : Value) (x k : Nat) (w : World) (h : RefB w v x k) (hk : k ≤ 1000000) :
    Calls Tryz.prog 87 #[v] w fun e w' => e = .returned (.int .i64 (blOf x : Nat)) ∧ Below w.heap.size w w' :=
  (rbits_any v x k w h hk).mono fun _ _ ⟨j, e, hn, _, hw⟩ => ⟨by rw [e, hn.unique (blOf_ok x)], by rw [hw]; exact Below.refl _ _⟩
theorem rzerosI (v : Value) (x k : Nat) (w : World) (h : RefB w v x k) (hk : k ≤ 1000000) :
    Calls Tryz.prog 86 #[v] w fun e w' => e = .returned (.int .i64 (tzOf x : Nat)) ∧ Below w.heap.size w w' :=
  (rzeros_any v x k w h hk).mono fun _ _ ⟨j, e, hn, hb⟩ => ⟨by rw [e, hn.unique (tzOf_ok x)], hb⟩
instance (q : Rat) : Decidable (DyOk q) := inferInstanceAs (Decidable (_ = _))
theorem ddyadic_any (v : Value) (q : Rat) (k : Nat) (w : World) (h : DRatB w v q k) (hk : k ≤ 8000) :
    Calls Tryz.prog 46 #[v] w fun e w' => e = .returned (.bool (decide (DyOk q))) ∧ Below w.heap.size w w' := by
  obtain ⟨a, b, d, rfl, h⟩ := h
  have hbl := bl_pw h.2.2
  refine go (fun w => DQ w a b d q k) [[a, b, d]] [some 3] (tr := (.em (.call 85 [.g [.c 0 0, .c 0 1, .c 0 2]] [none]) (.em (.call 86 [.s (.c 1 0)] [none]) (.em (.call 85 [.g [.c 0 0, .c 0 1, .c 0 2]] [none]) (.em (.call 87 [.s (.c 3 0)] [none]) (.em (.pr (.binOp .sub 3 (.tmp 0) (.const (.int .i64 1)) 3) 3 [.s (.c 4 0), .s (.k (.int .i64 1))]) (.em (.pr (.binOp .eql 3 (.tmp 0) (.tmp 1) 3) 4 [.s (.c 2 0), .s (.c 5 0)]) (.ret (.v (.s (.c 6 0))))))))))) (by kernel_rfl) (by kernel_rfl) (by kernel_rfl) (mD _ _ _ _ _) h ⟨dpl h, trivial⟩ ?_
  refine wRef hU (fun w b h => dden_any _ q k w ⟨_, _, _, rfl, h⟩) (fun x1 => ?_)
  refine wVal (fun w b ⟨h1, _⟩ => rzerosI _ q.den k w h1 (by omega)) rfl ?_
  refine wRef hU (fun w b ⟨_, h⟩ => dden_any _ q k w ⟨_, _, _, rfl, h⟩) (fun x2 => ?_)
  refine wVal (fun w b ⟨h1, _⟩ => rbitsI _ q.den k w h1 (by omega)) rfl ?_
  refine wPr (prSubI rfl rfl (by show _ ≤ _ - (1 : Int); omega) (by show _ - (1 : Int) ≤ _; omega)) rfl ?_
  refine wPr (prEq rfl rfl) rfl ?_
  refine wRet fun w b _ => ⟨?_, b⟩
  show Ending.returned (.bool (((tzOf q.den : Nat) : Int) == ((blOf q.den : Nat) : Int) - 1)) = _
  congr 2
  by_cases hq : DyOk q
  · rw [decide_eq_true hq]; unfold DyOk at hq; rw [← hq]; simp
  · rw [decide_eq_false hq]; unfold DyOk at hq; simp; omega
theorem exp_num {q : Rat} : expOf q = (tzOf q.num.natAbs : Int) - (tzOf q.den : Int) := by unfold expOf; omega
end Go.Proofs.YtkekgmdofgkbcaaGreatDoor

namespace Cin
open Go Go.RowKit
structure RC (A : Rat) (b M0 X Y : Nat) (p : Int) (ex : Bool) : Prop where
  hA : A * (Y : Rat) = (X : Rat) * tp (-p)
  hY : 0 < Y
  h1 : M0 * Y ≤ X
  h2 : X < (M0 + 1) * Y
  h3 : 2 ^ (b - 1) ≤ M0
  h4 : M0 < 2 ^ b
  he : ex = true ↔ M0 * Y = X
theorem sgr_not (neg : Bool) (x : Rat) : sgr (!neg) x = -sgr neg x := by cases neg <;> simp [sgr]
theorem RC.fin {A a d : Rat} {b M0 X Y : Nat} {p : Int} {ex away : Bool} (h : RC A b M0 X Y p ex) (hb : 1 ≤ b) (ha : a = sgr (decide (a.num < 0)) A) (h0 : a.num ≠ 0)
    (hd : (IsDown b a d ∧ away = decide (a.num < 0)) ∨ (IsDown b (-a) (-d) ∧ away = decide (0 < a.num))) : sgr (decide (a.num < 0)) (((if (away && !ex) = true then M0 + 1 else M0 : Nat) : Rat) * tp (-p)) = d := by
  rcases hd with ⟨hd, rfl⟩ | ⟨hd, rfl⟩
  · have := round_down (neg := decide (a.num < 0)) hb h.hA h.hY h.h1 h.h2 h.h3 h.h4 h.he
    rw [← ha] at this
    exact this.unique hd
  · have e : decide (0 < a.num) = !decide (a.num < 0) := by
      by_cases hn : a.num < 0
      · rw [decide_eq_true hn, decide_eq_false (by omega)]; rfl
      · rw [decide_eq_false hn, decide_eq_true (by omega)]; rfl
    rw [e]
    have := round_down (neg := !decide (a.num < 0)) hb h.hA h.hY h.h1 h.h2 h.h3 h.h4 h.he
    rw [sgr_not, sgr_not, ← ha] at this
    have := this.unique hd
    rw [← Rat.neg_neg d, ← this, Rat.neg_neg]
end Cin
namespace Go.Proofs.YtkekgmdofgkbcaaGreatDoor
open Go.RowKit Cin
end Go.Proofs.YtkekgmdofgkbcaaGreatDoor

namespace Go.Proofs.YtkekgmdofgkbcaaGreatDoor
open Go.RowKit Cin
theorem odd_le (q : Rat) : (oddOf q).natAbs ≤ q.num.natAbs := by
  have := Nat.div_le_self q.num.natAbs (2 ^ tzOf q.num.natAbs)
  unfold oddOf
  generalize q.num.natAbs / 2 ^ tzOf q.num.natAbs = t at *
  split <;> omega
theorem DyQ.cut {w : World} {x y : Value} {q : Rat} {k K j : Nat} (h : DyQ w x y q k K) (hn : q.num.natAbs < pw j) (hd : q.den < pw j) : DyQ w x y q j (32 * j) := by
  have t1 := tz_pw hn
  have t2 := tz_pw hd
  refine ⟨⟨h.1.1, Nat.lt_of_le_of_lt (odd_le q) hn⟩, h.2.1, ?_, ?_⟩ <;> rw [exp_num] <;> omega
theorem len_le {s : ByteArray} (h : s.size ≤ maxLen) : s.size ≤ 9223372036854775807 := Nat.le_trans h (by unfold maxLen; omega)
end Go.Proofs.YtkekgmdofgkbcaaGreatDoor

namespace Go.Proofs.YtkekgmdofgkbcaaGreatDoor
open Go.RowKit Cin
def SpQ (w : World) (a b c d a' b' c' d' : Value) (x y : Rat) (k : Nat) : Prop := QB w a b c d x k ∧ QB w a' b' c' d' y k
def SpB (w : World) (v : Value) (x y : Rat) (k : Nat) : Prop := ∃ a b c d a' b' c' d', v = .agg #[a, b, c, d, a', b', c', d'] ∧ SpQ w a b c d a' b' c' d' x y k
def DsQ (w : World) (a b d a' b' d' : Value) (x y : Rat) (k : Nat) : Prop := DQ w a b d x k ∧ DQ w a' b' d' y k
def DsB (w : World) (v : Value) (x y : Rat) (k : Nat) : Prop := ∃ a b d a' b' d', v = .agg #[a, b, d, a', b', d'] ∧ DsQ w a b d a' b' d' x y k
theorem spl {w : World} {a b c d a' b' c' d' : Value} {x y : Rat} {k : Nat} (h : SpQ w a b c d a' b' c' d' x y k) : [a, b, c, d, a', b', c', d'].all Value.oneCell' = true := by
  have p := qpl h.1
  have p' := qpl h.2
  simp only [List.all_cons, List.all_nil, Bool.and_true, Bool.and_eq_true] at p p' ⊢
  exact ⟨p.1, p.2.1, p.2.2.1, p.2.2.2, p'.1, p'.2.1, p'.2.2.1, p'.2.2.2⟩
theorem dspl {w : World} {a b d a' b' d' : Value} {x y : Rat} {k : Nat} (h : DsQ w a b d a' b' d' x y k) : [a, b, d, a', b', d'].all Value.oneCell' = true := by
  have p := dpl h.1
  have p' := dpl h.2
  simp only [List.all_cons, List.all_nil, Bool.and_true, Bool.and_eq_true] at p p' ⊢
  exact ⟨p.1, p.2.1, p.2.2, p'.1, p'.2.1, p'.2.2⟩
theorem mSp {D : TypeId → Bool} (a b c d a' b' c' d' : Value) (x y : Rat) (k : Nat) (hD : D 190 = true := by rfl) : Mono D fun w => SpQ w a b c d a' b' c' d' x y k := (mQ _ _ _ _ _ _ hD).and (mQ _ _ _ _ _ _ hD)
theorem mDs {D : TypeId → Bool} (a b d a' b' d' : Value) (x y : Rat) (k : Nat) (hD : D 190 = true := by rfl) : Mono D fun w => DsQ w a b d a' b' d' x y k := (mD _ _ _ _ _ hD).and (mD _ _ _ _ _ hD)
theorem SpQ.mono {w : World} {a b c d a' b' c' d' : Value} {x y : Rat} {k j : Nat} (h : SpQ w a b c d a' b' c' d' x y k) (hj : k ≤ j) : SpQ w a b c d a' b' c' d' x y j := ⟨h.1.mono hj, h.2.mono hj⟩
section rules
variable {w0 : World} {Post : Ending → World → Prop} {F : World → Prop} {L : LC} {E : Env} {tr : Tr} {f : FuncId} {ar : List V1} {args : Array Value}
end rules
theorem v_ge (x y : Rat) : decide (0 ≤ cmpQ x y) = decide (y ≤ x) := by
  unfold cmpQ
  split
  · rw [decide_eq_false (by decide), decide_eq_false (by grind)]
  · split
    · rw [decide_eq_true (by decide), decide_eq_true (by grind)]
    · rw [decide_eq_true (by decide), decide_eq_true (by grind)]
theorem v_gt (x y : Rat) : decide (0 < cmpQ x y) = decide (y < x) := by
  unfold cmpQ
  split
  · rw [decide_eq_false (by decide), decide_eq_false (by grind)]
  · split
    · rw [decide_eq_true (by decide), decide_eq_true (by grind)]
    · rw [decide_eq_false (by decide), decide_eq_false (by grind)]
theorem v_eq (x y : Rat) : (cmpQ x y == 0) = decide (x = y) := by
  unfold cmpQ
  split
  · rw [decide_eq_false (by grind)]; rfl
  · split
    · rw [decide_eq_false (by grind)]; rfl
    · rw [decide_eq_true (by grind)]; rfl
theorem cT_ge {x y : Rat} (e : decide (0 ≤ cmpQ x y) = true) : y ≤ x := by rw [v_ge] at e; simpa using e
theorem cF_ge {x y : Rat} (e : decide (0 ≤ cmpQ x y) = false) : x < y := by rw [v_ge] at e; have : ¬ y ≤ x := (by simpa using e); grind
theorem cT_gt {x y : Rat} (e : decide (0 < cmpQ x y) = true) : y < x := by rw [v_gt] at e; simpa using e
theorem cF_gt {x y : Rat} (e : decide (0 < cmpQ x y) = false) : x ≤ y := by rw [v_gt] at e; have : ¬ y < x := (by simpa using e); grind
def ZeroS : List Value := [.bool false, .slice none 0 0, .bool false, .slice none 0 0, .bool false, .slice none 0 0, .bool false, .slice none 0 0]
end Go.Proofs.YtkekgmdofgkbcaaGreatDoor

namespace Go.Proofs.YtkekgmdofgkbcaaGreatDoor
open Go.RowKit Cin
theorem mid5_any (v : Value) (x y : Rat) (k : Nat) (w : World) (h : SpB w v x y k) (hk : k ≤ 90000) :
    Calls Tryz.prog 51 #[v] w fun e w' => ∃ v', e = .returned v' ∧ RatB w' v' ((x + y) / 2) (k + k + 1 + 2) ∧ Below w.heap.size w w' := by
  obtain ⟨a, b, c, d, a', b', c', d', rfl, h⟩ := h
  refine go (fun w => SpQ w a b c d a' b' c' d' x y k) [[a, b, c, d, a', b', c', d']] [some 8] (tr := (.em (.call 42 [.g [.c 0 0, .c 0 1, .c 0 2, .c 0 3], .g [.c 0 4, .c 0 5, .c 0 6, .c 0 7]] [some 4]) (.em (.call 90 [.s (.k (.int .i64 2))] [some 4]) (.em (.call 89 [.g [.c 1 0, .c 1 1, .c 1 2, .c 1 3], .g [.c 2 0, .c 2 1, .c 2 2, .c 2 3]] [some 4, none]) (.ret (.v (.g [.c 3 0, .c 3 1, .c 3 2, .c 3 3]))))))) (by kernel_rfl) (by kernel_rfl) (by kernel_rfl) (mSp _ _ _ _ _ _ _ _ _ _ _) h ⟨spl h, trivial⟩ ?_
  refine wRat (fun w b h => qadd_any _ _ x y k k w ⟨_, _, _, _, rfl, h.1⟩ ⟨_, _, _, _, rfl, h.2⟩ (by omega) (by omega)) (fun _ _ _ _ => ?_)
  refine wRat (fun w b _ => qof_any 2 w (by decide) (by decide)) (fun _ _ _ _ => ?_)
  refine wRatV (fun w b ⟨h2, h1, _⟩ => qdiv_any _ _ _ _ _ 2 w ⟨_, _, _, _, rfl, h1⟩ ⟨_, _, _, _, rfl, h2⟩ (by omega) (by decide) (by decide)) rfl (fun _ _ _ _ => ?_)
  exact wRet fun w b ⟨h, _⟩ => ⟨_, rfl, ⟨_, _, _, _, rfl, h⟩, b⟩
theorem width_any (v : Value) (x y : Rat) (k : Nat) (w : World) (h : SpB w v x y k) (hk : k ≤ 90000) :
    Calls Tryz.prog 41 #[v] w fun e w' => ∃ v', e = .returned v' ∧ RatB w' v' (y - x) (k + k + 1) ∧ Below w.heap.size w w' := by
  obtain ⟨a, b, c, d, a', b', c', d', rfl, h⟩ := h
  refine go (fun w => SpQ w a b c d a' b' c' d' x y k) [[a, b, c, d, a', b', c', d']] [some 8] (tr := (.em (.call 75 [.g [.c 0 4, .c 0 5, .c 0 6, .c 0 7], .g [.c 0 0, .c 0 1, .c 0 2, .c 0 3]] [some 4]) (.ret (.v (.g [.c 1 0, .c 1 1, .c 1 2, .c 1 3]))))) (by kernel_rfl) (by kernel_rfl) (by kernel_rfl) (mSp _ _ _ _ _ _ _ _ _ _ _) h ⟨spl h, trivial⟩ ?_
  refine wRat (fun w b h => qsub_any _ _ y x k k w ⟨_, _, _, _, rfl, h.2⟩ ⟨_, _, _, _, rfl, h.1⟩ (by omega) (by omega)) (fun _ _ _ _ => ?_)
  exact wRet fun w b ⟨h, _⟩ => ⟨_, rfl, ⟨_, _, _, _, rfl, h⟩, b⟩
theorem plain_any (v : Value) (x y : Rat) (k : Nat) (w : World) (hT : TabsP w) (h : SpB w v x y k) (hk : k ≤ 200000) :
    Calls Tryz.prog 48 #[v] w fun e w' => e = .returned (.agg #[.string (ratS x), .string (ratS y)]) ∧ Below w.heap.size w w' := by
  obtain ⟨a, b, c, d, a', b', c', d', rfl, h⟩ := h
  refine go (fun w => SpQ w a b c d a' b' c' d' x y k) [[a, b, c, d, a', b', c', d']] [some 8] (tr := (.em (.call 53 [.g [.c 0 0, .c 0 1, .c 0 2, .c 0 3]] [none]) (.em (.call 53 [.g [.c 0 4, .c 0 5, .c 0 6, .c 0 7]] [none]) (.ret (.v (.g [.c 1 0, .c 2 0])))))) (by kernel_rfl) (by kernel_rfl) (by kernel_rfl) (mSp _ _ _ _ _ _ _ _ _ _ _) h ⟨spl h, trivial⟩ ?_
  refine wVal (fun w b h => qtext_any _ x k w ⟨_, _, _, _, rfl, h.1⟩ hk (hT.below b)) rfl ?_
  refine wVal (fun w b h => qtext_any _ y k w ⟨_, _, _, _, rfl, h.2⟩ hk (hT.below b)) rfl ?_
  exact wRet fun w b _ => ⟨rfl, b⟩
def SpOk (s r : ByteArray) : Prop := RatOk s ∧ RatOk r ∧ ratVal s ≤ ratVal r
theorem sparseY (s r : ByteArray) (w : World) (hs : s.size ≤ 9223372036854775807) (hr : r.size ≤ 9223372036854775807) (h : SpOk s r) :
    Calls Tryz.prog 80 #[.agg #[.string s, .string r]] w fun e w' => ∃ v', e = .returned (.tuple #[v', .int .i64 0]) ∧ SpB w' v' (ratVal s) (ratVal r) 500 ∧ Below w.heap.size w w' := by
  refine go (fun _ => True) [[.string s, .string r]] [some 2] (tr := (.em (.call 64 [.s (.c 0 0)] [some 4, none]) (.em (.pr (.binOp .neq 27 (.tmp 0) (.const (.int .i64 0)) 27) 4 [.s (.c 1 4), .s (.k (.int .i64 0))]) (.cond (.c 2 0) (.ret (.t [.g [.k (.bool false), .k (.slice none 0 0), .k (.bool false), .k (.slice none 0 0), .k (.bool false), .k (.slice none 0 0), .k (.bool false), .k (.slice none 0 0)], .s (.c 1 4)])) (.em (.call 64 [.s (.c 0 1)] [some 4, none]) (.em (.pr (.binOp .neq 27 (.tmp 0) (.const (.int .i64 0)) 27) 4 [.s (.c 3 4), .s (.k (.int .i64 0))]) (.cond (.c 4 0) (.ret (.t [.g [.k (.bool false), .k (.slice none 0 0), .k (.bool false), .k (.slice none 0 0), .k (.bool false), .k (.slice none 0 0), .k (.bool false), .k (.slice none 0 0)], .s (.c 3 4)])) (.em (.call 40 [.g [.c 1 0, .c 1 1, .c 1 2, .c 1 3], .g [.c 3 0, .c 3 1, .c 3 2, .c 3 3]] [none]) (.em (.pr (.binOp .gtr 3 (.tmp 0) (.const (.int .i64 0)) 3) 4 [.s (.c 5 0), .s (.k (.int .i64 0))]) (.cond (.c 6 0) (.ret (.t [.g [.k (.bool false), .k (.slice none 0 0), .k (.bool false), .k (.slice none 0 0), .k (.bool false), .k (.slice none 0 0), .k (.bool false), .k (.slice none 0 0)], .s (.k (.int .i64 1))])) (.ret (.t [.g [.c 1 0, .c 1 1, .c 1 2, .c 1 3, .c 3 0, .c 3 1, .c 3 2, .c 3 3], .s (.k (.int .i64 0))])))))))))))) (by kernel_rfl) (by kernel_rfl) (by kernel_rfl) Mono.true trivial ⟨rfl, trivial⟩ ?_
  refine wRatV (fun w b _ => qparse_ok s w hs h.1) rfl (fun _ _ _ _ => ?_)
  refine wPr (prNe rfl rfl) rfl ?_
  refine wFalse rfl ?_
  refine wRatV (fun w b _ => qparse_ok r w hr h.2.1) rfl (fun _ _ _ _ => ?_)
  refine wPr (prNe rfl rfl) rfl ?_
  refine wFalse rfl ?_
  refine wVal (fun w b ⟨h2, h1, _⟩ => qcmp_any _ _ _ _ 500 500 w ⟨_, _, _, _, rfl, h1⟩ ⟨_, _, _, _, rfl, h2⟩ (by decide) (by decide)) rfl ?_
  refine wPr (prGt rfl rfl) rfl ?_
  refine wFalse (by show Value.bool (decide _) = _; rw [v_gt, decide_eq_false (by have := h.2.2; grind)]) ?_
  exact wRet fun w b ⟨h2, h1, _⟩ => ⟨_, rfl, ⟨_, _, _, _, _, _, _, _, rfl, h1, h2⟩, b⟩
open Classical in
noncomputable def spCode (s r : ByteArray) : Int := if RatOk s ∧ RatOk r then (if ratVal s ≤ ratVal r then 0 else 1) else 2
theorem sparseN (s r : ByteArray) (w : World) (hs : s.size ≤ 9223372036854775807) (hr : r.size ≤ 9223372036854775807) (h : ¬ SpOk s r) :
    Calls Tryz.prog 80 #[.agg #[.string s, .string r]] w fun e w' => e = .returned (.tuple #[.agg ZeroS.toArray, .int .i64 (spCode s r)]) ∧ Below w.heap.size w w' := by
  refine go (fun _ => True) [[.string s, .string r]] [some 2] (tr := (.em (.call 64 [.s (.c 0 0)] [some 4, none]) (.em (.pr (.binOp .neq 27 (.tmp 0) (.const (.int .i64 0)) 27) 4 [.s (.c 1 4), .s (.k (.int .i64 0))]) (.cond (.c 2 0) (.ret (.t [.g [.k (.bool false), .k (.slice none 0 0), .k (.bool false), .k (.slice none 0 0), .k (.bool false), .k (.slice none 0 0), .k (.bool false), .k (.slice none 0 0)], .s (.c 1 4)])) (.em (.call 64 [.s (.c 0 1)] [some 4, none]) (.em (.pr (.binOp .neq 27 (.tmp 0) (.const (.int .i64 0)) 27) 4 [.s (.c 3 4), .s (.k (.int .i64 0))]) (.cond (.c 4 0) (.ret (.t [.g [.k (.bool false), .k (.slice none 0 0), .k (.bool false), .k (.slice none 0 0), .k (.bool false), .k (.slice none 0 0), .k (.bool false), .k (.slice none 0 0)], .s (.c 3 4)])) (.em (.call 40 [.g [.c 1 0, .c 1 1, .c 1 2, .c 1 3], .g [.c 3 0, .c 3 1, .c 3 2, .c 3 3]] [none]) (.em (.pr (.binOp .gtr 3 (.tmp 0) (.const (.int .i64 0)) 3) 4 [.s (.c 5 0), .s (.k (.int .i64 0))]) (.cond (.c 6 0) (.ret (.t [.g [.k (.bool false), .k (.slice none 0 0), .k (.bool false), .k (.slice none 0 0), .k (.bool false), .k (.slice none 0 0), .k (.bool false), .k (.slice none 0 0)], .s (.k (.int .i64 1))])) (.ret (.t [.g [.c 1 0, .c 1 1, .c 1 2, .c 1 3, .c 3 0, .c 3 1, .c 3 2, .c 3 3], .s (.k (.int .i64 0))])))))))))))) (by kernel_rfl) (by kernel_rfl) (by kernel_rfl) Mono.true trivial ⟨rfl, trivial⟩ ?_
  unfold spCode
  by_cases h1 : RatOk s
  · refine wRatV (fun w b _ => qparse_ok s w hs h1) rfl (fun _ _ _ _ => ?_)
    refine wPr (prNe rfl rfl) rfl ?_
    refine wFalse rfl ?_
    by_cases h2 : RatOk r
    · refine wRatV (fun w b _ => qparse_ok r w hr h2) rfl (fun _ _ _ _ => ?_)
      refine wPr (prNe rfl rfl) rfl ?_
      refine wFalse rfl ?_
      refine wVal (fun w b ⟨h2, h1, _⟩ => qcmp_any _ _ _ _ 500 500 w ⟨_, _, _, _, rfl, h1⟩ ⟨_, _, _, _, rfl, h2⟩ (by decide) (by decide)) rfl ?_
      refine wPr (prGt rfl rfl) rfl ?_
      have h3 : ¬ ratVal s ≤ ratVal r := fun h3 => h ⟨h1, h2, h3⟩
      refine wTrue (by show Value.bool (decide _) = _; rw [v_gt, decide_eq_true (by grind)]) ?_
      exact wRet fun w b _ => ⟨by rw [if_pos ⟨h1, h2⟩, if_neg h3]; rfl, b⟩
    · refine wKnown [.bool false, .slice none 0 0, .bool false, .slice none 0 0, .int .i64 2] (fun w b _ => qparse_no r w hr h2) rfl rfl ?_
      refine wPr (prNe rfl rfl) rfl ?_
      refine wTrue rfl ?_
      exact wRet fun w b _ => ⟨by rw [if_neg (fun h => h2 h.2)]; rfl, b⟩
  · refine wKnown [.bool false, .slice none 0 0, .bool false, .slice none 0 0, .int .i64 2] (fun w b _ => qparse_no s w hs h1) rfl rfl ?_
    refine wPr (prNe rfl rfl) rfl ?_
    refine wTrue rfl ?_
    exact wRet fun w b _ => ⟨by rw [if_neg (fun h => h1 h.1)]; rfl, b⟩
def ZeroT : List Value := [.bool false, .slice none 0 0, .slice none 0 0, .bool false, .slice none 0 0, .slice none 0 0]
theorem dsparseY (s r : ByteArray) (w : World) (hs : s.size ≤ 9223372036854775807) (hr : r.size ≤ 9223372036854775807) (h : SpOk s r) :
    Calls Tryz.prog 44 #[.agg #[.string s, .string r]] w fun e w' => ∃ v', e = .returned (.tuple #[v', .int .i64 0]) ∧ DsB w' v' (ratVal s) (ratVal r) 500 ∧ Below w.heap.size w w' := by
  refine go (fun _ => True) [[.string s, .string r]] [some 2] (tr := (.em (.call 63 [.s (.c 0 0)] [some 3, none]) (.em (.call 63 [.s (.c 0 1)] [some 3, none]) (.em (.pr (.unOp .not 4 (.tmp 0)) 4 [.s (.c 1 3)]) (.cond (.c 3 0) (.ret (.t [.g [.k (.bool false), .k (.slice none 0 0), .k (.slice none 0 0), .k (.bool false), .k (.slice none 0 0), .k (.slice none 0 0)], .s (.k (.int .i64 2))])) (.em (.pr (.unOp .not 4 (.tmp 0)) 4 [.s (.c 2 3)]) (.cond (.c 4 0) (.ret (.t [.g [.k (.bool false), .k (.slice none 0 0), .k (.slice none 0 0), .k (.bool false), .k (.slice none 0 0), .k (.slice none 0 0)], .s (.k (.int .i64 2))])) (.em (.call 45 [.g [.c 1 0, .c 1 1, .c 1 2], .g [.c 2 0, .c 2 1, .c 2 2]] [none]) (.em (.pr (.binOp .gtr 3 (.tmp 0) (.const (.int .i64 0)) 3) 4 [.s (.c 5 0), .s (.k (.int .i64 0))]) (.cond (.c 6 0) (.ret (.t [.g [.k (.bool false), .k (.slice none 0 0), .k (.slice none 0 0), .k (.bool false), .k (.slice none 0 0), .k (.slice none 0 0)], .s (.k (.int .i64 1))])) (.ret (.t [.g [.c 1 0, .c 1 1, .c 1 2, .c 2 0, .c 2 1, .c 2 2], .s (.k (.int .i64 0))])))))))))))) (by kernel_rfl) (by kernel_rfl) (by kernel_rfl) Mono.true trivial ⟨rfl, trivial⟩ ?_
  refine wDQV (fun w b _ => dparseY s w hs h.1) rfl (fun _ _ _ => ?_)
  refine wDQV (fun w b _ => dparseY r w hr h.2.1) rfl (fun _ _ _ => ?_)
  refine wPr (prNot rfl) rfl ?_
  refine wFalse rfl ?_
  refine wPr (prNot rfl) rfl ?_
  refine wFalse rfl ?_
  refine wVal (fun w b ⟨h2, h1, _⟩ => dcmp_any _ _ _ _ 500 500 w ⟨_, _, _, rfl, h1⟩ ⟨_, _, _, rfl, h2⟩ (by decide) (by decide)) rfl ?_
  refine wPr (prGt rfl rfl) rfl ?_
  refine wFalse (by show Value.bool (decide _) = _; rw [v_gt, decide_eq_false (by have := h.2.2; grind)]) ?_
  exact wRet fun w b ⟨h2, h1, _⟩ => ⟨_, rfl, ⟨_, _, _, _, _, _, rfl, h1, h2⟩, b⟩
theorem wNo {w0 : World} {Post : Ending → World → Prop} {F : World → Prop} {L : LC} {E : Env} {tr : Tr} {ar : List V1} {D Z : TypeId → Bool} (s : ByteArray) (hs : s.size ≤ 9223372036854775807) (h : ¬ RatOk s)
    {E' : Value → Value → Value → Env} (hk : ∀ a b d, Wk Tryz.prog w0 D Z Post L F tr (E' a b d)) (ha : (ar.map (V1.den [] E)).toArray = #[.string s] := by rfl)
    (hE : ∀ a b d, E ++ [[a, b, d, .bool false]] = E' a b d := by intros; (simp only [List.cons_append, List.nil_append]) <;> exact rfl) : Wk Tryz.prog w0 D Z Post L F (.em (.call 63 ar [some 3, none]) tr) E := by
  intro hm u hF w e b
  rw [ha]
  refine (dparse_any s w hs).mono ?_
  rintro e1 w' (⟨h', _⟩ | ⟨_, a, b, d, rfl, hp, hb⟩)
  · exact absurd h' h
  · simp only [List.all_cons, List.all_nil, Bool.and_true, Bool.and_eq_true] at hp
    exact ⟨[a, b, d, .bool false], rfl, by simp only [List.all_cons, List.all_nil, Bool.and_true, Bool.and_eq_true]; exact ⟨hp.1, hp.2.1, hp.2.2, rfl⟩, hb, hE _ _ _ ▸ hk _ _ _ hm (u.more w w') (hm u.w w' (e.below hb).ext hF)⟩
theorem dsparseN (s r : ByteArray) (w : World) (hs : s.size ≤ 9223372036854775807) (hr : r.size ≤ 9223372036854775807) (h : ¬ SpOk s r) :
    Calls Tryz.prog 44 #[.agg #[.string s, .string r]] w fun e w' => e = .returned (.tuple #[.agg ZeroT.toArray, .int .i64 (spCode s r)]) ∧ Below w.heap.size w w' := by
  refine go (fun _ => True) [[.string s, .string r]] [some 2] (tr := (.em (.call 63 [.s (.c 0 0)] [some 3, none]) (.em (.call 63 [.s (.c 0 1)] [some 3, none]) (.em (.pr (.unOp .not 4 (.tmp 0)) 4 [.s (.c 1 3)]) (.cond (.c 3 0) (.ret (.t [.g [.k (.bool false), .k (.slice none 0 0), .k (.slice none 0 0), .k (.bool false), .k (.slice none 0 0), .k (.slice none 0 0)], .s (.k (.int .i64 2))])) (.em (.pr (.unOp .not 4 (.tmp 0)) 4 [.s (.c 2 3)]) (.cond (.c 4 0) (.ret (.t [.g [.k (.bool false), .k (.slice none 0 0), .k (.slice none 0 0), .k (.bool false), .k (.slice none 0 0), .k (.slice none 0 0)], .s (.k (.int .i64 2))])) (.em (.call 45 [.g [.c 1 0, .c 1 1, .c 1 2], .g [.c 2 0, .c 2 1, .c 2 2]] [none]) (.em (.pr (.binOp .gtr 3 (.tmp 0) (.const (.int .i64 0)) 3) 4 [.s (.c 5 0), .s (.k (.int .i64 0))]) (.cond (.c 6 0) (.ret (.t [.g [.k (.bool false), .k (.slice none 0 0), .k (.slice none 0 0), .k (.bool false), .k (.slice none 0 0), .k (.slice none 0 0)], .s (.k (.int .i64 1))])) (.ret (.t [.g [.c 1 0, .c 1 1, .c 1 2, .c 2 0, .c 2 1, .c 2 2], .s (.k (.int .i64 0))])))))))))))) (by kernel_rfl) (by kernel_rfl) (by kernel_rfl) Mono.true trivial ⟨rfl, trivial⟩ ?_
  unfold spCode
  by_cases h1 : RatOk s
  · refine wDQV (fun w b _ => dparseY s w hs h1) rfl (fun _ _ _ => ?_)
    by_cases h2 : RatOk r
    · refine wDQV (fun w b _ => dparseY r w hr h2) rfl (fun _ _ _ => ?_)
      refine wPr (prNot rfl) rfl ?_
      refine wFalse rfl ?_
      refine wPr (prNot rfl) rfl ?_
      refine wFalse rfl ?_
      refine wVal (fun w b ⟨h2, h1, _⟩ => dcmp_any _ _ _ _ 500 500 w ⟨_, _, _, rfl, h1⟩ ⟨_, _, _, rfl, h2⟩ (by decide) (by decide)) rfl ?_
      refine wPr (prGt rfl rfl) rfl ?_
      have h3 : ¬ ratVal s ≤ ratVal r := fun h3 => h ⟨h1, h2, h3⟩
      refine wTrue (by show Value.bool (decide _) = _; rw [v_gt, decide_eq_true (by grind)]) ?_
      exact wRet fun w b _ => ⟨by rw [if_pos ⟨h1, h2⟩, if_neg h3]; rfl, b⟩
    · refine wNo r hr h2 (fun _ _ _ => ?_)
      refine wPr (prNot rfl) rfl ?_
      refine wFalse rfl ?_
      refine wPr (prNot rfl) rfl ?_
      refine wTrue rfl ?_
      exact wRet fun w b _ => ⟨by rw [if_neg (fun h => h2 h.2)]; rfl, b⟩
  · refine wNo s hs h1 (fun _ _ _ => ?_)
    by_cases h2 : RatOk r
    · refine wDQV (fun w b _ => dparseY r w hr h2) rfl (fun _ _ _ => ?_)
      refine wPr (prNot rfl) rfl ?_
      refine wTrue rfl ?_
      exact wRet fun w b _ => ⟨by rw [if_neg (fun h => h1 h.1)]; rfl, b⟩
    · refine wNo r hr h2 (fun _ _ _ => ?_)
      refine wPr (prNot rfl) rfl ?_
      refine wTrue rfl ?_
      exact wRet fun w b _ => ⟨by rw [if_neg (fun h => h1 h.1)]; rfl, b⟩
theorem is5_any (v u : Value) (x y : Rat) (k j : Nat) (w : World) (h : SpB w v x y k) (h' : DsB w u x y j) (hk : k ≤ 200000) (hj : j ≤ 200000) (hT : TabsP w) :
    Calls Tryz.prog 47 #[v, u] w fun e w' => e = .returned (.bool true) ∧ Below w.heap.size w w' := by
  obtain ⟨a, b, c, d, a', b', c', d', rfl, h⟩ := h
  obtain ⟨p, q, r, p', q', r', rfl, h'⟩ := h'
  refine go (fun w => SpQ w a b c d a' b' c' d' x y k ∧ DsQ w p q r p' q' r' x y j) [[a, b, c, d, a', b', c', d'], [p, q, r, p', q', r']] [some 8, some 6] (tr := (.em (.call 23 [.g [.c 0 0, .c 0 1, .c 0 2, .c 0 3], .g [.c 1 0, .c 1 1, .c 1 2]] [none]) (.cond (.c 2 0) (.em (.call 23 [.g [.c 0 4, .c 0 5, .c 0 6, .c 0 7], .g [.c 1 3, .c 1 4, .c 1 5]] [none]) (.ret (.v (.s (.c 3 0))))) (.ret (.v (.s (.k (.bool false)))))))) (by kernel_rfl) (by kernel_rfl) (by kernel_rfl) ((mSp _ _ _ _ _ _ _ _ _ _ _).and (mDs _ _ _ _ _ _ _ _ _)) ⟨h, h'⟩ ⟨spl h, dspl h', trivial⟩ ?_
  refine wVal (fun w b ⟨h, h'⟩ => is_any _ _ x k j w ⟨_, _, _, _, rfl, h.1⟩ ⟨_, _, _, rfl, h'.1⟩ hk hj (hT.below b)) rfl ?_
  refine wTrue rfl ?_
  refine wVal (fun w b ⟨h, h'⟩ => is_any _ _ y k j w ⟨_, _, _, _, rfl, h.2⟩ ⟨_, _, _, rfl, h'.2⟩ hk hj (hT.below b)) rfl ?_
  exact wRet fun w b _ => ⟨rfl, b⟩
section prims
variable {P : Program} {t t2 ty : TypeId} {vs : List Value} {p q : Operand} {x y : Int}
end prims
end Go.Proofs.YtkekgmdofgkbcaaGreatDoor

namespace Go.Proofs.YtkekgmdofgkbcaaGreatDoor
open Go.RowKit Cin
theorem pairT : Tryz.prog.underlying 95 = some (.struct (Tryz.prog.fieldsOf 95)) := by kernel_rfl
theorem pairF : (Tryz.prog.fieldsOf 95).toList.map (fun f => (f.name == "_", f.type, f.offset)) = [(false, 9, 0), (false, 9, 1)] := by kernel_rfl
theorem pairH : Tryz.prog.stoodInHeld 95 = false := by kernel_rfl
theorem pairG : Tryz.prog.eqGuardType Tryz.prog.depth 95 = false := by kernel_rfl
theorem eqPair (d : Nat) (w : World) (s r s' r' : ByteArray) : (Op.eqFields (d + 1) #[.string s, .string r] #[.string s', .string r'] (Tryz.prog.fieldsOf 95).toList).run Tryz.prog w = .ok (s.toList == s'.toList && r.toList == r'.toList) w := by
  have h := pairF
  generalize (Tryz.prog.fieldsOf 95).toList = l at h
  match l with
  | [] => simp at h
  | [_] => simp at h
  | _ :: _ :: _ :: _ => simp at h
  | [f, g] =>
    simp only [List.map_cons, List.map_nil, List.cons.injEq, Prod.mk.injEq, and_true] at h
    obtain ⟨⟨n1, t1, o1⟩, n2, t2, o2⟩ := h
    have n1' : f.name ≠ "_" := by simpa using n1
    have n2' : g.name ≠ "_" := by simpa using n2
    have p : ∀ (i : Nat) (v : Value) (xs : Array Value), xs[i]? = some v → (part 9 xs i).run Tryz.prog w = .ok v w := fun i v xs hx => run_part_plain w (by kernel_rfl) hx
    have p0 := p 0 (.string s) #[.string s, .string r] rfl
    have p1 := p 1 (.string r) #[.string s, .string r] rfl
    have p2 := p 0 (.string s') #[.string s', .string r'] rfl
    have p3 := p 1 (.string r') #[.string s', .string r'] rfl
    simp only [Op.eqFields, n1', n2', ne_eq, not_false_eq_true, if_true, t1, t2, o1, o2, Sem.run_bind, p0, p2, Result.andThen_ok, run_equalIn_string w d _ _ _ hStrT]
    generalize (s.toList == s'.toList) = c1
    cases c1
    · simp
    · simp only [Bool.not_true, Bool.false_eq_true, if_false, Sem.run_bind, p1, p3, Result.andThen_ok, run_equalIn_string w d _ _ _ hStrT]
      generalize (r.toList == r'.toList) = c2
      cases c2 <;> simp
end Go.Proofs.YtkekgmdofgkbcaaGreatDoor
