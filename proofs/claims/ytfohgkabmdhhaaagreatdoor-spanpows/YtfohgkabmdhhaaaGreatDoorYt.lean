/- The document's and the program's powers of quotients; the law RatPows. -/
import Derived.Test.YtfohgkabmdhhaaaGreatDoorYs
import Derived.Test.YtfohgkabmdhhaaaGreatDoorYg
import Derived.Test.YtfohgkabmdhhaaaGreatDoorYr
import Derived.Test.YtfohgkabmdhhaaaGreatDoorYi
import Derived.Test.YtfohgkabmdhhaaaGreatDoorYq
import Derived.Test.YtfohgkabmdhhaaaGreatDoorYn
namespace Go.Proofs.YtfohgkabmdhhaaaGreatDoor
open Go.RowKit Cin
section prims
variable {P : Program} {T T' ty : TypeId} {vs : List Value} {p q : Operand} {x y : Int}
theorem prMax (hp : pe vs p = .int .i64 x) (hq : pe vs q = .int .i64 y) : PrimOk P (.call { callee := .builtin .max, args := #[p, q], argTypes := #[T, T'] }) ty vs (.int .i64 (max x y)) := fun w => by
  have e : max x y = if y > x then y else x := by split <;> omega
  rw [e]
  simp [execOp, resolve, hp, hq, invoke, builtin, Builtin.max_, Builtin.max2]
theorem prMin (hp : pe vs p = .int .i64 x) (hq : pe vs q = .int .i64 y) : PrimOk P (.call { callee := .builtin .min, args := #[p, q], argTypes := #[T, T'] }) ty vs (.int .i64 (min x y)) := fun w => by
  have e : min x y = if y < x then y else x := by split <;> omega
  rw [e]
  simp [execOp, resolve, hp, hq, invoke, builtin, Builtin.min_, Builtin.min2]
end prims
theorem dofOne_any (w : World) : Calls Tryz.prog 63 #[.int .i64 1] w fun e w' => ∃ v', e = .returned v' ∧ DRatB w' v' 1 1 ∧ Below w.heap.size w w' := by
  refine go (fun _ => True) [[.int .i64 1]] [none] (tr := (.em (.call 105 [.s (.c 0 0)] [some 2]) (.em (.call 92 [.s (.k (.int .u64 1))] [none]) (.ret (.v (.g [.c 1 0, .c 1 1, .c 2 0])))))) (by kernel_rfl) (by kernel_rfl) (by kernel_rfl) Mono.true trivial ⟨rfl, trivial⟩ ?_
  refine wInt hU (fun w b _ => rintOf_one w) (fun x1 y1 => ?_)
  refine wRef hU (fun w b _ => rnatOf_one w) (fun x2 => ?_)
  exact wRet fun w b ⟨h2, h1, _⟩ => ⟨_, rfl, ⟨_, _, _, rfl, h1, ⟨1, h2.1, .inl rfl⟩, h2.2⟩, b⟩
def Pmu (n : Nat) : List Value → Nat
  | .int _ i :: _ => n - i.toNat
  | _ => 0
def Pinv (n : Nat) (x : Rat) (k : Nat) (cs : List Value) (w : World) : Prop := ∃ (i : Nat) (a b d : Value), cs = [.int .i64 i, a, b, d] ∧ i ≤ n ∧ DQ w a b d (x ^ i) (k * i + 1)
set_option maxHeartbeats 2000000 in
theorem dpow_any (v : Value) (x : Rat) (n : Int) (k : Nat) (w : World) (h : DRatB w v x k) (hk : k ≤ 21) (hn : cut255 n ≤ 40) :
    Calls Tryz.prog 80 #[v, .int .i64 n] w fun e w' => ∃ v', e = .returned v' ∧ DRatB w' v' (x ^ cut255 n) (k * cut255 n + 1) ∧ Below w.heap.size w w' := by
  obtain ⟨a, b, d, rfl, h⟩ := h
  refine go (fun w => DQ w a b d x k) [[a, b, d], [.int .i64 n]] [some 3, none] (tr := (.em (.call 63 [.s (.k (.int .i64 1))] [some 3]) (.loop 0 [.k (.int .i64 0), .c 2 0, .c 2 1, .c 2 2] (.em (.pr (.call (.mk (.builtin .max) #[.tmp 0, .const (.int .i64 0)] #[3, 3])) 3 [.s (.c 1 0), .s (.k (.int .i64 0))]) (.em (.pr (.call (.mk (.builtin .min) #[.tmp 0, .const (.int .i64 255)] #[3, 3])) 3 [.s (.c 4 0), .s (.k (.int .i64 255))]) (.em (.pr (.binOp .lss 3 (.tmp 0) (.tmp 1) 3) 4 [.s (.c 3 0), .s (.c 5 0)]) (.cond (.c 6 0) (.em (.call 78 [.g [.c 3 1, .c 3 2, .c 3 3], .g [.c 0 0, .c 0 1, .c 0 2]] [some 3]) (.em (.pr (.binOp .add 3 (.tmp 0) (.const (.int .i64 1)) 3) 3 [.s (.c 3 0), .s (.k (.int .i64 1))]) (.back 0 [.c 8 0, .c 7 0, .c 7 1, .c 7 2]))) (.ret (.v (.g [.c 3 1, .c 3 2, .c 3 3])))))))))) (by kernel_rfl) (by kernel_rfl) (by kernel_rfl) (mD _ _ _ _ _) h ⟨dpl h, rfl, trivial⟩ ?_
  refine wDQ (fun w b _ => dofOne_any w) (fun a1 b1 d1 => ?_)
  refine wLoop (fun cs w => Pinv (cut255 n) x k cs w) (fun cs w w' e ⟨i, a, b, d, h1, h2, h3⟩ => ⟨i, a, b, d, h1, h2, mD _ _ _ _ _ hU w w' e h3⟩) (Pmu (cut255 n)) (fun w ⟨h1, _⟩ => ⟨0, a1, b1, d1, rfl, Nat.zero_le _, by rw [Rat.pow_zero, Nat.mul_zero, Nat.zero_add]; exact h1⟩) (fun cs _ => ?_)
  intro hm u hF
  obtain ⟨⟨i, a2, b2, d2, rfl, hi, _⟩, _⟩ := id hF
  refine wMono (G := fun w => DQ w a2 b2 d2 (x ^ i) (k * i + 1) ∧ DQ w a b d x k) ((mD _ _ _ _ _).and (mD _ _ _ _ _)) (fun w ⟨⟨i', a3, b3, d3, e, _, h⟩, _, h'⟩ => by
    have e' := e
    injection e' with e1 e2
    injection e2 with e2 e3
    injection e3 with e3 e4
    injection e4 with e4 e5
    injection e1 with e0 e1
    have : i' = i := by omega
    subst this e2 e3 e4
    exact ⟨h, h'⟩) ?_ hm u hF
  clear hm hF
  refine wPr (prMax rfl rfl) rfl ?_
  refine wPr (prMin rfl rfl) rfl ?_
  refine wPr (prLt rfl rfl) rfl ?_
  have hki : k * i ≤ 21 * 40 := Nat.mul_le_mul hk (by omega)
  refine wIf _ rfl (fun e => ?_) (fun e => ?_)
  · have hlt : i < cut255 n := by
      have h1 : (i : Int) < min (max n 0) 255 := by simpa using e
      rw [min_max_255] at h1
      omega
    refine wDQ (q := x ^ (i + 1)) (m := k * (i + 1) + 1) (fun w b ⟨h1, h⟩ => by
      rw [Rat.pow_succ, Nat.mul_succ, show k * i + k + 1 = k * i + 1 + k by omega]
      exact dmul_any _ _ (x ^ i) x (k * i + 1) k w ⟨_, _, _, rfl, h1⟩ ⟨_, _, _, rfl, h⟩ (by omega) (by omega) (by omega)) (fun a3 b3 d3 => ?_)
    refine wPr (prAdd rfl rfl) rfl ?_
    rw [wrap_small (by omega) (by omega)]
    refine wBack fun w ⟨h3, _⟩ => ⟨⟨i + 1, a3, b3, d3, rfl, hlt, h3⟩, ?_⟩
    show cut255 n - ((i : Int) + 1).toNat < cut255 n - (i : Int).toNat
    omega
  · have hge : i = cut255 n := by
      have h1 : ¬ (i : Int) < min (max n 0) 255 := by simpa using e
      rw [min_max_255] at h1
      omega
    subst hge
    exact wRet fun w b ⟨h1, _⟩ => ⟨_, rfl, ⟨_, _, _, rfl, h1⟩, b⟩
theorem qpow_any (v : Value) (x : Rat) (n : Int) (k : Nat) (w : World) (h : RatB w v x k) (hk : k ≤ 1000) (hk1 : 1 ≤ k) (hn0 : -9223372036854775808 ≤ n) (hn1 : n < 9223372036854775808) :
    Calls Tryz.prog 59 #[v, .int .i64 n] w fun e w' => ∃ v', e = .returned v' ∧ RatB w' v' (x ^ cut255 n) (k * 255 + 1) ∧ Below w.heap.size w w' := by
  obtain ⟨a, b, c, d, rfl, h⟩ := h
  refine go (fun w => QB w a b c d x k) [[a, b, c, d], [.int .i64 n]] [some 4, none] (tr := (.em (.call 101 [.g [.c 0 0, .c 0 1], .s (.c 1 0)] [some 2]) (.em (.call 94 [.g [.c 0 0, .c 0 1, .c 0 2, .c 0 3]] [some 2]) (.em (.call 101 [.g [.c 3 0, .c 3 1], .s (.c 1 0)] [some 2]) (.em (.call 99 [.g [.c 2 0, .c 2 1], .g [.c 4 0, .c 4 1]] [some 4]) (.ret (.v (.g [.c 5 0, .c 5 1, .c 5 2, .c 5 3])))))))) (by kernel_rfl) (by kernel_rfl) (by kernel_rfl) (mQ _ _ _ _ _ _) h ⟨qpl h, rfl, trivial⟩ ?_
  refine wInt hU (fun w b h => pow_any _ x.num n k w h.1 hk hk1 hn0 hn1) (fun _ _ => ?_)
  refine wInt hU (fun w b ⟨_, h⟩ => bottom_any _ x k w ⟨_, _, _, _, rfl, h⟩ (by omega)) (fun _ _ => ?_)
  refine wInt hU (fun w b ⟨h2, _⟩ => pow_any _ (x.den : Int) n k w h2 hk hk1 hn0 hn1) (fun _ _ => ?_)
  refine wRat (fun w b ⟨h3, _, h1, _⟩ => lowest_any _ _ _ _ (x ^ cut255 n) (k * 255 + 1) w h1 h3 (by omega) (Rat.num_pow _ _) (by rw [Rat.den_pow, Int.natCast_pow])) (fun _ _ _ _ => ?_)
  exact wRet fun w b ⟨h, _⟩ => ⟨_, rfl, ⟨_, _, _, _, rfl, h⟩, b⟩
end Go.Proofs.YtfohgkabmdhhaaaGreatDoor

namespace Go.Proofs.YtfohgkabmdhhaaaGreatDoor
open Go.RowKit Cin
theorem wrap64 {z : Int} (h0 : -9223372036854775808 ≤ z) (h1 : z ≤ 9223372036854775807) : IntKind.i64.wrap z = z := by
  unfold IntKind.wrap
  simp [IntKind.signed, IntKind.bits]
  omega
section prims
variable {P : Program} {t t2 ty : TypeId} {vs : List Value} {p q : Operand} {x y : Int}
theorem prAddI (hp : pe vs p = .int .i64 x) (hq : pe vs q = .int .i64 y) (h0 : -9223372036854775808 ≤ x + y) (h1 : x + y ≤ 9223372036854775807) : PrimOk P (.binOp .add t p q t2) ty vs (.int .i64 (x + y)) := by
  have h := prAdd (P := P) (t := t) (t2 := t2) (ty := ty) hp hq
  rwa [wrap64 h0 h1] at h
theorem prSubI (hp : pe vs p = .int .i64 x) (hq : pe vs q = .int .i64 y) (h0 : -9223372036854775808 ≤ x - y) (h1 : x - y ≤ 9223372036854775807) : PrimOk P (.binOp .sub t p q t2) ty vs (.int .i64 (x - y)) := fun w => by
  simp only [execOp, hp, hq]
  simp [eqGuard, binOp, Op.intArith, wrap64 h0 h1]
theorem prMinE {T T' : TypeId} {z : Int} (hp : pe vs p = .int .i64 x) (hq : pe vs q = .int .i64 y) (h : min x y = z) : PrimOk P (.call { callee := .builtin .min, args := #[p, q], argTypes := #[T, T'] }) ty vs (.int .i64 z) := by subst h; exact prMin hp hq
theorem prRemI (hp : pe vs p = .int .i64 x) (hq : pe vs q = .int .i64 y) (hy : y ≠ 0) : PrimOk P (.binOp .rem t p q t2) ty vs (.int .i64 (x.tmod y)) := fun w => by
  simp only [execOp, hp, hq]
  simp [eqGuard, binOp, Op.intDiv, hy]
end prims
abbrev NB (w : World) (x : Value) (n k : Nat) : Prop := NatB 146 w (.agg #[x]) n k
theorem tz_pw {x k : Nat} (h : x < pw k) : tzOf x ≤ 32 * k := by rw [pw_two] at h; exact tzOf_le h
def Zinv (n : Int) (x y k j : Nat) (cs : List Value) (w : World) : Prop := ∃ (m : Int) (a : Value), cs = [.int .i64 m, a] ∧ (m = n ∨ (m = n - 1048576 ∧ 0 < n)) ∧ NB w a (if m = n then x else y) (if m = n then k else j)
theorem Zinv.mono (n : Int) (x y k j : Nat) (cs : List Value) : Mono DD (Zinv n x y k j cs) := fun _ _ e ⟨m, a, h1, h2, h3⟩ => ⟨m, a, h1, h2, h3.ext e hU⟩
theorem Zinv.at {n m : Int} {x y k j : Nat} {a : Value} {w : World} (h : Zinv n x y k j [.int .i64 m, a] w) : NB w a (if m = n then x else y) (if m = n then k else j) := by
  obtain ⟨m', a', e, _, h⟩ := h
  injection e with e1 e2
  injection e2 with e2 _
  injection e1 with _ e1
  subst e1 e2
  exact h
def DyQ (w : World) (x y : Value) (q : Rat) (k K : Nat) : Prop := IB w x y (oddOf q) k ∧ Dy q ∧ -(K : Int) ≤ expOf q ∧ expOf q ≤ K
end Go.Proofs.YtfohgkabmdhhaaaGreatDoor

namespace Go.Proofs.YtfohgkabmdhhaaaGreatDoor
open Go.RowKit Cin
set_option maxHeartbeats 800000 in
theorem rnatOf_zero (w : World) : Calls Tryz.prog 92 #[.int .u64 0] w fun e w' => ∃ v', e = .returned v' ∧ RefB w' v' 0 1 ∧ Below w.heap.size w w' := by
  have hand : bits BinOp.and IntKind.u64 0 4294967295 = 0 := and_mask32 (t := 0) (by decide)
  go_enter Tryz.func92, Tryz.ntmps92
  go_wp2_with fail
  have hblk := Blk.new w 146 .u32 [0, 0]
  refine (rtrim_any _ [0, 0] _ (Sl.of_blk hblk) (Ok.cons (by decide) (Ok.cons (by decide) Ok.nil)) (by decide)).mono ?_
  rintro e w1 ⟨v1, rfl, hr, rfl⟩
  have HR := Lib.hid hr
  clear hr hblk hand
  go_wp2
  go_ret
  exact ⟨_, rfl, ⟨HR.out, by decide⟩, bel_alloc _ _⟩
set_option maxHeartbeats 800000 in
theorem rintOf_zero (w : World) : Calls Tryz.prog 105 #[.int .i64 0] w fun e w' => ∃ v', e = .returned v' ∧ IntB 146 w' v' 0 1 ∧ Below w.heap.size w w' := by
  go_enter Tryz.func105, Tryz.ntmps105
  go_wp2_with fail
  refine (rnatOf_zero _).mono ?_
  rintro e w1 ⟨v1, rfl, hn1, hb1⟩
  obtain ⟨ad1, l1, c1, xs1, rfl, _⟩ := hn1.1.shape
  have hI : IntB 146 w1 (.agg #[.bool false, .slice ad1 l1 c1]) 0 1 := intB_of (b := false) (n := 0) hn1.1 hn1.2 rfl
  have HSL := Lib.hid (Slot.of (n := 2) ((heldN1 (w := w)).below hb1).1 rfl)
  have HRR := Lib.hid (fin_int hI HSL.out (by decide) (bel_on (bel_alloc _ _) hb1) (Nat.le_refl _))
  obtain ⟨xR, yR, hxR, hyR, hfxR, hfyR⟩ := HSL.out.two
  clear hn1 hb1 hI
  go_wp2
  refine bodyPost_ret (v := .agg #[.bool false, .slice ad1 l1 c1]) (by simp [results, Tryz.results105, go_sem, HRR.out.2.2.1, HRR.out.2.2.2]) rfl ⟨_, rfl, HRR.out.1, HRR.out.2.1⟩
instance (q : Rat) : Decidable (DyOk q) := inferInstanceAs (Decidable (_ = _))
theorem exp_num {q : Rat} : expOf q = (tzOf q.num.natAbs : Int) - (tzOf q.den : Int) := by unfold expOf; omega
theorem dofZero_any (w : World) : Calls Tryz.prog 63 #[.int .i64 0] w fun e w' => ∃ v', e = .returned v' ∧ DRatB w' v' 0 1 ∧ Below w.heap.size w w' := by
  refine go (fun _ => True) [[.int .i64 0]] [none] (tr := (.em (.call 105 [.s (.c 0 0)] [some 2]) (.em (.call 92 [.s (.k (.int .u64 1))] [none]) (.ret (.v (.g [.c 1 0, .c 1 1, .c 2 0])))))) (by kernel_rfl) (by kernel_rfl) (by kernel_rfl) Mono.true trivial ⟨rfl, trivial⟩ ?_
  refine wInt hU (fun w b _ => rintOf_zero w) (fun x1 y1 => ?_)
  refine wRef hU (fun w b _ => rnatOf_one w) (fun x2 => ?_)
  exact wRet fun w b ⟨h2, h1, _⟩ => ⟨_, rfl, ⟨_, _, _, rfl, h1, ⟨1, h2.1, .inl rfl⟩, h2.2⟩, b⟩
end Go.Proofs.YtfohgkabmdhhaaaGreatDoor

namespace Cin
open Go Go.RowKit
structure RC (A : Rat) (b M0 X Y : Nat) (p : Int) (ex : Bool) : Prop where
  hA : A * (Y : Rat) = (X : Rat) * tp (-p)
  hY : 0 < Y
  h1 : M0 * Y ≤ X
  h2 : X < (M0 + 1) * Y
  h3 : 2 ^ (b - 1) ≤ M0
  h4 : M0 < 2 ^ b
  he : ex = true ↔ M0 * Y = X
end Cin
namespace Go.Proofs.YtfohgkabmdhhaaaGreatDoor
open Go.RowKit Cin
end Go.Proofs.YtfohgkabmdhhaaaGreatDoor

namespace Go.Proofs.YtfohgkabmdhhaaaGreatDoor
open Go.RowKit Cin
theorem odd_le (q : Rat) : (oddOf q).natAbs ≤ q.num.natAbs := by
  have := Nat.div_le_self q.num.natAbs (2 ^ tzOf q.num.natAbs)
  unfold oddOf
  generalize q.num.natAbs / 2 ^ tzOf q.num.natAbs = t at *
  split <;> omega
theorem DyQ.cut {w : World} {x y : Value} {q : Rat} {k K j : Nat} (h : DyQ w x y q k K) (hn : q.num.natAbs < pw j) (hd : q.den < pw j) : DyQ w x y q j (32 * j) := by
  have t1 := tz_pw hn
  have t2 := tz_pw hd
  refine ⟨⟨h.1.1, Nat.lt_of_le_of_lt (odd_le q) hn⟩, h.2.1, ?_, ?_⟩ <;> rw [exp_num] <;> omega
theorem len_le {s : ByteArray} (h : s.size ≤ maxLen) : s.size ≤ 9223372036854775807 := Nat.le_trans h (by unfold maxLen; omega)
end Go.Proofs.YtfohgkabmdhhaaaGreatDoor

namespace Go.Proofs.YtfohgkabmdhhaaaGreatDoor
open Go.RowKit Cin
def SpQ (w : World) (a b c d a' b' c' d' : Value) (x y : Rat) (k : Nat) : Prop := QB w a b c d x k ∧ QB w a' b' c' d' y k
def SpB (w : World) (v : Value) (x y : Rat) (k : Nat) : Prop := ∃ a b c d a' b' c' d', v = .agg #[a, b, c, d, a', b', c', d'] ∧ SpQ w a b c d a' b' c' d' x y k
def DsQ (w : World) (a b d a' b' d' : Value) (x y : Rat) (k : Nat) : Prop := DQ w a b d x k ∧ DQ w a' b' d' y k
def DsB (w : World) (v : Value) (x y : Rat) (k : Nat) : Prop := ∃ a b d a' b' d', v = .agg #[a, b, d, a', b', d'] ∧ DsQ w a b d a' b' d' x y k
theorem spl {w : World} {a b c d a' b' c' d' : Value} {x y : Rat} {k : Nat} (h : SpQ w a b c d a' b' c' d' x y k) : [a, b, c, d, a', b', c', d'].all Value.oneCell' = true := by
  have p := qpl h.1
  have p' := qpl h.2
  simp only [List.all_cons, List.all_nil, Bool.and_true, Bool.and_eq_true] at p p' ⊢
  exact ⟨p.1, p.2.1, p.2.2.1, p.2.2.2, p'.1, p'.2.1, p'.2.2.1, p'.2.2.2⟩
theorem dspl {w : World} {a b d a' b' d' : Value} {x y : Rat} {k : Nat} (h : DsQ w a b d a' b' d' x y k) : [a, b, d, a', b', d'].all Value.oneCell' = true := by
  have p := dpl h.1
  have p' := dpl h.2
  simp only [List.all_cons, List.all_nil, Bool.and_true, Bool.and_eq_true] at p p' ⊢
  exact ⟨p.1, p.2.1, p.2.2, p'.1, p'.2.1, p'.2.2⟩
theorem mSp {D : TypeId → Bool} (a b c d a' b' c' d' : Value) (x y : Rat) (k : Nat) (hD : D 146 = true := by rfl) : Mono D fun w => SpQ w a b c d a' b' c' d' x y k := (mQ _ _ _ _ _ _ hD).and (mQ _ _ _ _ _ _ hD)
theorem mDs {D : TypeId → Bool} (a b d a' b' d' : Value) (x y : Rat) (k : Nat) (hD : D 146 = true := by rfl) : Mono D fun w => DsQ w a b d a' b' d' x y k := (mD _ _ _ _ _ hD).and (mD _ _ _ _ _ hD)
theorem SpQ.mono {w : World} {a b c d a' b' c' d' : Value} {x y : Rat} {k j : Nat} (h : SpQ w a b c d a' b' c' d' x y k) (hj : k ≤ j) : SpQ w a b c d a' b' c' d' x y j := ⟨h.1.mono hj, h.2.mono hj⟩
section rules
variable {w0 : World} {Post : Ending → World → Prop} {F : World → Prop} {L : LC} {E : Env} {tr : Tr} {f : FuncId} {ar : List V1} {args : Array Value}
theorem wSp {D Z : TypeId → Bool} {x y : Rat} {m : Nat}
    (hc : ∀ w, Below w0.heap.size w0 w → F w → Calls Tryz.prog f args w fun e w' => ∃ v, e = .returned v ∧ SpB w' v x y m ∧ Below w.heap.size w w')
    {E' : Value → Value → Value → Value → Value → Value → Value → Value → Env} (hk : ∀ a b c d a' b' c' d', Wk Tryz.prog w0 D Z Post L (fun w => SpQ w a b c d a' b' c' d' x y m ∧ F w) tr (E' a b c d a' b' c' d')) (ha : (ar.map (V1.den [] E)).toArray = args := by rfl)
    (hE : ∀ a b c d a' b' c' d', E ++ [[a, b, c, d, a', b', c', d']] = E' a b c d a' b' c' d' := by intros; (simp only [List.cons_append, List.nil_append]) <;> exact rfl) (hD : D 146 = true := by rfl) : Wk Tryz.prog w0 D Z Post L F (.em (.call f ar [some 8]) tr) E := by
  intro hm u hF w e b
  subst ha
  refine (hc w b (hm u w e hF)).mono ?_
  rintro e1 w' ⟨v, rfl, ⟨a, b, c, d, a', b', c', d', rfl, h1⟩, h4⟩
  exact ⟨[a, b, c, d, a', b', c', d'], rfl, spl h1, h4, hE _ _ _ _ _ _ _ _ ▸ hk _ _ _ _ _ _ _ _ ((mSp _ _ _ _ _ _ _ _ _ _ _ hD).and hm) w' ⟨h1, hm u w' (e.below h4) hF⟩⟩
theorem wDs {D Z : TypeId → Bool} {x y : Rat} {m : Nat}
    (hc : ∀ w, Below w0.heap.size w0 w → F w → Calls Tryz.prog f args w fun e w' => ∃ v, e = .returned v ∧ DsB w' v x y m ∧ Below w.heap.size w w')
    {E' : Value → Value → Value → Value → Value → Value → Env} (hk : ∀ a b d a' b' d', Wk Tryz.prog w0 D Z Post L (fun w => DsQ w a b d a' b' d' x y m ∧ F w) tr (E' a b d a' b' d')) (ha : (ar.map (V1.den [] E)).toArray = args := by rfl)
    (hE : ∀ a b d a' b' d', E ++ [[a, b, d, a', b', d']] = E' a b d a' b' d' := by intros; (simp only [List.cons_append, List.nil_append]) <;> exact rfl) (hD : D 146 = true := by rfl) : Wk Tryz.prog w0 D Z Post L F (.em (.call f ar [some 6]) tr) E := by
  intro hm u hF w e b
  subst ha
  refine (hc w b (hm u w e hF)).mono ?_
  rintro e1 w' ⟨v, rfl, ⟨a, b, d, a', b', d', rfl, h1⟩, h4⟩
  exact ⟨[a, b, d, a', b', d'], rfl, dspl h1, h4, hE _ _ _ _ _ _ ▸ hk _ _ _ _ _ _ ((mDs _ _ _ _ _ _ _ _ _ hD).and hm) w' ⟨h1, hm u w' (e.below h4) hF⟩⟩
theorem wSpV {D Z : TypeId → Bool} {x y : Rat} {m : Nat} {cc : Value}
    (hc : ∀ w, Below w0.heap.size w0 w → F w → Calls Tryz.prog f args w fun e w' => ∃ v, e = .returned (.tuple #[v, cc]) ∧ SpB w' v x y m ∧ Below w.heap.size w w') (hv : cc.oneCell' = true)
    {E' : Value → Value → Value → Value → Value → Value → Value → Value → Env} (hk : ∀ a b c d a' b' c' d', Wk Tryz.prog w0 D Z Post L (fun w => SpQ w a b c d a' b' c' d' x y m ∧ F w) tr (E' a b c d a' b' c' d')) (ha : (ar.map (V1.den [] E)).toArray = args := by rfl)
    (hE : ∀ a b c d a' b' c' d', E ++ [[a, b, c, d, a', b', c', d', cc]] = E' a b c d a' b' c' d' := by intros; (simp only [List.cons_append, List.nil_append]) <;> exact rfl) (hD : D 146 = true := by rfl) : Wk Tryz.prog w0 D Z Post L F (.em (.call f ar [some 8, none]) tr) E := by
  intro hm u hF w e b
  subst ha
  refine (hc w b (hm u w e hF)).mono ?_
  rintro e1 w' ⟨v, rfl, ⟨a, b, c, d, a', b', c', d', rfl, h1⟩, h4⟩
  exact ⟨[a, b, c, d, a', b', c', d', cc], rfl, by have p := spl h1; simp only [List.all_cons, List.all_nil, Bool.and_true, Bool.and_eq_true] at p ⊢; exact ⟨p.1, p.2.1, p.2.2.1, p.2.2.2.1, p.2.2.2.2.1, p.2.2.2.2.2.1, p.2.2.2.2.2.2.1, p.2.2.2.2.2.2.2, hv⟩, h4, hE _ _ _ _ _ _ _ _ ▸ hk _ _ _ _ _ _ _ _ ((mSp _ _ _ _ _ _ _ _ _ _ _ hD).and hm) w' ⟨h1, hm u w' (e.below h4) hF⟩⟩
theorem wDsV {D Z : TypeId → Bool} {x y : Rat} {m : Nat} {cc : Value}
    (hc : ∀ w, Below w0.heap.size w0 w → F w → Calls Tryz.prog f args w fun e w' => ∃ v, e = .returned (.tuple #[v, cc]) ∧ DsB w' v x y m ∧ Below w.heap.size w w') (hv : cc.oneCell' = true)
    {E' : Value → Value → Value → Value → Value → Value → Env} (hk : ∀ a b d a' b' d', Wk Tryz.prog w0 D Z Post L (fun w => DsQ w a b d a' b' d' x y m ∧ F w) tr (E' a b d a' b' d')) (ha : (ar.map (V1.den [] E)).toArray = args := by rfl)
    (hE : ∀ a b d a' b' d', E ++ [[a, b, d, a', b', d', cc]] = E' a b d a' b' d' := by intros; (simp only [List.cons_append, List.nil_append]) <;> exact rfl) (hD : D 146 = true := by rfl) : Wk Tryz.prog w0 D Z Post L F (.em (.call f ar [some 6, none]) tr) E := by
  intro hm u hF w e b
  subst ha
  refine (hc w b (hm u w e hF)).mono ?_
  rintro e1 w' ⟨v, rfl, ⟨a, b, d, a', b', d', rfl, h1⟩, h4⟩
  exact ⟨[a, b, d, a', b', d', cc], rfl, by have p := dspl h1; simp only [List.all_cons, List.all_nil, Bool.and_true, Bool.and_eq_true] at p ⊢; exact ⟨p.1, p.2.1, p.2.2.1, p.2.2.2.1, p.2.2.2.2.1, p.2.2.2.2.2, hv⟩, h4, hE _ _ _ _ _ _ ▸ hk _ _ _ _ _ _ ((mDs _ _ _ _ _ _ _ _ _ hD).and hm) w' ⟨h1, hm u w' (e.below h4) hF⟩⟩
theorem wBothS {D Z : TypeId → Bool} {x y : Rat} {m : Nat} {cc : Value}
    (hc : ∀ w, Below w0.heap.size w0 w → F w → Calls Tryz.prog f args w fun e w' => ∃ v v', e = .returned (.tuple #[v, v', cc]) ∧ SpB w' v x y m ∧ DsB w' v' x y m ∧ Below w.heap.size w w') (hv : cc.oneCell' = true)
    {E' : Value → Value → Value → Value → Value → Value → Value → Value → Value → Value → Value → Value → Value → Value → Env} (hk : ∀ a b c d a' b' c' d' s t r s' t' r', Wk Tryz.prog w0 D Z Post L (fun w => SpQ w a b c d a' b' c' d' x y m ∧ DsQ w s t r s' t' r' x y m ∧ F w) tr (E' a b c d a' b' c' d' s t r s' t' r')) (ha : (ar.map (V1.den [] E)).toArray = args := by rfl)
    (hE : ∀ a b c d a' b' c' d' s t r s' t' r', E ++ [[a, b, c, d, a', b', c', d', s, t, r, s', t', r', cc]] = E' a b c d a' b' c' d' s t r s' t' r' := by intros; (simp only [List.cons_append, List.nil_append]) <;> exact rfl) (hD : D 146 = true := by rfl) : Wk Tryz.prog w0 D Z Post L F (.em (.call f ar [some 8, some 6, none]) tr) E := by
  intro hm u hF w e b
  subst ha
  refine (hc w b (hm u w e hF)).mono ?_
  rintro e1 w' ⟨v, v', rfl, ⟨a, b, c, d, a', b', c', d', rfl, h1⟩, ⟨s, t, r, s', t', r', rfl, h2⟩, h4⟩
  exact ⟨[a, b, c, d, a', b', c', d', s, t, r, s', t', r', cc], rfl, by have p := spl h1; have q := dspl h2; simp only [List.all_cons, List.all_nil, Bool.and_true, Bool.and_eq_true] at p q ⊢; exact ⟨p.1, p.2.1, p.2.2.1, p.2.2.2.1, p.2.2.2.2.1, p.2.2.2.2.2.1, p.2.2.2.2.2.2.1, p.2.2.2.2.2.2.2, q.1, q.2.1, q.2.2.1, q.2.2.2.1, q.2.2.2.2.1, q.2.2.2.2.2, hv⟩, h4, hE _ _ _ _ _ _ _ _ _ _ _ _ _ _ ▸ hk _ _ _ _ _ _ _ _ _ _ _ _ _ _ ((mSp _ _ _ _ _ _ _ _ _ _ _ hD).and ((mDs _ _ _ _ _ _ _ _ _ hD).and hm)) w' ⟨h1, h2, hm u w' (e.below h4) hF⟩⟩
end rules
theorem num_le0 (q : Rat) : q.num ≤ 0 ↔ q ≤ 0 := by
  have h := Rat.num_nonneg (q := -q)
  rw [Rat.neg_num] at h
  constructor
  · intro e; have := h.1 (by omega); grind
  · intro e; have := h.2 (by grind); omega
theorem num_lt0 (q : Rat) : q.num < 0 ↔ q < 0 := by
  have h := Rat.num_nonneg (q := q)
  rw [← Rat.not_le, ← h]; omega
theorem num_gt0 (q : Rat) : 0 < q.num ↔ 0 < q := by
  have h := num_le0 q
  rw [← Rat.not_le, ← h]; omega
theorem sg_lt (q : Rat) : decide (sgnZ q.num < 0) = decide (q < 0) := by
  have := num_lt0 q
  unfold sgnZ
  split
  · simp_all
  · split <;> simp_all
theorem sg_gt (q : Rat) : decide (0 < sgnZ q.num) = decide (0 < q) := by
  have h := num_gt0 q
  unfold sgnZ
  split
  · rw [decide_eq_false (by omega), decide_eq_false (by rw [← h]; omega)]
  · split
    · rw [decide_eq_true (by omega), decide_eq_true (by rw [← h]; omega)]
    · rw [decide_eq_false (by omega), decide_eq_false (by rw [← h]; omega)]
theorem sgT_lt {q : Rat} (e : decide (sgnZ q.num < 0) = true) : q < 0 := by rw [sg_lt] at e; simpa using e
theorem sgF_lt {q : Rat} (e : decide (sgnZ q.num < 0) = false) : 0 ≤ q := by rw [sg_lt] at e; have : ¬ q < 0 := (by simpa using e); grind
theorem sgT_gt {q : Rat} (e : decide (0 < sgnZ q.num) = true) : 0 < q := by rw [sg_gt] at e; simpa using e
theorem sgF_gt {q : Rat} (e : decide (0 < sgnZ q.num) = false) : q ≤ 0 := by rw [sg_gt] at e; have : ¬ 0 < q := (by simpa using e); grind
theorem sgT_ge {q : Rat} (e : decide (0 ≤ sgnZ q.num) = true) : 0 ≤ q := sgF_lt (by have : 0 ≤ sgnZ q.num := (by simpa using e); simp; omega)
theorem sgF_ge {q : Rat} (e : decide (0 ≤ sgnZ q.num) = false) : q < 0 := sgT_lt (by have : ¬ 0 ≤ sgnZ q.num := (by simpa using e); simp; omega)
theorem sgT_le {q : Rat} (e : decide (sgnZ q.num ≤ 0) = true) : q ≤ 0 := sgF_gt (by have : sgnZ q.num ≤ 0 := (by simpa using e); simp; omega)
theorem sgF_le {q : Rat} (e : decide (sgnZ q.num ≤ 0) = false) : 0 < q := sgT_gt (by have : ¬ sgnZ q.num ≤ 0 := (by simpa using e); simp; omega)
theorem v_lt (x y : Rat) : decide (cmpQ x y < 0) = decide (x < y) := by
  unfold cmpQ
  split
  · rw [decide_eq_true (by decide), decide_eq_true (by grind)]
  · split
    · rw [decide_eq_false (by decide), decide_eq_false (by grind)]
    · rw [decide_eq_false (by decide), decide_eq_false (by grind)]
theorem v_ge (x y : Rat) : decide (0 ≤ cmpQ x y) = decide (y ≤ x) := by
  unfold cmpQ
  split
  · rw [decide_eq_false (by decide), decide_eq_false (by grind)]
  · split
    · rw [decide_eq_true (by decide), decide_eq_true (by grind)]
    · rw [decide_eq_true (by decide), decide_eq_true (by grind)]
theorem v_gt (x y : Rat) : decide (0 < cmpQ x y) = decide (y < x) := by
  unfold cmpQ
  split
  · rw [decide_eq_false (by decide), decide_eq_false (by grind)]
  · split
    · rw [decide_eq_true (by decide), decide_eq_true (by grind)]
    · rw [decide_eq_false (by decide), decide_eq_false (by grind)]
theorem cT_lt {x y : Rat} (e : decide (cmpQ x y < 0) = true) : x < y := by rw [v_lt] at e; simpa using e
theorem cF_lt {x y : Rat} (e : decide (cmpQ x y < 0) = false) : y ≤ x := by rw [v_lt] at e; have : ¬ x < y := (by simpa using e); grind
theorem cT_ge {x y : Rat} (e : decide (0 ≤ cmpQ x y) = true) : y ≤ x := by rw [v_ge] at e; simpa using e
theorem cF_ge {x y : Rat} (e : decide (0 ≤ cmpQ x y) = false) : x < y := by rw [v_ge] at e; have : ¬ y ≤ x := (by simpa using e); grind
theorem cT_gt {x y : Rat} (e : decide (0 < cmpQ x y) = true) : y < x := by rw [v_gt] at e; simpa using e
theorem cF_gt {x y : Rat} (e : decide (0 < cmpQ x y) = false) : x ≤ y := by rw [v_gt] at e; have : ¬ y < x := (by simpa using e); grind
theorem sfresh_any (v : Value) (q : Rat) (k : Nat) (w : World) (h : RatB w v q k) (hk : k ≤ 1000000) :
    Calls Tryz.prog 66 #[v] w fun e w' => ∃ v', e = .returned v' ∧ RatB w' v' q k ∧ Below w.heap.size w w' := by
  obtain ⟨a, b, c, d, rfl, h⟩ := h
  refine go (fun w => QB w a b c d q k) [[a, b, c, d]] [some 4] (tr := (.em (.call 79 [.g [.c 0 0, .c 0 1, .c 0 2, .c 0 3]] [some 4]) (.em (.call 79 [.g [.c 1 0, .c 1 1, .c 1 2, .c 1 3]] [some 4]) (.ret (.v (.g [.c 2 0, .c 2 1, .c 2 2, .c 2 3])))))) (by kernel_rfl) (by kernel_rfl) (by kernel_rfl) (mQ _ _ _ _ _ _) h ⟨qpl h, trivial⟩ ?_
  refine wRat (fun w b h => qneg_any _ q k w ⟨_, _, _, _, rfl, h⟩ hk) (fun _ _ _ _ => ?_)
  refine wRat (fun w b ⟨h, _⟩ => qneg_any _ (-q) k w ⟨_, _, _, _, rfl, h⟩ hk) (fun _ _ _ _ => ?_)
  exact wRet fun w b ⟨h, _⟩ => ⟨_, rfl, ⟨_, _, _, _, rfl, by rwa [Rat.neg_neg] at h⟩, b⟩
theorem greater_any (v u : Value) (x y : Rat) (k : Nat) (w : World) (h : RatB w v x k) (h' : RatB w u y k) (hk : k ≤ 1000000) :
    Calls Tryz.prog 77 #[v, u] w fun e w' => ∃ v', e = .returned v' ∧ RatB w' v' (mx x y) k ∧ Below w.heap.size w w' := by
  obtain ⟨a, b, c, d, rfl, h⟩ := h
  obtain ⟨a', b', c', d', rfl, h'⟩ := h'
  refine go (fun w => QB w a b c d x k ∧ QB w a' b' c' d' y k) [[a, b, c, d], [a', b', c', d']] [some 4, some 4] (tr := (.em (.call 60 [.g [.c 0 0, .c 0 1, .c 0 2, .c 0 3], .g [.c 1 0, .c 1 1, .c 1 2, .c 1 3]] [none]) (.em (.pr (.binOp .geq 3 (.tmp 0) (.const (.int .i64 0)) 3) 4 [.s (.c 2 0), .s (.k (.int .i64 0))]) (.cond (.c 3 0) (.ret (.v (.g [.c 0 0, .c 0 1, .c 0 2, .c 0 3]))) (.ret (.v (.g [.c 1 0, .c 1 1, .c 1 2, .c 1 3]))))))) (by kernel_rfl) (by kernel_rfl) (by kernel_rfl) ((mQ _ _ _ _ _ _).and (mQ _ _ _ _ _ _)) ⟨h, h'⟩ ⟨qpl h, qpl h', trivial⟩ ?_
  refine wVal (fun w b ⟨h, h'⟩ => qcmp_any _ _ x y k k w ⟨_, _, _, _, rfl, h⟩ ⟨_, _, _, _, rfl, h'⟩ hk hk) rfl ?_
  refine wPr (prGe rfl rfl) rfl ?_
  refine wIf _ rfl (fun e => ?_) (fun e => ?_)
  · exact wRet fun w b ⟨h, _⟩ => ⟨_, rfl, ⟨_, _, _, _, rfl, by rw [mx_of' (cT_ge e)]; exact h⟩, b⟩
  · exact wRet fun w b ⟨_, h⟩ => ⟨_, rfl, ⟨_, _, _, _, rfl, by rw [mx_of (Rat.le_of_lt (cF_ge e))]; exact h⟩, b⟩
theorem snewY (v u : Value) (x y : Rat) (k : Nat) (w : World) (h : RatB w v x k) (h' : RatB w u y k) (hk : k ≤ 1000000) (hl : x ≤ y) :
    Calls Tryz.prog 16 #[v, u] w fun e w' => ∃ v', e = .returned (.tuple #[v', .bool true]) ∧ SpB w' v' x y k ∧ Below w.heap.size w w' := by
  obtain ⟨a, b, c, d, rfl, h⟩ := h
  obtain ⟨a', b', c', d', rfl, h'⟩ := h'
  refine go (fun w => QB w a b c d x k ∧ QB w a' b' c' d' y k) [[a, b, c, d], [a', b', c', d']] [some 4, some 4] (tr := (.em (.call 60 [.g [.c 0 0, .c 0 1, .c 0 2, .c 0 3], .g [.c 1 0, .c 1 1, .c 1 2, .c 1 3]] [none]) (.em (.pr (.binOp .gtr 3 (.tmp 0) (.const (.int .i64 0)) 3) 4 [.s (.c 2 0), .s (.k (.int .i64 0))]) (.cond (.c 3 0) (.ret (.t [.g [.k (.bool false), .k (.slice none 0 0), .k (.bool false), .k (.slice none 0 0), .k (.bool false), .k (.slice none 0 0), .k (.bool false), .k (.slice none 0 0)], .s (.k (.bool false))])) (.em (.call 66 [.g [.c 0 0, .c 0 1, .c 0 2, .c 0 3]] [some 4]) (.em (.call 66 [.g [.c 1 0, .c 1 1, .c 1 2, .c 1 3]] [some 4]) (.ret (.t [.g [.c 4 0, .c 4 1, .c 4 2, .c 4 3, .c 5 0, .c 5 1, .c 5 2, .c 5 3], .s (.k (.bool true))])))))))) (by kernel_rfl) (by kernel_rfl) (by kernel_rfl) ((mQ _ _ _ _ _ _).and (mQ _ _ _ _ _ _)) ⟨h, h'⟩ ⟨qpl h, qpl h', trivial⟩ ?_
  refine wVal (fun w b ⟨h, h'⟩ => qcmp_any _ _ x y k k w ⟨_, _, _, _, rfl, h⟩ ⟨_, _, _, _, rfl, h'⟩ hk hk) rfl ?_
  refine wPr (prGt rfl rfl) rfl ?_
  refine wFalse (by show Value.bool (decide _) = _; rw [v_gt, decide_eq_false (by grind)]) ?_
  refine wRat (fun w b ⟨h, _⟩ => sfresh_any _ x k w ⟨_, _, _, _, rfl, h⟩ hk) (fun _ _ _ _ => ?_)
  refine wRat (fun w b ⟨_, _, h⟩ => sfresh_any _ y k w ⟨_, _, _, _, rfl, h⟩ hk) (fun _ _ _ _ => ?_)
  exact wRet fun w b ⟨h2, h1, _⟩ => ⟨_, rfl, ⟨_, _, _, _, _, _, _, _, rfl, h1, h2⟩, b⟩
def ZeroS : List Value := [.bool false, .slice none 0 0, .bool false, .slice none 0 0, .bool false, .slice none 0 0, .bool false, .slice none 0 0]
theorem cut_cut (n : Int) : cut255 ((cut255 n : Nat) : Int) = cut255 n := by
  have := cut255_le n
  generalize cut255 n = m at *
  unfold cut255
  rw [if_neg (by omega), if_neg (by omega)]; omega
theorem odd_eq (m : Nat) : (((m : Int).tmod 2) == 1) = decide (m % 2 = 1) := by
  rw [Int.tmod_eq_emod_of_nonneg (by omega)]
  by_cases h : m % 2 = 1
  · rw [decide_eq_true h]; simp; omega
  · rw [decide_eq_false h]; simp; omega
set_option maxHeartbeats 2000000 in
theorem spow_any (v : Value) (x y : Rat) (n : Int) (k : Nat) (w : World) (h : SpB w v x y k) (hk : k ≤ 700) (hk1 : 1 ≤ k) (hl : x ≤ y) :
    Calls Tryz.prog 33 #[v, .int .i64 n] w fun e w' => ∃ v', e = .returned v' ∧ SpB w' v' (pLo x y (cut255 n)) (pHi x y (cut255 n)) (k * 255 + 1) ∧ Below w.heap.size w w' := by
  obtain ⟨a, b, c, d, a', b', c', d', rfl, h⟩ := h
  refine go (fun w => SpQ w a b c d a' b' c' d' x y k) [[a, b, c, d, a', b', c', d'], [.int .i64 n]] [some 8, none] (tr := (.em (.pr (.call (.mk (.builtin .max) #[.tmp 0, .const (.int .i64 0)] #[3, 3])) 3 [.s (.c 1 0), .s (.k (.int .i64 0))]) (.em (.pr (.call (.mk (.builtin .min) #[.tmp 0, .const (.int .i64 255)] #[3, 3])) 3 [.s (.c 2 0), .s (.k (.int .i64 255))]) (.em (.pr (.binOp .rem 3 (.tmp 0) (.const (.int .i64 2)) 3) 3 [.s (.c 3 0), .s (.k (.int .i64 2))]) (.em (.pr (.binOp .eql 3 (.tmp 0) (.const (.int .i64 1)) 3) 4 [.s (.c 4 0), .s (.k (.int .i64 1))]) (.cond (.c 5 0) (.em (.call 59 [.g [.c 0 0, .c 0 1, .c 0 2, .c 0 3], .s (.c 3 0)] [some 4]) (.em (.call 59 [.g [.c 0 4, .c 0 5, .c 0 6, .c 0 7], .s (.c 3 0)] [some 4]) (.ret (.v (.g [.c 6 0, .c 6 1, .c 6 2, .c 6 3, .c 7 0, .c 7 1, .c 7 2, .c 7 3]))))) (.em (.call 61 [.g [.c 0 0, .c 0 1, .c 0 2, .c 0 3]] [none]) (.em (.pr (.binOp .geq 3 (.tmp 0) (.const (.int .i64 0)) 3) 4 [.s (.c 6 0), .s (.k (.int .i64 0))]) (.cond (.c 7 0) (.em (.call 59 [.g [.c 0 0, .c 0 1, .c 0 2, .c 0 3], .s (.c 3 0)] [some 4]) (.em (.call 59 [.g [.c 0 4, .c 0 5, .c 0 6, .c 0 7], .s (.c 3 0)] [some 4]) (.ret (.v (.g [.c 8 0, .c 8 1, .c 8 2, .c 8 3, .c 9 0, .c 9 1, .c 9 2, .c 9 3]))))) (.em (.pr (.binOp .eql 3 (.tmp 0) (.const (.int .i64 0)) 3) 4 [.s (.c 3 0), .s (.k (.int .i64 0))]) (.cond (.c 8 0) (.em (.call 59 [.g [.c 0 4, .c 0 5, .c 0 6, .c 0 7], .s (.c 3 0)] [some 4]) (.em (.call 59 [.g [.c 0 0, .c 0 1, .c 0 2, .c 0 3], .s (.c 3 0)] [some 4]) (.ret (.v (.g [.c 9 0, .c 9 1, .c 9 2, .c 9 3, .c 10 0, .c 10 1, .c 10 2, .c 10 3]))))) (.em (.call 61 [.g [.c 0 4, .c 0 5, .c 0 6, .c 0 7]] [none]) (.em (.pr (.binOp .leq 3 (.tmp 0) (.const (.int .i64 0)) 3) 4 [.s (.c 9 0), .s (.k (.int .i64 0))]) (.cond (.c 10 0) (.em (.call 59 [.g [.c 0 4, .c 0 5, .c 0 6, .c 0 7], .s (.c 3 0)] [some 4]) (.em (.call 59 [.g [.c 0 0, .c 0 1, .c 0 2, .c 0 3], .s (.c 3 0)] [some 4]) (.ret (.v (.g [.c 11 0, .c 11 1, .c 11 2, .c 11 3, .c 12 0, .c 12 1, .c 12 2, .c 12 3]))))) (.em (.call 79 [.g [.c 0 0, .c 0 1, .c 0 2, .c 0 3]] [some 4]) (.em (.call 77 [.g [.c 11 0, .c 11 1, .c 11 2, .c 11 3], .g [.c 0 4, .c 0 5, .c 0 6, .c 0 7]] [some 4]) (.em (.call 59 [.g [.c 12 0, .c 12 1, .c 12 2, .c 12 3], .s (.c 3 0)] [some 4]) (.ret (.v (.g [.k (.bool false), .k (.slice none 0 0), .k (.bool false), .k (.slice none 0 0), .c 13 0, .c 13 1, .c 13 2, .c 13 3])))))))))))))))))))) (by kernel_rfl) (by kernel_rfl) (by kernel_rfl) (mSp _ _ _ _ _ _ _ _ _ _ _) h ⟨spl h, rfl, trivial⟩ ?_
  refine wPr (prMax rfl rfl) rfl ?_
  refine wPr (prMinE rfl rfl (min_max_255 n)) rfl ?_
  refine wPr (prRemI rfl rfl (by decide)) rfl ?_
  refine wPr (prEq rfl rfl) rfl ?_
  refine wIf _ rfl (fun e => ?_) (fun e => ?_)
  · have h1 : cut255 n % 2 = 1 := by rw [odd_eq] at e; simpa using e
    obtain ⟨z1, z2⟩ := pow_1 hl (.inl h1)
    rw [← z1, ← z2]
    refine wRat (fun w b h => by have := qpow_any _ x ((cut255 n : Nat) : Int) k w ⟨_, _, _, _, rfl, h.1⟩ (by omega) hk1 (by omega) (by have := cut255_le n; omega); rwa [cut_cut] at this) (fun _ _ _ _ => ?_)
    refine wRat (fun w b ⟨_, h⟩ => by have := qpow_any _ y ((cut255 n : Nat) : Int) k w ⟨_, _, _, _, rfl, h.2⟩ (by omega) hk1 (by omega) (by have := cut255_le n; omega); rwa [cut_cut] at this) (fun _ _ _ _ => ?_)
    exact wRet fun w b ⟨h2, h1, _⟩ => ⟨_, rfl, ⟨_, _, _, _, _, _, _, _, rfl, h1, h2⟩, b⟩
  have h1 : cut255 n % 2 = 0 := by
    rw [odd_eq] at e
    have : ¬ cut255 n % 2 = 1 := (by simpa using e); omega
  refine wVal (fun w b h => qsign_any _ x k w ⟨_, _, _, _, rfl, h.1⟩ (by omega)) rfl ?_
  refine wPr (prGe rfl rfl) rfl ?_
  refine wIf _ rfl (fun e => ?_) (fun e => ?_)
  · have s1 := sgT_ge e
    obtain ⟨z1, z2⟩ := pow_1 (n := cut255 n) hl (.inr s1)
    rw [← z1, ← z2]
    refine wRat (fun w b h => by have := qpow_any _ x ((cut255 n : Nat) : Int) k w ⟨_, _, _, _, rfl, h.1⟩ (by omega) hk1 (by omega) (by have := cut255_le n; omega); rwa [cut_cut] at this) (fun _ _ _ _ => ?_)
    refine wRat (fun w b ⟨_, h⟩ => by have := qpow_any _ y ((cut255 n : Nat) : Int) k w ⟨_, _, _, _, rfl, h.2⟩ (by omega) hk1 (by omega) (by have := cut255_le n; omega); rwa [cut_cut] at this) (fun _ _ _ _ => ?_)
    exact wRet fun w b ⟨h2, h1, _⟩ => ⟨_, rfl, ⟨_, _, _, _, _, _, _, _, rfl, h1, h2⟩, b⟩
  have s1 := sgF_ge e
  refine wPr (prEq rfl rfl) rfl ?_
  refine wIf _ rfl (fun e => ?_) (fun e => ?_)
  · have h0 : cut255 n = 0 := by have : ((cut255 n : Nat) : Int) = 0 := (by simpa using e); omega
    obtain ⟨z1, z2⟩ := pow_2 hl h1 (.inl h0)
    rw [← z1, ← z2]
    refine wRat (fun w b h => by have := qpow_any _ y ((cut255 n : Nat) : Int) k w ⟨_, _, _, _, rfl, h.2⟩ (by omega) hk1 (by omega) (by have := cut255_le n; omega); rwa [cut_cut] at this) (fun _ _ _ _ => ?_)
    refine wRat (fun w b ⟨_, h⟩ => by have := qpow_any _ x ((cut255 n : Nat) : Int) k w ⟨_, _, _, _, rfl, h.1⟩ (by omega) hk1 (by omega) (by have := cut255_le n; omega); rwa [cut_cut] at this) (fun _ _ _ _ => ?_)
    exact wRet fun w b ⟨h2, h1, _⟩ => ⟨_, rfl, ⟨_, _, _, _, _, _, _, _, rfl, h1, h2⟩, b⟩
  have h0 : cut255 n ≠ 0 := by have : ¬ ((cut255 n : Nat) : Int) = 0 := (by simpa using e); omega
  refine wVal (fun w b h => qsign_any _ y k w ⟨_, _, _, _, rfl, h.2⟩ (by omega)) rfl ?_
  refine wPr (prLe rfl rfl) rfl ?_
  refine wIf _ rfl (fun e => ?_) (fun e => ?_)
  · have s2 := sgT_le e
    obtain ⟨z1, z2⟩ := pow_2 hl h1 (.inr s2)
    rw [← z1, ← z2]
    refine wRat (fun w b h => by have := qpow_any _ y ((cut255 n : Nat) : Int) k w ⟨_, _, _, _, rfl, h.2⟩ (by omega) hk1 (by omega) (by have := cut255_le n; omega); rwa [cut_cut] at this) (fun _ _ _ _ => ?_)
    refine wRat (fun w b ⟨_, h⟩ => by have := qpow_any _ x ((cut255 n : Nat) : Int) k w ⟨_, _, _, _, rfl, h.1⟩ (by omega) hk1 (by omega) (by have := cut255_le n; omega); rwa [cut_cut] at this) (fun _ _ _ _ => ?_)
    exact wRet fun w b ⟨h2, h1, _⟩ => ⟨_, rfl, ⟨_, _, _, _, _, _, _, _, rfl, h1, h2⟩, b⟩
  have s2 := sgF_le e
  obtain ⟨z1, z2⟩ := pow_3 h1 h0 s1 s2
  rw [← z1, ← z2]
  refine wRat (fun w b h => qneg_any _ x k w ⟨_, _, _, _, rfl, h.1⟩ (by omega)) (fun _ _ _ _ => ?_)
  refine wRat (fun w b ⟨h, h'⟩ => greater_any _ _ (-x) y k w ⟨_, _, _, _, rfl, h⟩ ⟨_, _, _, _, rfl, h'.2⟩ (by omega)) (fun _ _ _ _ => ?_)
  refine wRat (fun w b ⟨h, _⟩ => by have := qpow_any _ (mx (-x) y) ((cut255 n : Nat) : Int) k w ⟨_, _, _, _, rfl, h⟩ (by omega) hk1 (by omega) (by have := cut255_le n; omega); rwa [cut_cut] at this) (fun _ _ _ _ => ?_)
  exact wRet fun w b ⟨h, _⟩ => ⟨_, rfl, ⟨_, _, _, _, _, _, _, _, rfl, ⟨IntB.zero _ _ _, IntB.zero _ _ _, one_lt _ (by omega)⟩, h⟩, b⟩
end Go.Proofs.YtfohgkabmdhhaaaGreatDoor
