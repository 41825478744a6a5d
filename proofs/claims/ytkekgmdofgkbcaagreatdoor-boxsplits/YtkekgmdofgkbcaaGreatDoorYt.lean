/- The document's sums and products of quotients; the law RatAdds. -/
import Derived.Test.YtkekgmdofgkbcaaGreatDoorYs
import Derived.Test.YtkekgmdofgkbcaaGreatDoorYg
import Derived.Test.YtkekgmdofgkbcaaGreatDoorYh
import Derived.Test.YtkekgmdofgkbcaaGreatDoorYr
import Derived.Test.YtkekgmdofgkbcaaGreatDoorYj
import Derived.Test.YtkekgmdofgkbcaaGreatDoorYq
import Derived.Test.YtkekgmdofgkbcaaGreatDoorYn
namespace Go.Proofs.YtkekgmdofgkbcaaGreatDoor
open Go.RowKit Cin
theorem addQ_mk (x y : Rat) : nq (x.num * (y.den : Int) + y.num * (x.den : Int)) ((x.den * y.den : Nat) : Int) = x + y := by
  rw [nq_div, Int.natCast_mul, Rat.intCast_add, Rat.intCast_mul, Rat.intCast_mul, Rat.intCast_mul]
  have h1 := num_den x
  have h2 := num_den y
  have h3 := den_ne x
  have h4 := den_ne y
  generalize (x.num : Rat) = a at *
  generalize ((x.den : Int) : Rat) = b at *
  generalize (y.num : Rat) = c at *
  generalize ((y.den : Int) : Rat) = d at *
  subst h1 h2
  grind
theorem mulQ_mk (x y : Rat) : nq (x.num * y.num) ((x.den * y.den : Nat) : Int) = x * y := by
  rw [nq_div, Int.natCast_mul, Rat.intCast_mul, Rat.intCast_mul]
  have h1 := num_den x
  have h2 := num_den y
  have h3 := den_ne x
  have h4 := den_ne y
  generalize (x.num : Rat) = a at *
  generalize ((x.den : Int) : Rat) = b at *
  generalize (y.num : Rat) = c at *
  generalize ((y.den : Int) : Rat) = d at *
  subst h1 h2
  grind
theorem dneg_any (v : Value) (q : Rat) (k : Nat) (w : World) (h : DRatB w v q k) :
    Calls Tryz.prog 142 #[v] w fun e w' => ∃ v', e = .returned v' ∧ DRatB w' v' (-q) k ∧ Below w.heap.size w w' := by
  obtain ⟨a, b, d, rfl, h⟩ := h
  refine go (fun w => DQ w a b d q k) [[a, b, d]] [some 3] (tr := (.em (.call 146 [.g [.c 0 0, .c 0 1]] [some 2]) (.em (.call 85 [.g [.c 0 0, .c 0 1, .c 0 2]] [none]) (.ret (.v (.g [.c 1 0, .c 1 1, .c 2 0])))))) (by kernel_rfl) (by kernel_rfl) (by kernel_rfl) (mD _ _ _ _ _) h ⟨dpl h, trivial⟩ ?_
  refine wInt hU (fun w b h => rneg_any _ q.num k w h.1) (fun x1 y1 => ?_)
  refine wRef hU (fun w b ⟨_, h⟩ => dden_any _ q k w ⟨_, _, _, rfl, h⟩) (fun x2 => ?_)
  refine wRet fun w b ⟨h2, h1, _⟩ => ⟨_, rfl, ⟨_, _, _, rfl, ?_, ⟨_, h2.1, .inl ?_⟩, ?_⟩, b⟩
  · rw [Rat.neg_num]; exact h1
  · rw [Rat.neg_den]
  · rw [Rat.neg_den]; exact h2.2
set_option maxHeartbeats 1000000 in
theorem dadd_any (v u : Value) (x y : Rat) (k j : Nat) (w : World) (h : DRatB w v x k) (h' : DRatB w u y j) (hk : k ≤ 1000) (hj : j ≤ 1000) :
    Calls Tryz.prog 56 #[v, u] w fun e w' => ∃ v', e = .returned v' ∧ DRatB w' v' (x + y) (k + j + (j + k) + 1) ∧ Below w.heap.size w w' := by
  obtain ⟨a, b, d, rfl, h⟩ := h
  obtain ⟨a', b', d', rfl, h'⟩ := h'
  have hxp := x.den_pos
  have hyp := y.den_pos
  refine go (fun w => DQ w a b d x k ∧ DQ w a' b' d' y j) [[a, b, d], [a', b', d']] [some 3, some 3] (tr := (.em (.call 85 [.g [.c 1 0, .c 1 1, .c 1 2]] [none]) (.em (.call 84 [.s (.c 2 0)] [some 2]) (.em (.call 83 [.g [.c 0 0, .c 0 1], .g [.c 3 0, .c 3 1]] [some 2]) (.em (.call 85 [.g [.c 0 0, .c 0 1, .c 0 2]] [none]) (.em (.call 84 [.s (.c 5 0)] [some 2]) (.em (.call 83 [.g [.c 1 0, .c 1 1], .g [.c 6 0, .c 6 1]] [some 2]) (.em (.call 101 [.g [.c 4 0, .c 4 1], .g [.c 7 0, .c 7 1]] [some 2]) (.em (.call 85 [.g [.c 0 0, .c 0 1, .c 0 2]] [none]) (.em (.call 85 [.g [.c 1 0, .c 1 1, .c 1 2]] [none]) (.em (.call 102 [.s (.c 9 0), .s (.c 10 0)] [none]) (.em (.call 84 [.s (.c 11 0)] [some 2]) (.em (.call 100 [.g [.c 8 0, .c 8 1], .g [.c 12 0, .c 12 1]] [some 3]) (.ret (.v (.g [.c 13 0, .c 13 1, .c 13 2])))))))))))))))) (by kernel_rfl) (by kernel_rfl) (by kernel_rfl) ((mD _ _ _ _ _).and (mD _ _ _ _ _)) ⟨h, h'⟩ ⟨dpl h, dpl h', trivial⟩ ?_
  refine wRef hU (fun w b ⟨_, h'⟩ => dden_any _ y j w ⟨_, _, _, rfl, h'⟩) (fun x1 => ?_)
  refine wInt hU (fun w b ⟨h1, _⟩ => pos_any _ _ j w h1) (fun x2 y2 => ?_)
  refine wInt hU (fun w b ⟨h2, _, h, _⟩ => rimul_any _ _ _ _ k j w h.1 h2 (by omega) (by omega)) (fun x3 y3 => ?_)
  refine wRef hU (fun w b ⟨_, _, _, h, _⟩ => dden_any _ x k w ⟨_, _, _, rfl, h⟩) (fun x4 => ?_)
  refine wInt hU (fun w b ⟨h4, _⟩ => pos_any _ _ k w h4) (fun x5 y5 => ?_)
  refine wInt hU (fun w b ⟨h5, _, _, _, _, _, h'⟩ => rimul_any _ _ _ _ j k w h'.1 h5 (by omega) (by omega)) (fun x6 y6 => ?_)
  refine wInt hU (fun w b ⟨h6, _, _, h3, _⟩ => riadd_any _ _ _ _ (k + j) (j + k) w h3 h6 (by omega) (by omega)) (fun x7 y7 => ?_)
  refine wRef hU (fun w b ⟨_, _, _, _, _, _, _, h, _⟩ => dden_any _ x k w ⟨_, _, _, rfl, h⟩) (fun x8 => ?_)
  refine wRef hU (fun w b ⟨_, _, _, _, _, _, _, _, _, h'⟩ => dden_any _ y j w ⟨_, _, _, rfl, h'⟩) (fun x9 => ?_)
  refine wRef hU (fun w b ⟨h9, h8, _⟩ => rmulB _ _ x.den y.den k j w h8 h9 (by omega) (by omega)) (fun x10 => ?_)
  refine wInt hU (fun w b ⟨h10, _⟩ => pos_any _ _ (k + j) w h10) (fun x11 y11 => ?_)
  refine wDQ (q := x + y) (fun w b ⟨h11, _, _, _, h7, _⟩ => by
    rw [← addQ_mk x y]
    exact dnew_any _ _ _ _ (k + j + (j + k) + 1) w h7 (h11.mono (by omega)) (by omega) (by omega) (by have := Nat.mul_pos hxp hyp; omega)) (fun a b d => ?_)
  exact wRet fun w b ⟨h, _⟩ => ⟨_, rfl, ⟨_, _, _, rfl, h⟩, b⟩
theorem dsub_any (v u : Value) (x y : Rat) (k j : Nat) (w : World) (h : DRatB w v x k) (h' : DRatB w u y j) (hk : k ≤ 1000) (hj : j ≤ 1000) :
    Calls Tryz.prog 91 #[v, u] w fun e w' => ∃ v', e = .returned v' ∧ DRatB w' v' (x - y) (k + j + (j + k) + 1) ∧ Below w.heap.size w w' := by
  obtain ⟨a, b, d, rfl, h⟩ := h
  obtain ⟨a', b', d', rfl, h'⟩ := h'
  refine go (fun w => DQ w a b d x k ∧ DQ w a' b' d' y j) [[a, b, d], [a', b', d']] [some 3, some 3] (tr := (.em (.call 142 [.g [.c 1 0, .c 1 1, .c 1 2]] [some 3]) (.em (.call 56 [.g [.c 0 0, .c 0 1, .c 0 2], .g [.c 2 0, .c 2 1, .c 2 2]] [some 3]) (.ret (.v (.g [.c 3 0, .c 3 1, .c 3 2])))))) (by kernel_rfl) (by kernel_rfl) (by kernel_rfl) ((mD _ _ _ _ _).and (mD _ _ _ _ _)) ⟨h, h'⟩ ⟨dpl h, dpl h', trivial⟩ ?_
  refine wDQ (fun w b ⟨_, h'⟩ => dneg_any _ y j w ⟨_, _, _, rfl, h'⟩) (fun a1 b1 d1 => ?_)
  refine wDQ (q := x - y) (fun w b ⟨h1, h, _⟩ => by
    rw [Rat.sub_eq_add_neg]
    exact dadd_any _ _ x (-y) k j w ⟨_, _, _, rfl, h⟩ ⟨_, _, _, rfl, h1⟩ hk hj) (fun a b d => ?_)
  exact wRet fun w b ⟨h, _⟩ => ⟨_, rfl, ⟨_, _, _, rfl, h⟩, b⟩
theorem dmul_any (v u : Value) (x y : Rat) (k j : Nat) (w : World) (h : DRatB w v x k) (h' : DRatB w u y j) (hk : k ≤ 3000) (hj : j ≤ 3000) (hk1 : 1 ≤ k) :
    Calls Tryz.prog 98 #[v, u] w fun e w' => ∃ v', e = .returned v' ∧ DRatB w' v' (x * y) (k + j) ∧ Below w.heap.size w w' := by
  obtain ⟨a, b, d, rfl, h⟩ := h
  obtain ⟨a', b', d', rfl, h'⟩ := h'
  have hxp := x.den_pos
  have hyp := y.den_pos
  refine go (fun w => DQ w a b d x k ∧ DQ w a' b' d' y j) [[a, b, d], [a', b', d']] [some 3, some 3] (tr := (.em (.call 83 [.g [.c 0 0, .c 0 1], .g [.c 1 0, .c 1 1]] [some 2]) (.em (.call 85 [.g [.c 0 0, .c 0 1, .c 0 2]] [none]) (.em (.call 85 [.g [.c 1 0, .c 1 1, .c 1 2]] [none]) (.em (.call 102 [.s (.c 3 0), .s (.c 4 0)] [none]) (.em (.call 84 [.s (.c 5 0)] [some 2]) (.em (.call 100 [.g [.c 2 0, .c 2 1], .g [.c 6 0, .c 6 1]] [some 3]) (.ret (.v (.g [.c 7 0, .c 7 1, .c 7 2])))))))))) (by kernel_rfl) (by kernel_rfl) (by kernel_rfl) ((mD _ _ _ _ _).and (mD _ _ _ _ _)) ⟨h, h'⟩ ⟨dpl h, dpl h', trivial⟩ ?_
  refine wInt hU (fun w b ⟨h, h'⟩ => rimul_any _ _ _ _ k j w h.1 h'.1 (by omega) (by omega)) (fun x1 y1 => ?_)
  refine wRef hU (fun w b ⟨_, h, _⟩ => dden_any _ x k w ⟨_, _, _, rfl, h⟩) (fun x2 => ?_)
  refine wRef hU (fun w b ⟨_, _, _, h'⟩ => dden_any _ y j w ⟨_, _, _, rfl, h'⟩) (fun x3 => ?_)
  refine wRef hU (fun w b ⟨h3, h2, _⟩ => rmulB _ _ x.den y.den k j w h2 h3 (by omega) (by omega)) (fun x4 => ?_)
  refine wInt hU (fun w b ⟨h4, _⟩ => pos_any _ _ (k + j) w h4) (fun x5 y5 => ?_)
  refine wDQ (q := x * y) (fun w b ⟨h5, _, _, _, h1, _⟩ => by
    rw [← mulQ_mk x y]
    exact dnew_any _ _ _ _ (k + j) w h1 h5 (by omega) (by omega) (by have := Nat.mul_pos hxp hyp; omega)) (fun a b d => ?_)
  exact wRet fun w b ⟨h, _⟩ => ⟨_, rfl, ⟨_, _, _, rfl, h⟩, b⟩
theorem dcmp_any (v u : Value) (x y : Rat) (k j : Nat) (w : World) (h : DRatB w v x k) (h' : DRatB w u y j) (hk : k ≤ 3000) (hj : j ≤ 3000) :
    Calls Tryz.prog 45 #[v, u] w fun e w' => e = .returned (.int .i64 (cmpQ x y)) ∧ Below w.heap.size w w' := by
  obtain ⟨a, b, d, rfl, h⟩ := h
  obtain ⟨a', b', d', rfl, h'⟩ := h'
  refine go (fun w => DQ w a b d x k ∧ DQ w a' b' d' y j) [[a, b, d], [a', b', d']] [some 3, some 3] (tr := (.em (.call 85 [.g [.c 1 0, .c 1 1, .c 1 2]] [none]) (.em (.call 84 [.s (.c 2 0)] [some 2]) (.em (.call 83 [.g [.c 0 0, .c 0 1], .g [.c 3 0, .c 3 1]] [some 2]) (.em (.call 85 [.g [.c 0 0, .c 0 1, .c 0 2]] [none]) (.em (.call 84 [.s (.c 5 0)] [some 2]) (.em (.call 83 [.g [.c 1 0, .c 1 1], .g [.c 6 0, .c 6 1]] [some 2]) (.em (.call 82 [.g [.c 4 0, .c 4 1], .g [.c 7 0, .c 7 1]] [none]) (.ret (.v (.s (.c 8 0)))))))))))) (by kernel_rfl) (by kernel_rfl) (by kernel_rfl) ((mD _ _ _ _ _).and (mD _ _ _ _ _)) ⟨h, h'⟩ ⟨dpl h, dpl h', trivial⟩ ?_
  refine wRef hU (fun w b ⟨_, h'⟩ => dden_any _ y j w ⟨_, _, _, rfl, h'⟩) (fun x1 => ?_)
  refine wInt hU (fun w b ⟨h1, _⟩ => pos_any _ _ j w h1) (fun x2 y2 => ?_)
  refine wInt hU (fun w b ⟨h2, _, h, _⟩ => rimul_any _ _ _ _ k j w h.1 h2 (by omega) (by omega)) (fun x3 y3 => ?_)
  refine wRef hU (fun w b ⟨_, _, _, h, _⟩ => dden_any _ x k w ⟨_, _, _, rfl, h⟩) (fun x4 => ?_)
  refine wInt hU (fun w b ⟨h4, _⟩ => pos_any _ _ k w h4) (fun x5 y5 => ?_)
  refine wInt hU (fun w b ⟨h5, _, _, _, _, _, h'⟩ => rimul_any _ _ _ _ j k w h'.1 h5 (by omega) (by omega)) (fun x6 y6 => ?_)
  refine wVal (v := .int .i64 (cmpQ x y)) (fun w b ⟨h6, _, _, h3, _⟩ => by
    rw [← cmpQ_of]
    exact ricmp_any _ _ _ _ (k + j) (j + k) w h3 h6 (by omega) (by omega)) rfl ?_
  exact wRet fun w b _ => ⟨rfl, b⟩
end Go.Proofs.YtkekgmdofgkbcaaGreatDoor

namespace Go.Proofs.YtkekgmdofgkbcaaGreatDoor
open Go.RowKit Cin
section prims
variable {P : Program} {T T' ty : TypeId} {vs : List Value} {p q : Operand} {x y : Int}
theorem prMin (hp : pe vs p = .int .i64 x) (hq : pe vs q = .int .i64 y) : PrimOk P (.call { callee := .builtin .min, args := #[p, q], argTypes := #[T, T'] }) ty vs (.int .i64 (min x y)) := fun w => by
  have e : min x y = if y < x then y else x := by split <;> omega
  rw [e]
  simp [execOp, resolve, hp, hq, invoke, builtin, Builtin.min_, Builtin.min2]
end prims
end Go.Proofs.YtkekgmdofgkbcaaGreatDoor

namespace Go.Proofs.YtkekgmdofgkbcaaGreatDoor
open Go.RowKit Cin
theorem wrap64 {z : Int} (h0 : -9223372036854775808 ≤ z) (h1 : z ≤ 9223372036854775807) : IntKind.i64.wrap z = z := by
  unfold IntKind.wrap
  simp [IntKind.signed, IntKind.bits]
  omega
section prims
variable {P : Program} {t t2 ty : TypeId} {vs : List Value} {p q : Operand} {x y : Int}
theorem prAddI (hp : pe vs p = .int .i64 x) (hq : pe vs q = .int .i64 y) (h0 : -9223372036854775808 ≤ x + y) (h1 : x + y ≤ 9223372036854775807) : PrimOk P (.binOp .add t p q t2) ty vs (.int .i64 (x + y)) := by
  have h := prAdd (P := P) (t := t) (t2 := t2) (ty := ty) hp hq
  rwa [wrap64 h0 h1] at h
theorem prSubI (hp : pe vs p = .int .i64 x) (hq : pe vs q = .int .i64 y) (h0 : -9223372036854775808 ≤ x - y) (h1 : x - y ≤ 9223372036854775807) : PrimOk P (.binOp .sub t p q t2) ty vs (.int .i64 (x - y)) := fun w => by
  simp only [execOp, hp, hq]
  simp [eqGuard, binOp, Op.intArith, wrap64 h0 h1]
theorem prNegI (hp : pe vs p = .int .i64 x) (h0 : -9223372036854775807 ≤ x) (h1 : x ≤ 9223372036854775807) : PrimOk P (.unOp .neg t p) ty vs (.int .i64 (-x)) := fun w => by
  simp only [execOp, hp]
  have e : (0 : Int) - x = -x := by omega
  simp [Op.unary, Op.intArith, wrap64 (z := -x) (by omega) (by omega)]
theorem prMinE {T T' : TypeId} {z : Int} (hp : pe vs p = .int .i64 x) (hq : pe vs q = .int .i64 y) (h : min x y = z) : PrimOk P (.call { callee := .builtin .min, args := #[p, q], argTypes := #[T, T'] }) ty vs (.int .i64 z) := by subst h; exact prMin hp hq
end prims
abbrev NB (w : World) (x : Value) (n k : Nat) : Prop := NatB 190 w (.agg #[x]) n k
theorem nbc {w : World} {v : Value} {n k : Nat} (h : NatB 190 w v n k) : ∃ x, v = .agg #[x] ∧ NB w x n k := by
  obtain ⟨ad, len, cap, rfl⟩ := h.shape2
  exact ⟨_, rfl, h⟩
theorem npl {w : World} {x : Value} {n k : Nat} (h : NB w x n k) : [x].all Value.oneCell' = true := by
  obtain ⟨ad, len, cap, e⟩ := h.shape2
  cases e; rfl
theorem mN (x : Value) (n k : Nat) : Mono DD fun w => NB w x n k := monoNat hU _ _ _
theorem cut_eq {n : Int} (h0 : 0 ≤ n) (h1 : n ≤ 1048576) : cut n = n.toNat := by unfold cut; rw [if_neg (by omega), if_neg (by omega)]
theorem shrI (v : Value) (x : Nat) (n : Int) (k : Nat) (w : World) (h : NatB 190 w v x k) (hk : k ≤ 1000000) (h0 : 0 ≤ n) (h1 : n ≤ 1048576) :
    Calls Tryz.prog 228 #[v, .int .i64 n] w fun e w' => ∃ v', e = .returned v' ∧ NatB 190 w' v' (x / 2 ^ n.toNat) k ∧ Below w.heap.size w w' :=
  (shr_any v x n k w h.1 h.2 (by omega)).mono fun _ _ ⟨v', e, hn, hb⟩ => ⟨v', e, ⟨by rw [← cut_eq h0 h1]; exact hn, Nat.lt_of_le_of_lt (Nat.div_le_self _ _) h.2⟩, hb⟩
theorem bitsI (v : Value) (x k : Nat) (w : World) (h : NatB 190 w v x k) (hk : k ≤ 1000000) :
    Calls Tryz.prog 178 #[v] w fun e w' => e = .returned (.int .i64 (blOf x : Nat)) ∧ Below w.heap.size w w' :=
  (bits_any v x k w h.1 h.2 (by omega)).mono fun _ _ ⟨j, e, hn, hb⟩ => ⟨by rw [e, hn.unique (blOf_ok x)], hb⟩
theorem zerosI (v : Value) (x k : Nat) (w : World) (hT : Tabs w) (h : NatB 190 w v x k) (hk : k ≤ 1000000) :
    Calls Tryz.prog 177 #[v] w fun e w' => e = .returned (.int .i64 (tzOf x : Nat)) ∧ Below w.heap.size w w' :=
  (zeros_any v x k w hT h.1 h.2 (by omega)).mono fun _ _ ⟨j, e, hn, hb⟩ => ⟨by rw [e, hn.unique (tzOf_ok x)], hb⟩
theorem tz_pw {x k : Nat} (h : x < pw k) : tzOf x ≤ 32 * k := by rw [pw_two] at h; exact tzOf_le h
theorem bl_pw {x k : Nat} (h : x < pw k) : blOf x ≤ 32 * k := by rw [pw_two] at h; exact blOf_le h
def Zmu : List Value → Nat
  | .int _ i :: _ => i.toNat
  | _ => 0
def Zinv (n : Int) (x y k j : Nat) (cs : List Value) (w : World) : Prop := ∃ (m : Int) (a : Value), cs = [.int .i64 m, a] ∧ (m = n ∨ (m = n - 1048576 ∧ 0 < n)) ∧ NB w a (if m = n then x else y) (if m = n then k else j)
theorem Zinv.mono (n : Int) (x y k j : Nat) (cs : List Value) : Mono DD (Zinv n x y k j cs) := fun _ _ e ⟨m, a, h1, h2, h3⟩ => ⟨m, a, h1, h2, h3.ext e hU⟩
theorem Zinv.at {n m : Int} {x y k j : Nat} {a : Value} {w : World} (h : Zinv n x y k j [.int .i64 m, a] w) : NB w a (if m = n then x else y) (if m = n then k else j) := by
  obtain ⟨m', a', e, _, h⟩ := h
  injection e with e1 e2
  injection e2 with e2 _
  injection e1 with _ e1
  subst e1 e2
  exact h
theorem sdn_any (v : Value) (x : Nat) (n : Int) (k : Nat) (w : World) (h : NatB 190 w v x k) (hk : k ≤ 1000000) (h0 : -9000000000000000000 ≤ n) (h1 : n ≤ 1048576) :
    Calls Tryz.prog 213 #[v, .int .i64 n] w fun e w' => ∃ v', e = .returned v' ∧ NatB 190 w' v' (x / 2 ^ n.toNat) k ∧ Below w.heap.size w w' := by
  obtain ⟨a, rfl, h⟩ := nbc h
  refine go (fun w => NB w a x k) [[a], [.int .i64 n]] [some 1, none] (tr := (.loop 0 [.c 1 0, .c 0 0] (.em (.pr (.binOp .gtr 3 (.tmp 0) (.const (.int .i64 0)) 3) 4 [.s (.c 2 0), .s (.k (.int .i64 0))]) (.cond (.c 3 0) (.em (.pr (.call (.mk (.builtin .min) #[.tmp 0, .const (.int .i64 1048576)] #[3, 3])) 3 [.s (.c 2 0), .s (.k (.int .i64 1048576))]) (.em (.call 228 [.g [.c 2 1], .s (.c 4 0)] [some 1]) (.em (.pr (.binOp .sub 3 (.tmp 0) (.const (.int .i64 1048576)) 3) 3 [.s (.c 2 0), .s (.k (.int .i64 1048576))]) (.back 0 [.c 6 0, .c 5 0])))) (.ret (.v (.g [.c 2 1]))))))) (by kernel_rfl) (by kernel_rfl) (by kernel_rfl) (mN _ _ _) h ⟨npl h, rfl, trivial⟩ ?_
  refine wLoop (Zinv n x (x / 2 ^ n.toNat) k k) (Zinv.mono _ _ _ _ _) Zmu (fun w h => ⟨n, a, rfl, .inl rfl, by rw [if_pos rfl, if_pos rfl]; exact h⟩) (fun cs _ => ?_)
  intro hm u hF
  obtain ⟨⟨m, a1, rfl, hc, _⟩, _⟩ := id hF
  refine wMono (G := fun w => NB w a1 (if m = n then x else x / 2 ^ n.toNat) (if m = n then k else k)) (mN _ _ _) (fun w h => h.1.at) ?_ hm u hF
  clear hm hF
  refine wPr (prGt rfl rfl) rfl ?_
  rcases hc with rfl | ⟨rfl, hn⟩
  · refine wIf _ rfl (fun e => ?_) (fun e => ?_)
    · have hn : 0 < m := by simpa using e
      refine wPr (prMinE (z := m) rfl rfl (by show min m (1048576 : Int) = m; omega)) rfl ?_
      refine wNat hU (n := x / 2 ^ m.toNat) (m := k) (fun w b h => by
        rw [if_pos rfl, if_pos rfl] at h
        exact shrI _ x m k w h hk (by omega) h1) (fun x1 => ?_)
      refine wPr (prSubI rfl rfl (by show _ ≤ m - (1048576 : Int); omega) (by show m - (1048576 : Int) ≤ _; omega)) rfl ?_
      refine wBack fun w ⟨h1', _⟩ => ⟨⟨m - 1048576, x1, rfl, .inr ⟨rfl, hn⟩, by rw [if_neg (by omega), if_neg (by omega)]; exact h1'⟩, ?_⟩
      show (m - 1048576).toNat < m.toNat
      omega
    · have hn : ¬ 0 < m := by simpa using e
      refine wRet fun w b h => ⟨_, rfl, ?_, b⟩
      rw [if_pos rfl, if_pos rfl] at h
      rw [show m.toNat = 0 by omega, Nat.pow_zero, Nat.div_one]
      exact h
  · refine wFalse (by show Value.bool (decide (0 < n - 1048576)) = _; rw [decide_eq_false (by omega)]) ?_
    refine wRet fun w b h => ⟨_, rfl, ?_, b⟩
    rw [if_neg (by omega), if_neg (by omega)] at h
    exact h
def DyQ (w : World) (x y : Value) (q : Rat) (k K : Nat) : Prop := IB w x y (oddOf q) k ∧ Dy q ∧ -(K : Int) ≤ expOf q ∧ expOf q ≤ K
def DyB (w : World) (v : Value) (q : Rat) (k K : Nat) : Prop := ∃ x y, v = .agg #[x, y, .int .i64 (expOf q)] ∧ DyQ w x y q k K
theorem mY (x y : Value) (q : Rat) (k K : Nat) : Mono DD fun w => DyQ w x y q k K := fun _ _ e ⟨h1, h2⟩ => ⟨h1.ext e hU, h2⟩
theorem ypl {w : World} {x y : Value} {q : Rat} {k K : Nat} (h : DyQ w x y q k K) (c : Value) (hc : c.oneCell' = true) : [x, y, c].all Value.oneCell' = true := by
  have p := ipl h.1
  simp only [List.all_cons, List.all_nil, Bool.and_true, Bool.and_eq_true] at p ⊢
  exact ⟨p.1, p.2, hc⟩
theorem wDy {w0 : World} {Post : Ending → World → Prop} {F : World → Prop} {L : LC} {E : Env} {tr : Tr} {f : FuncId} {ar : List V1} {args : Array Value} {q : Rat} {k K : Nat}
    (hc : ∀ w, Below w0.heap.size w0 w → F w → Calls Tryz.prog f args w fun e w' => ∃ v, e = .returned v ∧ DyB w' v q k K ∧ Below w.heap.size w w')
    {E' : Value → Value → Env} (hk : ∀ a b, Wk Tryz.prog w0 DD DD Post L (fun w => DyQ w a b q k K ∧ F w) tr (E' a b)) (ha : (ar.map (V1.den [] E)).toArray = args := by rfl) (hE : ∀ a b, E ++ [[a, b, .int .i64 (expOf q)]] = E' a b := by intros; (simp only [List.cons_append, List.nil_append]) <;> exact rfl) : Wk Tryz.prog w0 DD DD Post L F (.em (.call f ar [some 3]) tr) E := by
  intro hm u hF w e b
  subst ha
  refine (hc w b (hm u.w w e.ext hF)).mono ?_
  rintro e1 w' ⟨v, rfl, ⟨a, b, rfl, hv⟩, h4⟩
  exact ⟨[a, b, .int .i64 (expOf q)], rfl, ypl hv _ rfl, h4, hE _ _ ▸ hk _ _ ((mY _ _ _ _ _).and hm) (u.more w w') ⟨hv, hm u.w w' (e.below h4).ext hF⟩⟩
theorem zeroDy (w : World) (k K : Nat) : DyB w (.agg #[.bool false, .slice none 0 0, .int .i64 0]) 0 k K := by
  refine ⟨.bool false, .slice none 0 0, by rw [exp_zero], ?_, dy_zero.dy, by rw [exp_zero]; omega, by rw [exp_zero]; omega⟩
  rw [odd_zero]; exact IntB.zero _ _ _
theorem strip_any (v : Value) (m e : Int) (k K : Nat) (w : World) (hT : Tabs w) (h : IntB 190 w v m k) (hk : k ≤ 32768) (h0 : -(K : Int) ≤ e) (h1 : e ≤ K) (hK : K ≤ 1000000000000) :
    Calls Tryz.prog 179 #[v, .int .i64 e] w fun e' w' => ∃ v', e' = .returned v' ∧ DyB w' v' ((m : Rat) * tp e) k (K + 32 * k) ∧ Below w.heap.size w w' := by
  obtain ⟨x, y, rfl, h⟩ := ibc h
  have htz := tz_pw h.2
  refine go (fun w => IB w x y m k) [[x, y], [.int .i64 e]] [some 2, none] (tr := (.em (.call 92 [.g [.c 0 0, .c 0 1]] [none]) (.em (.pr (.binOp .eql 3 (.tmp 0) (.const (.int .i64 0)) 3) 4 [.s (.c 2 0), .s (.k (.int .i64 0))]) (.cond (.c 3 0) (.ret (.v (.g [.k (.bool false), .k (.slice none 0 0), .k (.int .i64 0)]))) (.em (.call 130 [.g [.c 0 0, .c 0 1]] [some 1]) (.em (.call 177 [.g [.c 4 0]] [none]) (.em (.pr (.binOp .add 3 (.tmp 0) (.tmp 1) 3) 3 [.s (.c 1 0), .s (.c 5 0)]) (.em (.call 92 [.g [.c 0 0, .c 0 1]] [none]) (.em (.pr (.binOp .lss 3 (.tmp 0) (.const (.int .i64 0)) 3) 4 [.s (.c 7 0), .s (.k (.int .i64 0))]) (.em (.call 213 [.g [.c 4 0], .s (.c 5 0)] [some 1]) (.em (.call 128 [.s (.c 8 0), .g [.c 9 0]] [some 2]) (.ret (.v (.g [.c 10 0, .c 10 1, .c 6 0])))))))))))))) (by kernel_rfl) (by kernel_rfl) (by kernel_rfl) (mI _ _ _ _) h ⟨ipl h, rfl, trivial⟩ ?_
  refine wVal (fun w b h => sign_any _ m k w h (by omega)) rfl ?_
  refine wPr (prEq rfl rfl) rfl ?_
  refine wIf _ rfl (fun e1 => ?_) (fun e1 => ?_)
  · have e2 : m = 0 := by have := (sgn_zero m).symm.trans e1; simpa using this
    refine wRet fun w b _ => ⟨_, rfl, ?_, b⟩
    rw [(dv_sign m e).2.1 e2]
    exact zeroDy w _ _
  · have e2 : m ≠ 0 := by have := (sgn_zero m).symm.trans e1; simpa using this
    have hd := isDy_of (e := e) e2 (tzOf_ok m.natAbs) rfl
    refine wNat hU (fun w b h => abs_any _ m k w h (by omega)) (fun x1 => ?_)
    refine wVal (fun w b ⟨h1, _⟩ => zerosI _ m.natAbs k w (hT.below b) h1 (by omega)) rfl ?_
    refine wPr (prAddI rfl rfl (by omega) (by omega)) rfl ?_
    refine wVal (fun w b ⟨_, h⟩ => sign_any _ m k w h (by omega)) rfl ?_
    refine wPr (prLt rfl rfl) rfl ?_
    refine wNat hU (fun w b ⟨h1, _⟩ => sdn_any _ m.natAbs (tzOf m.natAbs : Nat) k w h1 (by omega) (by omega) (by omega)) (fun x2 => ?_)
    refine wInt hU (fun w b ⟨h2, _⟩ => from_any _ _ _ k w h2 (by omega)) (fun x3 y3 => ?_)
    refine wRet fun w b ⟨h3, _⟩ => ⟨_, rfl, ⟨x3, y3, by rw [hd.exp]; rfl, ?_, hd.dy, by rw [hd.exp]; omega, by rw [hd.exp]; omega⟩, b⟩
    rw [sgn_neg] at h3
    rw [hd.odd]
    by_cases hm : m < 0
    · rw [if_pos hm]; rw [decide_eq_true hm] at h3; exact h3
    · rw [if_neg hm]; rw [decide_eq_false hm] at h3; exact h3
theorem DyQ.neg {w : World} {x y x' y' : Value} {q : Rat} {k K : Nat} (h : DyQ w x y q k K) (h' : IB w x' y' (-oddOf q) k) : DyQ w x' y' (-q) k K := ⟨by rw [h.2.1.oddNeg]; exact h', h.2.1.neg, by rw [h.2.1.expNeg]; exact h.2.2.1, by rw [h.2.1.expNeg]; exact h.2.2.2⟩
end Go.Proofs.YtkekgmdofgkbcaaGreatDoor

namespace Go.Proofs.YtkekgmdofgkbcaaGreatDoor
open Go.RowKit Cin
theorem den_lt {w : World} {a b c d : Value} {q : Rat} {k : Nat} (h : QB w a b c d q k) : q.den < pw k := h.2.2
theorem yof_yes (v : Value) (q : Rat) (k : Nat) (w : World) (hT : Tabs w) (h : RatB w v q k) (hk : k ≤ 8000) (hq : DyOk q) :
    Calls Tryz.prog 133 #[v] w fun r w' => ∃ v', r = .returned (.tuple #[v', .bool true]) ∧ DyB w' v' q k (64 * k) ∧ Below w.heap.size w w' := by
  obtain ⟨a, b, c, d, rfl, h⟩ := h
  have hd := den_lt h
  have htz := tz_pw hd
  have hbl := bl_pw hd
  refine go (fun w => QB w a b c d q k) [[a, b, c, d]] [some 4] (tr := (.em (.call 176 [.g [.c 0 0, .c 0 1, .c 0 2, .c 0 3]] [some 2]) (.em (.call 130 [.g [.c 1 0, .c 1 1]] [some 1]) (.em (.call 177 [.g [.c 2 0]] [none]) (.em (.pr (.binOp .add 3 (.tmp 0) (.const (.int .i64 1)) 3) 3 [.s (.c 3 0), .s (.k (.int .i64 1))]) (.em (.call 178 [.g [.c 2 0]] [none]) (.em (.pr (.binOp .neq 3 (.tmp 0) (.tmp 1) 3) 4 [.s (.c 4 0), .s (.c 5 0)]) (.cond (.c 6 0) (.ret (.t [.g [.k (.bool false), .k (.slice none 0 0), .k (.int .i64 0)], .s (.k (.bool false))])) (.em (.call 180 [.g [.c 0 0, .c 0 1, .c 0 2, .c 0 3]] [some 2]) (.em (.call 177 [.g [.c 2 0]] [none]) (.em (.pr (.unOp .neg 3 (.tmp 0)) 3 [.s (.c 8 0)]) (.em (.call 179 [.g [.c 7 0, .c 7 1], .s (.c 9 0)] [some 3]) (.ret (.t [.g [.c 10 0, .c 10 1, .c 10 2], .s (.k (.bool true))])))))))))))))) (by kernel_rfl) (by kernel_rfl) (by kernel_rfl) (mQ _ _ _ _ _ _) h ⟨qpl h, trivial⟩ ?_
  refine wInt hU (fun w b h => qden_any _ q k w ⟨_, _, _, _, rfl, h⟩ (by omega)) (fun x1 y1 => ?_)
  refine wNat hU (n := q.den) (m := k) (fun w b ⟨h1, _⟩ => by have := abs_any _ _ k w h1 (by omega); rwa [Int.natAbs_natCast] at this) (fun x2 => ?_)
  refine wVal (fun w b ⟨h2, _⟩ => zerosI _ q.den k w (hT.below b) h2 (by omega)) rfl ?_
  refine wPr (prAddI rfl rfl (by show _ ≤ _ + (1 : Int); omega) (by show _ + (1 : Int) ≤ _; omega)) rfl ?_
  refine wVal (fun w b ⟨h2, _⟩ => bitsI _ q.den k w h2 (by omega)) rfl ?_
  refine wPr (prNe rfl rfl) rfl ?_
  refine wFalse (by have := hq; unfold DyOk at this; show Value.bool (((tzOf q.den : Nat) : Int) + 1 != ((blOf q.den : Nat) : Int)) = _; rw [← this]; simp) ?_
  refine wInt hU (fun w b ⟨_, _, h⟩ => qnum_any _ q k w ⟨_, _, _, _, rfl, h⟩ (by omega)) (fun x3 y3 => ?_)
  refine wVal (fun w b ⟨_, h2, _⟩ => zerosI _ q.den k w (hT.below b) h2 (by omega)) rfl ?_
  refine wPr (prNegI rfl (by omega) (by omega)) rfl ?_
  refine wDy (q := q) (fun w b ⟨h3, _⟩ => by
    have := strip_any _ q.num (-(tzOf q.den : Int)) k (32 * k) w (hT.below b) h3 (by omega) (by omega) (by omega) (by omega)
    rw [hq.val, show 32 * k + 32 * k = 64 * k by omega] at this
    exact this) (fun x4 y4 => ?_)
  exact wRet fun w b ⟨h, _⟩ => ⟨_, rfl, ⟨_, _, rfl, h⟩, b⟩
theorem yof_no (v : Value) (q : Rat) (k : Nat) (w : World) (hT : Tabs w) (h : RatB w v q k) (hk : k ≤ 8000) (hq : ¬ DyOk q) :
    Calls Tryz.prog 133 #[v] w fun r w' => r = .returned (.tuple #[.agg #[.bool false, .slice none 0 0, .int .i64 0], .bool false]) ∧ Below w.heap.size w w' := by
  obtain ⟨a, b, c, d, rfl, h⟩ := h
  have hd := den_lt h
  have htz := tz_pw hd
  have hbl := bl_pw hd
  refine go (fun w => QB w a b c d q k) [[a, b, c, d]] [some 4] (tr := (.em (.call 176 [.g [.c 0 0, .c 0 1, .c 0 2, .c 0 3]] [some 2]) (.em (.call 130 [.g [.c 1 0, .c 1 1]] [some 1]) (.em (.call 177 [.g [.c 2 0]] [none]) (.em (.pr (.binOp .add 3 (.tmp 0) (.const (.int .i64 1)) 3) 3 [.s (.c 3 0), .s (.k (.int .i64 1))]) (.em (.call 178 [.g [.c 2 0]] [none]) (.em (.pr (.binOp .neq 3 (.tmp 0) (.tmp 1) 3) 4 [.s (.c 4 0), .s (.c 5 0)]) (.cond (.c 6 0) (.ret (.t [.g [.k (.bool false), .k (.slice none 0 0), .k (.int .i64 0)], .s (.k (.bool false))])) (.em (.call 180 [.g [.c 0 0, .c 0 1, .c 0 2, .c 0 3]] [some 2]) (.em (.call 177 [.g [.c 2 0]] [none]) (.em (.pr (.unOp .neg 3 (.tmp 0)) 3 [.s (.c 8 0)]) (.em (.call 179 [.g [.c 7 0, .c 7 1], .s (.c 9 0)] [some 3]) (.ret (.t [.g [.c 10 0, .c 10 1, .c 10 2], .s (.k (.bool true))])))))))))))))) (by kernel_rfl) (by kernel_rfl) (by kernel_rfl) (mQ _ _ _ _ _ _) h ⟨qpl h, trivial⟩ ?_
  refine wInt hU (fun w b h => qden_any _ q k w ⟨_, _, _, _, rfl, h⟩ (by omega)) (fun x1 y1 => ?_)
  refine wNat hU (n := q.den) (m := k) (fun w b ⟨h1, _⟩ => by have := abs_any _ _ k w h1 (by omega); rwa [Int.natAbs_natCast] at this) (fun x2 => ?_)
  refine wVal (fun w b ⟨h2, _⟩ => zerosI _ q.den k w (hT.below b) h2 (by omega)) rfl ?_
  refine wPr (prAddI rfl rfl (by show _ ≤ _ + (1 : Int); omega) (by show _ + (1 : Int) ≤ _; omega)) rfl ?_
  refine wVal (fun w b ⟨h2, _⟩ => bitsI _ q.den k w h2 (by omega)) rfl ?_
  refine wPr (prNe rfl rfl) rfl ?_
  refine wTrue (by unfold DyOk at hq; show Value.bool (((tzOf q.den : Nat) : Int) + 1 != ((blOf q.den : Nat) : Int)) = _; simp; omega) ?_
  exact wRet fun w b _ => ⟨rfl, b⟩
end Go.Proofs.YtkekgmdofgkbcaaGreatDoor

namespace Go.Proofs.YtkekgmdofgkbcaaGreatDoor
open Go.RowKit Cin
set_option maxHeartbeats 800000 in
theorem rnatOf_two (w : World) : Calls Tryz.prog 95 #[.int .u64 2] w fun e w' => ∃ v', e = .returned v' ∧ RefB w' v' 2 1 ∧ Below w.heap.size w w' := by
  have hand : bits BinOp.and IntKind.u64 2 4294967295 = 2 := and_mask32 (t := 2) (by decide)
  go_enter Tryz.func95, Tryz.ntmps95
  go_wp2_with fail
  have hblk := Blk.new w 190 .u32 [2, 0]
  refine (rtrim_any _ [2, 0] _ (Sl.of_blk hblk) (Ok.cons (by decide) (Ok.cons (by decide) Ok.nil)) (by decide)).mono ?_
  rintro e w1 ⟨v1, rfl, hr, rfl⟩
  have HR := Lib.hid hr
  clear hr hblk hand
  go_wp2
  go_ret
  exact ⟨_, rfl, ⟨HR.out, by decide⟩, bel_alloc _ _⟩
instance (q : Rat) : Decidable (DyOk q) := inferInstanceAs (Decidable (_ = _))
theorem half_parts : (1 / 2 : Rat).num = 1 ∧ (1 / 2 : Rat).den = 2 := by
  refine rat_of (n := 1) (d := 2) (by decide) (by decide) ?_
  rw [Rat.mkRat_eq_div]; rfl
theorem dhalf_any (v : Value) (q : Rat) (k : Nat) (w : World) (h : DRatB w v q k) (hk : k ≤ 1000) (hk1 : 1 ≤ k) :
    Calls Tryz.prog 55 #[v] w fun r w' => ∃ v', r = .returned v' ∧ DRatB w' v' (q / 2) (k + 1) ∧ Below w.heap.size w w' := by
  obtain ⟨a, b, d, rfl, h⟩ := h
  refine go (fun w => DQ w a b d q k) [[a, b, d]] [some 3] (tr := (.em (.call 99 [.s (.k (.int .i64 1))] [some 2]) (.em (.call 95 [.s (.k (.int .u64 2))] [none]) (.em (.call 98 [.g [.c 0 0, .c 0 1, .c 0 2], .g [.c 1 0, .c 1 1, .c 2 0]] [some 3]) (.ret (.v (.g [.c 3 0, .c 3 1, .c 3 2]))))))) (by kernel_rfl) (by kernel_rfl) (by kernel_rfl) (mD _ _ _ _ _) h ⟨dpl h, trivial⟩ ?_
  refine wInt hU (fun w b _ => rintOf_one w) (fun x1 y1 => ?_)
  refine wRef hU (fun w b _ => rnatOf_two w) (fun x2 => ?_)
  refine wDQ (q := q / 2) (fun w b ⟨h2, h1, h⟩ => by
    have e : q / 2 = q * (1 / 2) := by grind
    rw [e]
    exact dmul_any _ _ q (1 / 2) k 1 w ⟨_, _, _, rfl, h⟩ ⟨_, _, _, rfl, by rw [half_parts.1]; exact h1, ⟨2, h2.1, .inl half_parts.2.symm⟩, by rw [half_parts.2]; exact h2.2⟩ (by omega) (by omega) hk1) (fun a b d => ?_)
  exact wRet fun w b ⟨h, _⟩ => ⟨_, rfl, ⟨_, _, _, rfl, h⟩, b⟩
theorem exp_num {q : Rat} : expOf q = (tzOf q.num.natAbs : Int) - (tzOf q.den : Int) := by unfold expOf; omega
end Go.Proofs.YtkekgmdofgkbcaaGreatDoor

namespace Cin
open Go Go.RowKit
structure RC (A : Rat) (b M0 X Y : Nat) (p : Int) (ex : Bool) : Prop where
  hA : A * (Y : Rat) = (X : Rat) * tp (-p)
  hY : 0 < Y
  h1 : M0 * Y ≤ X
  h2 : X < (M0 + 1) * Y
  h3 : 2 ^ (b - 1) ≤ M0
  h4 : M0 < 2 ^ b
  he : ex = true ↔ M0 * Y = X
theorem sgr_not (neg : Bool) (x : Rat) : sgr (!neg) x = -sgr neg x := by cases neg <;> simp [sgr]
theorem RC.fin {A a d : Rat} {b M0 X Y : Nat} {p : Int} {ex away : Bool} (h : RC A b M0 X Y p ex) (hb : 1 ≤ b) (ha : a = sgr (decide (a.num < 0)) A) (h0 : a.num ≠ 0)
    (hd : (IsDown b a d ∧ away = decide (a.num < 0)) ∨ (IsDown b (-a) (-d) ∧ away = decide (0 < a.num))) : sgr (decide (a.num < 0)) (((if (away && !ex) = true then M0 + 1 else M0 : Nat) : Rat) * tp (-p)) = d := by
  rcases hd with ⟨hd, rfl⟩ | ⟨hd, rfl⟩
  · have := round_down (neg := decide (a.num < 0)) hb h.hA h.hY h.h1 h.h2 h.h3 h.h4 h.he
    rw [← ha] at this
    exact this.unique hd
  · have e : decide (0 < a.num) = !decide (a.num < 0) := by
      by_cases hn : a.num < 0
      · rw [decide_eq_true hn, decide_eq_false (by omega)]; rfl
      · rw [decide_eq_false hn, decide_eq_true (by omega)]; rfl
    rw [e]
    have := round_down (neg := !decide (a.num < 0)) hb h.hA h.hY h.h1 h.h2 h.h3 h.h4 h.he
    rw [sgr_not, sgr_not, ← ha] at this
    have := this.unique hd
    rw [← Rat.neg_neg d, ← this, Rat.neg_neg]
end Cin
namespace Go.Proofs.YtkekgmdofgkbcaaGreatDoor
open Go.RowKit Cin
end Go.Proofs.YtkekgmdofgkbcaaGreatDoor

namespace Go.Proofs.YtkekgmdofgkbcaaGreatDoor
open Go.RowKit Cin
theorem odd_le (q : Rat) : (oddOf q).natAbs ≤ q.num.natAbs := by
  have := Nat.div_le_self q.num.natAbs (2 ^ tzOf q.num.natAbs)
  unfold oddOf
  generalize q.num.natAbs / 2 ^ tzOf q.num.natAbs = t at *
  split <;> omega
theorem DyQ.cut {w : World} {x y : Value} {q : Rat} {k K j : Nat} (h : DyQ w x y q k K) (hn : q.num.natAbs < pw j) (hd : q.den < pw j) : DyQ w x y q j (32 * j) := by
  have t1 := tz_pw hn
  have t2 := tz_pw hd
  refine ⟨⟨h.1.1, Nat.lt_of_le_of_lt (odd_le q) hn⟩, h.2.1, ?_, ?_⟩ <;> rw [exp_num] <;> omega
theorem len_le {s : ByteArray} (h : s.size ≤ maxLen) : s.size ≤ 9223372036854775807 := Nat.le_trans h (by unfold maxLen; omega)
end Go.Proofs.YtkekgmdofgkbcaaGreatDoor

namespace Go.Proofs.YtkekgmdofgkbcaaGreatDoor
open Go.RowKit Cin
def SpQ (w : World) (a b c d a' b' c' d' : Value) (x y : Rat) (k : Nat) : Prop := QB w a b c d x k ∧ QB w a' b' c' d' y k
def SpB (w : World) (v : Value) (x y : Rat) (k : Nat) : Prop := ∃ a b c d a' b' c' d', v = .agg #[a, b, c, d, a', b', c', d'] ∧ SpQ w a b c d a' b' c' d' x y k
def DsQ (w : World) (a b d a' b' d' : Value) (x y : Rat) (k : Nat) : Prop := DQ w a b d x k ∧ DQ w a' b' d' y k
def DsB (w : World) (v : Value) (x y : Rat) (k : Nat) : Prop := ∃ a b d a' b' d', v = .agg #[a, b, d, a', b', d'] ∧ DsQ w a b d a' b' d' x y k
theorem spl {w : World} {a b c d a' b' c' d' : Value} {x y : Rat} {k : Nat} (h : SpQ w a b c d a' b' c' d' x y k) : [a, b, c, d, a', b', c', d'].all Value.oneCell' = true := by
  have p := qpl h.1
  have p' := qpl h.2
  simp only [List.all_cons, List.all_nil, Bool.and_true, Bool.and_eq_true] at p p' ⊢
  exact ⟨p.1, p.2.1, p.2.2.1, p.2.2.2, p'.1, p'.2.1, p'.2.2.1, p'.2.2.2⟩
theorem dspl {w : World} {a b d a' b' d' : Value} {x y : Rat} {k : Nat} (h : DsQ w a b d a' b' d' x y k) : [a, b, d, a', b', d'].all Value.oneCell' = true := by
  have p := dpl h.1
  have p' := dpl h.2
  simp only [List.all_cons, List.all_nil, Bool.and_true, Bool.and_eq_true] at p p' ⊢
  exact ⟨p.1, p.2.1, p.2.2, p'.1, p'.2.1, p'.2.2⟩
theorem mSp {D : TypeId → Bool} (a b c d a' b' c' d' : Value) (x y : Rat) (k : Nat) (hD : D 190 = true := by rfl) : Mono D fun w => SpQ w a b c d a' b' c' d' x y k := (mQ _ _ _ _ _ _ hD).and (mQ _ _ _ _ _ _ hD)
theorem mDs {D : TypeId → Bool} (a b d a' b' d' : Value) (x y : Rat) (k : Nat) (hD : D 190 = true := by rfl) : Mono D fun w => DsQ w a b d a' b' d' x y k := (mD _ _ _ _ _ hD).and (mD _ _ _ _ _ hD)
theorem SpQ.mono {w : World} {a b c d a' b' c' d' : Value} {x y : Rat} {k j : Nat} (h : SpQ w a b c d a' b' c' d' x y k) (hj : k ≤ j) : SpQ w a b c d a' b' c' d' x y j := ⟨h.1.mono hj, h.2.mono hj⟩
section rules
variable {w0 : World} {Post : Ending → World → Prop} {F : World → Prop} {L : LC} {E : Env} {tr : Tr} {f : FuncId} {ar : List V1} {args : Array Value}
theorem wSpV {D Z : TypeId → Bool} {x y : Rat} {m : Nat} {cc : Value}
    (hc : ∀ w, Below w0.heap.size w0 w → F w → Calls Tryz.prog f args w fun e w' => ∃ v, e = .returned (.tuple #[v, cc]) ∧ SpB w' v x y m ∧ Below w.heap.size w w') (hv : cc.oneCell' = true)
    {E' : Value → Value → Value → Value → Value → Value → Value → Value → Env} (hk : ∀ a b c d a' b' c' d', Wk Tryz.prog w0 D Z Post L (fun w => SpQ w a b c d a' b' c' d' x y m ∧ F w) tr (E' a b c d a' b' c' d')) (ha : (ar.map (V1.den [] E)).toArray = args := by rfl)
    (hE : ∀ a b c d a' b' c' d', E ++ [[a, b, c, d, a', b', c', d', cc]] = E' a b c d a' b' c' d' := by intros; (simp only [List.cons_append, List.nil_append]) <;> exact rfl) (hD : D 190 = true := by rfl) : Wk Tryz.prog w0 D Z Post L F (.em (.call f ar [some 8, none]) tr) E := by
  intro hm u hF w e b
  subst ha
  refine (hc w b (hm u.w w e.ext hF)).mono ?_
  rintro e1 w' ⟨v, rfl, ⟨a, b, c, d, a', b', c', d', rfl, h1⟩, h4⟩
  exact ⟨[a, b, c, d, a', b', c', d', cc], rfl, by have p := spl h1; simp only [List.all_cons, List.all_nil, Bool.and_true, Bool.and_eq_true] at p ⊢; exact ⟨p.1, p.2.1, p.2.2.1, p.2.2.2.1, p.2.2.2.2.1, p.2.2.2.2.2.1, p.2.2.2.2.2.2.1, p.2.2.2.2.2.2.2, hv⟩, h4, hE _ _ _ _ _ _ _ _ ▸ hk _ _ _ _ _ _ _ _ ((mSp _ _ _ _ _ _ _ _ _ _ _ hD).and hm) (u.more w w') ⟨h1, hm u.w w' (e.below h4).ext hF⟩⟩
theorem wDsV {D Z : TypeId → Bool} {x y : Rat} {m : Nat} {cc : Value}
    (hc : ∀ w, Below w0.heap.size w0 w → F w → Calls Tryz.prog f args w fun e w' => ∃ v, e = .returned (.tuple #[v, cc]) ∧ DsB w' v x y m ∧ Below w.heap.size w w') (hv : cc.oneCell' = true)
    {E' : Value → Value → Value → Value → Value → Value → Env} (hk : ∀ a b d a' b' d', Wk Tryz.prog w0 D Z Post L (fun w => DsQ w a b d a' b' d' x y m ∧ F w) tr (E' a b d a' b' d')) (ha : (ar.map (V1.den [] E)).toArray = args := by rfl)
    (hE : ∀ a b d a' b' d', E ++ [[a, b, d, a', b', d', cc]] = E' a b d a' b' d' := by intros; (simp only [List.cons_append, List.nil_append]) <;> exact rfl) (hD : D 190 = true := by rfl) : Wk Tryz.prog w0 D Z Post L F (.em (.call f ar [some 6, none]) tr) E := by
  intro hm u hF w e b
  subst ha
  refine (hc w b (hm u.w w e.ext hF)).mono ?_
  rintro e1 w' ⟨v, rfl, ⟨a, b, d, a', b', d', rfl, h1⟩, h4⟩
  exact ⟨[a, b, d, a', b', d', cc], rfl, by have p := dspl h1; simp only [List.all_cons, List.all_nil, Bool.and_true, Bool.and_eq_true] at p ⊢; exact ⟨p.1, p.2.1, p.2.2.1, p.2.2.2.1, p.2.2.2.2.1, p.2.2.2.2.2, hv⟩, h4, hE _ _ _ _ _ _ ▸ hk _ _ _ _ _ _ ((mDs _ _ _ _ _ _ _ _ _ hD).and hm) (u.more w w') ⟨h1, hm u.w w' (e.below h4).ext hF⟩⟩
end rules
theorem v_ge (x y : Rat) : decide (0 ≤ cmpQ x y) = decide (y ≤ x) := by
  unfold cmpQ
  split
  · rw [decide_eq_false (by decide), decide_eq_false (by grind)]
  · split
    · rw [decide_eq_true (by decide), decide_eq_true (by grind)]
    · rw [decide_eq_true (by decide), decide_eq_true (by grind)]
theorem v_gt (x y : Rat) : decide (0 < cmpQ x y) = decide (y < x) := by
  unfold cmpQ
  split
  · rw [decide_eq_false (by decide), decide_eq_false (by grind)]
  · split
    · rw [decide_eq_true (by decide), decide_eq_true (by grind)]
    · rw [decide_eq_false (by decide), decide_eq_false (by grind)]
theorem cT_ge {x y : Rat} (e : decide (0 ≤ cmpQ x y) = true) : y ≤ x := by rw [v_ge] at e; simpa using e
theorem cF_ge {x y : Rat} (e : decide (0 ≤ cmpQ x y) = false) : x < y := by rw [v_ge] at e; have : ¬ y ≤ x := (by simpa using e); grind
theorem cT_gt {x y : Rat} (e : decide (0 < cmpQ x y) = true) : y < x := by rw [v_gt] at e; simpa using e
theorem cF_gt {x y : Rat} (e : decide (0 < cmpQ x y) = false) : x ≤ y := by rw [v_gt] at e; have : ¬ y < x := (by simpa using e); grind
def ZeroS : List Value := [.bool false, .slice none 0 0, .bool false, .slice none 0 0, .bool false, .slice none 0 0, .bool false, .slice none 0 0]
end Go.Proofs.YtkekgmdofgkbcaaGreatDoor

namespace Go.Proofs.YtkekgmdofgkbcaaGreatDoor
open Go.RowKit Cin
theorem mid5_any (v : Value) (x y : Rat) (k : Nat) (w : World) (h : SpB w v x y k) (hk : k ≤ 90000) :
    Calls Tryz.prog 51 #[v] w fun e w' => ∃ v', e = .returned v' ∧ RatB w' v' ((x + y) / 2) (k + k + 1 + 2) ∧ Below w.heap.size w w' := by
  obtain ⟨a, b, c, d, a', b', c', d', rfl, h⟩ := h
  refine go (fun w => SpQ w a b c d a' b' c' d' x y k) [[a, b, c, d, a', b', c', d']] [some 8] (tr := (.em (.call 42 [.g [.c 0 0, .c 0 1, .c 0 2, .c 0 3], .g [.c 0 4, .c 0 5, .c 0 6, .c 0 7]] [some 4]) (.em (.call 90 [.s (.k (.int .i64 2))] [some 4]) (.em (.call 89 [.g [.c 1 0, .c 1 1, .c 1 2, .c 1 3], .g [.c 2 0, .c 2 1, .c 2 2, .c 2 3]] [some 4, none]) (.ret (.v (.g [.c 3 0, .c 3 1, .c 3 2, .c 3 3]))))))) (by kernel_rfl) (by kernel_rfl) (by kernel_rfl) (mSp _ _ _ _ _ _ _ _ _ _ _) h ⟨spl h, trivial⟩ ?_
  refine wRat (fun w b h => qadd_any _ _ x y k k w ⟨_, _, _, _, rfl, h.1⟩ ⟨_, _, _, _, rfl, h.2⟩ (by omega) (by omega)) (fun _ _ _ _ => ?_)
  refine wRat (fun w b _ => qof_any 2 w (by decide) (by decide)) (fun _ _ _ _ => ?_)
  refine wRatV (fun w b ⟨h2, h1, _⟩ => qdiv_any _ _ _ _ _ 2 w ⟨_, _, _, _, rfl, h1⟩ ⟨_, _, _, _, rfl, h2⟩ (by omega) (by decide) (by decide)) rfl (fun _ _ _ _ => ?_)
  exact wRet fun w b ⟨h, _⟩ => ⟨_, rfl, ⟨_, _, _, _, rfl, h⟩, b⟩
theorem width_any (v : Value) (x y : Rat) (k : Nat) (w : World) (h : SpB w v x y k) (hk : k ≤ 90000) :
    Calls Tryz.prog 41 #[v] w fun e w' => ∃ v', e = .returned v' ∧ RatB w' v' (y - x) (k + k + 1) ∧ Below w.heap.size w w' := by
  obtain ⟨a, b, c, d, a', b', c', d', rfl, h⟩ := h
  refine go (fun w => SpQ w a b c d a' b' c' d' x y k) [[a, b, c, d, a', b', c', d']] [some 8] (tr := (.em (.call 75 [.g [.c 0 4, .c 0 5, .c 0 6, .c 0 7], .g [.c 0 0, .c 0 1, .c 0 2, .c 0 3]] [some 4]) (.ret (.v (.g [.c 1 0, .c 1 1, .c 1 2, .c 1 3]))))) (by kernel_rfl) (by kernel_rfl) (by kernel_rfl) (mSp _ _ _ _ _ _ _ _ _ _ _) h ⟨spl h, trivial⟩ ?_
  refine wRat (fun w b h => qsub_any _ _ y x k k w ⟨_, _, _, _, rfl, h.2⟩ ⟨_, _, _, _, rfl, h.1⟩ (by omega) (by omega)) (fun _ _ _ _ => ?_)
  exact wRet fun w b ⟨h, _⟩ => ⟨_, rfl, ⟨_, _, _, _, rfl, h⟩, b⟩
def SpOk (s r : ByteArray) : Prop := RatOk s ∧ RatOk r ∧ ratVal s ≤ ratVal r
theorem sparseY (s r : ByteArray) (w : World) (hs : s.size ≤ 9223372036854775807) (hr : r.size ≤ 9223372036854775807) (h : SpOk s r) :
    Calls Tryz.prog 80 #[.agg #[.string s, .string r]] w fun e w' => ∃ v', e = .returned (.tuple #[v', .int .i64 0]) ∧ SpB w' v' (ratVal s) (ratVal r) 500 ∧ Below w.heap.size w w' := by
  refine go (fun _ => True) [[.string s, .string r]] [some 2] (tr := (.em (.call 64 [.s (.c 0 0)] [some 4, none]) (.em (.pr (.binOp .neq 27 (.tmp 0) (.const (.int .i64 0)) 27) 4 [.s (.c 1 4), .s (.k (.int .i64 0))]) (.cond (.c 2 0) (.ret (.t [.g [.k (.bool false), .k (.slice none 0 0), .k (.bool false), .k (.slice none 0 0), .k (.bool false), .k (.slice none 0 0), .k (.bool false), .k (.slice none 0 0)], .s (.c 1 4)])) (.em (.call 64 [.s (.c 0 1)] [some 4, none]) (.em (.pr (.binOp .neq 27 (.tmp 0) (.const (.int .i64 0)) 27) 4 [.s (.c 3 4), .s (.k (.int .i64 0))]) (.cond (.c 4 0) (.ret (.t [.g [.k (.bool false), .k (.slice none 0 0), .k (.bool false), .k (.slice none 0 0), .k (.bool false), .k (.slice none 0 0), .k (.bool false), .k (.slice none 0 0)], .s (.c 3 4)])) (.em (.call 40 [.g [.c 1 0, .c 1 1, .c 1 2, .c 1 3], .g [.c 3 0, .c 3 1, .c 3 2, .c 3 3]] [none]) (.em (.pr (.binOp .gtr 3 (.tmp 0) (.const (.int .i64 0)) 3) 4 [.s (.c 5 0), .s (.k (.int .i64 0))]) (.cond (.c 6 0) (.ret (.t [.g [.k (.bool false), .k (.slice none 0 0), .k (.bool false), .k (.slice none 0 0), .k (.bool false), .k (.slice none 0 0), .k (.bool false), .k (.slice none 0 0)], .s (.k (.int .i64 1))])) (.ret (.t [.g [.c 1 0, .c 1 1, .c 1 2, .c 1 3, .c 3 0, .c 3 1, .c 3 2, .c 3 3], .s (.k (.int .i64 0))])))))))))))) (by kernel_rfl) (by kernel_rfl) (by kernel_rfl) Mono.true trivial ⟨rfl, trivial⟩ ?_
  refine wRatV (fun w b _ => qparse_ok s w hs h.1) rfl (fun _ _ _ _ => ?_)
  refine wPr (prNe rfl rfl) rfl ?_
  refine wFalse rfl ?_
  refine wRatV (fun w b _ => qparse_ok r w hr h.2.1) rfl (fun _ _ _ _ => ?_)
  refine wPr (prNe rfl rfl) rfl ?_
  refine wFalse rfl ?_
  refine wVal (fun w b ⟨h2, h1, _⟩ => qcmp_any _ _ _ _ 500 500 w ⟨_, _, _, _, rfl, h1⟩ ⟨_, _, _, _, rfl, h2⟩ (by decide) (by decide)) rfl ?_
  refine wPr (prGt rfl rfl) rfl ?_
  refine wFalse (by show Value.bool (decide _) = _; rw [v_gt, decide_eq_false (by have := h.2.2; grind)]) ?_
  exact wRet fun w b ⟨h2, h1, _⟩ => ⟨_, rfl, ⟨_, _, _, _, _, _, _, _, rfl, h1, h2⟩, b⟩
open Classical in
noncomputable def spCode (s r : ByteArray) : Int := if RatOk s ∧ RatOk r then (if ratVal s ≤ ratVal r then 0 else 1) else 2
theorem spCode_no {s r : ByteArray} (h : ¬ SpOk s r) : spCode s r = 1 ∨ spCode s r = 2 := by
  unfold spCode
  split
  · next h1 =>
    rw [if_neg (fun h2 => h ⟨h1.1, h1.2, h2⟩)]; exact .inl rfl
  · exact .inr rfl
def ZeroT : List Value := [.bool false, .slice none 0 0, .slice none 0 0, .bool false, .slice none 0 0, .slice none 0 0]
theorem dsparseY (s r : ByteArray) (w : World) (hs : s.size ≤ 9223372036854775807) (hr : r.size ≤ 9223372036854775807) (h : SpOk s r) :
    Calls Tryz.prog 44 #[.agg #[.string s, .string r]] w fun e w' => ∃ v', e = .returned (.tuple #[v', .int .i64 0]) ∧ DsB w' v' (ratVal s) (ratVal r) 500 ∧ Below w.heap.size w w' := by
  refine go (fun _ => True) [[.string s, .string r]] [some 2] (tr := (.em (.call 63 [.s (.c 0 0)] [some 3, none]) (.em (.call 63 [.s (.c 0 1)] [some 3, none]) (.em (.pr (.unOp .not 4 (.tmp 0)) 4 [.s (.c 1 3)]) (.cond (.c 3 0) (.ret (.t [.g [.k (.bool false), .k (.slice none 0 0), .k (.slice none 0 0), .k (.bool false), .k (.slice none 0 0), .k (.slice none 0 0)], .s (.k (.int .i64 2))])) (.em (.pr (.unOp .not 4 (.tmp 0)) 4 [.s (.c 2 3)]) (.cond (.c 4 0) (.ret (.t [.g [.k (.bool false), .k (.slice none 0 0), .k (.slice none 0 0), .k (.bool false), .k (.slice none 0 0), .k (.slice none 0 0)], .s (.k (.int .i64 2))])) (.em (.call 45 [.g [.c 1 0, .c 1 1, .c 1 2], .g [.c 2 0, .c 2 1, .c 2 2]] [none]) (.em (.pr (.binOp .gtr 3 (.tmp 0) (.const (.int .i64 0)) 3) 4 [.s (.c 5 0), .s (.k (.int .i64 0))]) (.cond (.c 6 0) (.ret (.t [.g [.k (.bool false), .k (.slice none 0 0), .k (.slice none 0 0), .k (.bool false), .k (.slice none 0 0), .k (.slice none 0 0)], .s (.k (.int .i64 1))])) (.ret (.t [.g [.c 1 0, .c 1 1, .c 1 2, .c 2 0, .c 2 1, .c 2 2], .s (.k (.int .i64 0))])))))))))))) (by kernel_rfl) (by kernel_rfl) (by kernel_rfl) Mono.true trivial ⟨rfl, trivial⟩ ?_
  refine wDQV (fun w b _ => dparseY s w hs h.1) rfl (fun _ _ _ => ?_)
  refine wDQV (fun w b _ => dparseY r w hr h.2.1) rfl (fun _ _ _ => ?_)
  refine wPr (prNot rfl) rfl ?_
  refine wFalse rfl ?_
  refine wPr (prNot rfl) rfl ?_
  refine wFalse rfl ?_
  refine wVal (fun w b ⟨h2, h1, _⟩ => dcmp_any _ _ _ _ 500 500 w ⟨_, _, _, rfl, h1⟩ ⟨_, _, _, rfl, h2⟩ (by decide) (by decide)) rfl ?_
  refine wPr (prGt rfl rfl) rfl ?_
  refine wFalse (by show Value.bool (decide _) = _; rw [v_gt, decide_eq_false (by have := h.2.2; grind)]) ?_
  exact wRet fun w b ⟨h2, h1, _⟩ => ⟨_, rfl, ⟨_, _, _, _, _, _, rfl, h1, h2⟩, b⟩
theorem wNo {w0 : World} {Post : Ending → World → Prop} {F : World → Prop} {L : LC} {E : Env} {tr : Tr} {ar : List V1} {D Z : TypeId → Bool} (s : ByteArray) (hs : s.size ≤ 9223372036854775807) (h : ¬ RatOk s)
    {E' : Value → Value → Value → Env} (hk : ∀ a b d, Wk Tryz.prog w0 D Z Post L F tr (E' a b d)) (ha : (ar.map (V1.den [] E)).toArray = #[.string s] := by rfl)
    (hE : ∀ a b d, E ++ [[a, b, d, .bool false]] = E' a b d := by intros; (simp only [List.cons_append, List.nil_append]) <;> exact rfl) : Wk Tryz.prog w0 D Z Post L F (.em (.call 63 ar [some 3, none]) tr) E := by
  intro hm u hF w e b
  rw [ha]
  refine (dparse_any s w hs).mono ?_
  rintro e1 w' (⟨h', _⟩ | ⟨_, a, b, d, rfl, hp, hb⟩)
  · exact absurd h' h
  · simp only [List.all_cons, List.all_nil, Bool.and_true, Bool.and_eq_true] at hp
    exact ⟨[a, b, d, .bool false], rfl, by simp only [List.all_cons, List.all_nil, Bool.and_true, Bool.and_eq_true]; exact ⟨hp.1, hp.2.1, hp.2.2, rfl⟩, hb, hE _ _ _ ▸ hk _ _ _ hm (u.more w w') (hm u.w w' (e.below hb).ext hF)⟩
theorem dsparseN (s r : ByteArray) (w : World) (hs : s.size ≤ 9223372036854775807) (hr : r.size ≤ 9223372036854775807) (h : ¬ SpOk s r) :
    Calls Tryz.prog 44 #[.agg #[.string s, .string r]] w fun e w' => e = .returned (.tuple #[.agg ZeroT.toArray, .int .i64 (spCode s r)]) ∧ Below w.heap.size w w' := by
  refine go (fun _ => True) [[.string s, .string r]] [some 2] (tr := (.em (.call 63 [.s (.c 0 0)] [some 3, none]) (.em (.call 63 [.s (.c 0 1)] [some 3, none]) (.em (.pr (.unOp .not 4 (.tmp 0)) 4 [.s (.c 1 3)]) (.cond (.c 3 0) (.ret (.t [.g [.k (.bool false), .k (.slice none 0 0), .k (.slice none 0 0), .k (.bool false), .k (.slice none 0 0), .k (.slice none 0 0)], .s (.k (.int .i64 2))])) (.em (.pr (.unOp .not 4 (.tmp 0)) 4 [.s (.c 2 3)]) (.cond (.c 4 0) (.ret (.t [.g [.k (.bool false), .k (.slice none 0 0), .k (.slice none 0 0), .k (.bool false), .k (.slice none 0 0), .k (.slice none 0 0)], .s (.k (.int .i64 2))])) (.em (.call 45 [.g [.c 1 0, .c 1 1, .c 1 2], .g [.c 2 0, .c 2 1, .c 2 2]] [none]) (.em (.pr (.binOp .gtr 3 (.tmp 0) (.const (.int .i64 0)) 3) 4 [.s (.c 5 0), .s (.k (.int .i64 0))]) (.cond (.c 6 0) (.ret (.t [.g [.k (.bool false), .k (.slice none 0 0), .k (.slice none 0 0), .k (.bool false), .k (.slice none 0 0), .k (.slice none 0 0)], .s (.k (.int .i64 1))])) (.ret (.t [.g [.c 1 0, .c 1 1, .c 1 2, .c 2 0, .c 2 1, .c 2 2], .s (.k (.int .i64 0))])))))))))))) (by kernel_rfl) (by kernel_rfl) (by kernel_rfl) Mono.true trivial ⟨rfl, trivial⟩ ?_
  unfold spCode
  by_cases h1 : RatOk s
  · refine wDQV (fun w b _ => dparseY s w hs h1) rfl (fun _ _ _ => ?_)
    by_cases h2 : RatOk r
    · refine wDQV (fun w b _ => dparseY r w hr h2) rfl (fun _ _ _ => ?_)
      refine wPr (prNot rfl) rfl ?_
      refine wFalse rfl ?_
      refine wPr (prNot rfl) rfl ?_
      refine wFalse rfl ?_
      refine wVal (fun w b ⟨h2, h1, _⟩ => dcmp_any _ _ _ _ 500 500 w ⟨_, _, _, rfl, h1⟩ ⟨_, _, _, rfl, h2⟩ (by decide) (by decide)) rfl ?_
      refine wPr (prGt rfl rfl) rfl ?_
      have h3 : ¬ ratVal s ≤ ratVal r := fun h3 => h ⟨h1, h2, h3⟩
      refine wTrue (by show Value.bool (decide _) = _; rw [v_gt, decide_eq_true (by grind)]) ?_
      exact wRet fun w b _ => ⟨by rw [if_pos ⟨h1, h2⟩, if_neg h3]; rfl, b⟩
    · refine wNo r hr h2 (fun _ _ _ => ?_)
      refine wPr (prNot rfl) rfl ?_
      refine wFalse rfl ?_
      refine wPr (prNot rfl) rfl ?_
      refine wTrue rfl ?_
      exact wRet fun w b _ => ⟨by rw [if_neg (fun h => h2 h.2)]; rfl, b⟩
  · refine wNo s hs h1 (fun _ _ _ => ?_)
    by_cases h2 : RatOk r
    · refine wDQV (fun w b _ => dparseY r w hr h2) rfl (fun _ _ _ => ?_)
      refine wPr (prNot rfl) rfl ?_
      refine wTrue rfl ?_
      exact wRet fun w b _ => ⟨by rw [if_neg (fun h => h1 h.1)]; rfl, b⟩
    · refine wNo r hr h2 (fun _ _ _ => ?_)
      refine wPr (prNot rfl) rfl ?_
      refine wTrue rfl ?_
      exact wRet fun w b _ => ⟨by rw [if_neg (fun h => h1 h.1)]; rfl, b⟩
theorem is5_any (v u : Value) (x y : Rat) (k j : Nat) (w : World) (h : SpB w v x y k) (h' : DsB w u x y j) (hk : k ≤ 200000) (hj : j ≤ 200000) (hT : TabsP w) :
    Calls Tryz.prog 47 #[v, u] w fun e w' => e = .returned (.bool true) ∧ Below w.heap.size w w' := by
  obtain ⟨a, b, c, d, a', b', c', d', rfl, h⟩ := h
  obtain ⟨p, q, r, p', q', r', rfl, h'⟩ := h'
  refine go (fun w => SpQ w a b c d a' b' c' d' x y k ∧ DsQ w p q r p' q' r' x y j) [[a, b, c, d, a', b', c', d'], [p, q, r, p', q', r']] [some 8, some 6] (tr := (.em (.call 23 [.g [.c 0 0, .c 0 1, .c 0 2, .c 0 3], .g [.c 1 0, .c 1 1, .c 1 2]] [none]) (.cond (.c 2 0) (.em (.call 23 [.g [.c 0 4, .c 0 5, .c 0 6, .c 0 7], .g [.c 1 3, .c 1 4, .c 1 5]] [none]) (.ret (.v (.s (.c 3 0))))) (.ret (.v (.s (.k (.bool false)))))))) (by kernel_rfl) (by kernel_rfl) (by kernel_rfl) ((mSp _ _ _ _ _ _ _ _ _ _ _).and (mDs _ _ _ _ _ _ _ _ _)) ⟨h, h'⟩ ⟨spl h, dspl h', trivial⟩ ?_
  refine wVal (fun w b ⟨h, h'⟩ => is_any _ _ x k j w ⟨_, _, _, _, rfl, h.1⟩ ⟨_, _, _, rfl, h'.1⟩ hk hj (hT.below b)) rfl ?_
  refine wTrue rfl ?_
  refine wVal (fun w b ⟨h, h'⟩ => is_any _ _ y k j w ⟨_, _, _, _, rfl, h.2⟩ ⟨_, _, _, rfl, h'.2⟩ hk hj (hT.below b)) rfl ?_
  exact wRet fun w b _ => ⟨rfl, b⟩
def OfOk (s r : ByteArray) : Prop := SpOk s r ∧ s.size ≤ 60 ∧ r.size ≤ 60
theorem ofOk_lt {s r : ByteArray} (h : OfOk s r) : (ratVal s).num.natAbs < pw 21 ∧ (ratVal s).den < pw 21 ∧ (ratVal r).num.natAbs < pw 21 ∧ (ratVal r).den < pw 21 := by
  obtain ⟨h1, h2⟩ := numQ_lt (s := s) ⟨h.1.1, by have := h.2.1; omega⟩
  obtain ⟨h3, h4⟩ := numQ_lt (s := r) ⟨h.1.2.1, by have := h.2.2; omega⟩
  exact ⟨h1, h2, h3, h4⟩
theorem ofY (s r : ByteArray) (w : World) (hs : s.size ≤ 9223372036854775807) (hr : r.size ≤ 9223372036854775807) (h : OfOk s r) :
    Calls Tryz.prog 49 #[.agg #[.string s, .string r]] w fun e w' => ∃ v u, e = .returned (.tuple #[v, u, .bool true]) ∧ SpB w' v (ratVal s) (ratVal r) 21 ∧ DsB w' u (ratVal s) (ratVal r) 21 ∧ Below w.heap.size w w' := by
  obtain ⟨l1, l2, l3, l4⟩ := ofOk_lt h
  have z1 := h.2.1
  have z2 := h.2.2
  refine go (fun _ => True) [[.string s, .string r]] [some 2] (tr := (.em (.call 44 [.g [.c 0 0, .c 0 1]] [some 6, none]) (.em (.pr (.binOp .neq 27 (.tmp 0) (.const (.int .i64 0)) 27) 4 [.s (.c 1 6), .s (.k (.int .i64 0))]) (.cond (.c 2 0) (.ret (.t [.g [.k (.bool false), .k (.slice none 0 0), .k (.bool false), .k (.slice none 0 0), .k (.bool false), .k (.slice none 0 0), .k (.bool false), .k (.slice none 0 0)], .g [.k (.bool false), .k (.slice none 0 0), .k (.slice none 0 0), .k (.bool false), .k (.slice none 0 0), .k (.slice none 0 0)], .s (.k (.bool false))])) (.em (.pr (.call (.mk (.builtin .len) #[.tmp 0] #[9])) 3 [.s (.c 0 0)]) (.em (.pr (.binOp .gtr 3 (.tmp 0) (.const (.int .i64 60)) 3) 4 [.s (.c 3 0), .s (.k (.int .i64 60))]) (.cond (.c 4 0) (.ret (.t [.g [.k (.bool false), .k (.slice none 0 0), .k (.bool false), .k (.slice none 0 0), .k (.bool false), .k (.slice none 0 0), .k (.bool false), .k (.slice none 0 0)], .g [.k (.bool false), .k (.slice none 0 0), .k (.slice none 0 0), .k (.bool false), .k (.slice none 0 0), .k (.slice none 0 0)], .s (.k (.bool false))])) (.em (.pr (.call (.mk (.builtin .len) #[.tmp 0] #[9])) 3 [.s (.c 0 1)]) (.em (.pr (.binOp .gtr 3 (.tmp 0) (.const (.int .i64 60)) 3) 4 [.s (.c 5 0), .s (.k (.int .i64 60))]) (.cond (.c 6 0) (.ret (.t [.g [.k (.bool false), .k (.slice none 0 0), .k (.bool false), .k (.slice none 0 0), .k (.bool false), .k (.slice none 0 0), .k (.bool false), .k (.slice none 0 0)], .g [.k (.bool false), .k (.slice none 0 0), .k (.slice none 0 0), .k (.bool false), .k (.slice none 0 0), .k (.slice none 0 0)], .s (.k (.bool false))])) (.em (.call 80 [.g [.c 0 0, .c 0 1]] [some 8, none]) (.ret (.t [.g [.c 7 0, .c 7 1, .c 7 2, .c 7 3, .c 7 4, .c 7 5, .c 7 6, .c 7 7], .g [.c 1 0, .c 1 1, .c 1 2, .c 1 3, .c 1 4, .c 1 5], .s (.k (.bool true))]))))))))))))) (by kernel_rfl) (by kernel_rfl) (by kernel_rfl) Mono.true trivial ⟨rfl, trivial⟩ ?_
  refine wDsV (fun w b _ => dsparseY s r w hs hr h.1) rfl (fun _ _ _ _ _ _ => ?_)
  refine wPr (prNe rfl rfl) rfl ?_
  refine wFalse rfl ?_
  refine wPr (prLenS hStrT rfl) rfl ?_
  refine wPr (prGt rfl rfl) rfl ?_
  refine wFalse (by show Value.bool (decide _) = _; rw [decide_eq_false (by omega)]) ?_
  refine wPr (prLenS hStrT rfl) rfl ?_
  refine wPr (prGt rfl rfl) rfl ?_
  refine wFalse (by show Value.bool (decide _) = _; rw [decide_eq_false (by omega)]) ?_
  refine wSpV (fun w b _ => sparseY s r w hs hr h.1) rfl (fun _ _ _ _ _ _ _ _ => ?_)
  exact wRet fun w b ⟨h1, h2, _⟩ => ⟨_, _, rfl, ⟨_, _, _, _, _, _, _, _, rfl, h1.1.cut l1 l2, h1.2.cut l3 l4⟩, ⟨_, _, _, _, _, _, rfl, h2.1.cut l1 l2, h2.2.cut l3 l4⟩, b⟩
theorem ofN (s r : ByteArray) (w : World) (hs : s.size ≤ 9223372036854775807) (hr : r.size ≤ 9223372036854775807) (h : ¬ OfOk s r) :
    Calls Tryz.prog 49 #[.agg #[.string s, .string r]] w fun e w' => e = .returned (.tuple #[.agg ZeroS.toArray, .agg ZeroT.toArray, .bool false]) ∧ Below w.heap.size w w' := by
  refine go (fun _ => True) [[.string s, .string r]] [some 2] (tr := (.em (.call 44 [.g [.c 0 0, .c 0 1]] [some 6, none]) (.em (.pr (.binOp .neq 27 (.tmp 0) (.const (.int .i64 0)) 27) 4 [.s (.c 1 6), .s (.k (.int .i64 0))]) (.cond (.c 2 0) (.ret (.t [.g [.k (.bool false), .k (.slice none 0 0), .k (.bool false), .k (.slice none 0 0), .k (.bool false), .k (.slice none 0 0), .k (.bool false), .k (.slice none 0 0)], .g [.k (.bool false), .k (.slice none 0 0), .k (.slice none 0 0), .k (.bool false), .k (.slice none 0 0), .k (.slice none 0 0)], .s (.k (.bool false))])) (.em (.pr (.call (.mk (.builtin .len) #[.tmp 0] #[9])) 3 [.s (.c 0 0)]) (.em (.pr (.binOp .gtr 3 (.tmp 0) (.const (.int .i64 60)) 3) 4 [.s (.c 3 0), .s (.k (.int .i64 60))]) (.cond (.c 4 0) (.ret (.t [.g [.k (.bool false), .k (.slice none 0 0), .k (.bool false), .k (.slice none 0 0), .k (.bool false), .k (.slice none 0 0), .k (.bool false), .k (.slice none 0 0)], .g [.k (.bool false), .k (.slice none 0 0), .k (.slice none 0 0), .k (.bool false), .k (.slice none 0 0), .k (.slice none 0 0)], .s (.k (.bool false))])) (.em (.pr (.call (.mk (.builtin .len) #[.tmp 0] #[9])) 3 [.s (.c 0 1)]) (.em (.pr (.binOp .gtr 3 (.tmp 0) (.const (.int .i64 60)) 3) 4 [.s (.c 5 0), .s (.k (.int .i64 60))]) (.cond (.c 6 0) (.ret (.t [.g [.k (.bool false), .k (.slice none 0 0), .k (.bool false), .k (.slice none 0 0), .k (.bool false), .k (.slice none 0 0), .k (.bool false), .k (.slice none 0 0)], .g [.k (.bool false), .k (.slice none 0 0), .k (.slice none 0 0), .k (.bool false), .k (.slice none 0 0), .k (.slice none 0 0)], .s (.k (.bool false))])) (.em (.call 80 [.g [.c 0 0, .c 0 1]] [some 8, none]) (.ret (.t [.g [.c 7 0, .c 7 1, .c 7 2, .c 7 3, .c 7 4, .c 7 5, .c 7 6, .c 7 7], .g [.c 1 0, .c 1 1, .c 1 2, .c 1 3, .c 1 4, .c 1 5], .s (.k (.bool true))]))))))))))))) (by kernel_rfl) (by kernel_rfl) (by kernel_rfl) Mono.true trivial ⟨rfl, trivial⟩ ?_
  by_cases h1 : SpOk s r
  · refine wDsV (fun w b _ => dsparseY s r w hs hr h1) rfl (fun _ _ _ _ _ _ => ?_)
    refine wPr (prNe rfl rfl) rfl ?_
    refine wFalse rfl ?_
    refine wPr (prLenS hStrT rfl) rfl ?_
    refine wPr (prGt rfl rfl) rfl ?_
    refine wIf _ rfl (fun e => ?_) (fun e => ?_)
    · exact wRet fun w b _ => ⟨rfl, b⟩
    have z1 : ¬ (60 : Int) < (s.size : Int) := by simpa using e
    refine wPr (prLenS hStrT rfl) rfl ?_
    refine wPr (prGt rfl rfl) rfl ?_
    refine wTrue (by show Value.bool (decide _) = _; rw [decide_eq_true]; have : ¬ r.size ≤ 60 := fun z2 => h ⟨h1, by omega, z2⟩; omega) ?_
    exact wRet fun w b _ => ⟨rfl, b⟩
  · refine wKnown (ZeroT ++ [.int .i64 (spCode s r)]) (fun w b _ => dsparseN s r w hs hr h1) rfl rfl ?_ (hE := rfl)
    refine wPr (prNe rfl rfl) rfl ?_
    refine wTrue (by show Value.bool (spCode s r != 0) = _; rcases spCode_no h1 with e | e <;> rw [e] <;> rfl) ?_
    exact wRet fun w b _ => ⟨rfl, b⟩
section prims
variable {P : Program} {t t2 ty : TypeId} {vs : List Value} {p q : Operand} {x y : Int}
end prims
end Go.Proofs.YtkekgmdofgkbcaaGreatDoor
