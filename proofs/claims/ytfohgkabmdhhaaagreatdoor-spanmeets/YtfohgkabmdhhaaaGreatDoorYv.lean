/- The document's sums and products of quotients; the law RatAdds. -/
import Derived.Test.YtfohgkabmdhhaaaGreatDoorYu
import Derived.Test.YtfohgkabmdhhaaaGreatDoorYg
import Derived.Test.YtfohgkabmdhhaaaGreatDoorYh
import Derived.Test.YtfohgkabmdhhaaaGreatDoorYk
import Derived.Test.YtfohgkabmdhhaaaGreatDoorYp
namespace Go.Proofs.YtfohgkabmdhhaaaGreatDoor
open Go.RowKit Cin

theorem maxLen_le' : maxLen ≤ 9223372036854775807 := by unfold maxLen; omega
theorem addQ_mk (x y : Rat) : nq (x.num * (y.den : Int) + y.num * (x.den : Int)) ((x.den * y.den : Nat) : Int) = x + y := by
  rw [nq_div, Int.natCast_mul, Rat.intCast_add, Rat.intCast_mul, Rat.intCast_mul, Rat.intCast_mul]
  have h1 := num_den x
  have h2 := num_den y
  have h3 := den_ne x
  have h4 := den_ne y
  generalize (x.num : Rat) = a at *
  generalize ((x.den : Int) : Rat) = b at *
  generalize (y.num : Rat) = c at *
  generalize ((y.den : Int) : Rat) = d at *
  subst h1 h2
  grind
theorem mulQ_mk (x y : Rat) : nq (x.num * y.num) ((x.den * y.den : Nat) : Int) = x * y := by
  rw [nq_div, Int.natCast_mul, Rat.intCast_mul, Rat.intCast_mul]
  have h1 := num_den x
  have h2 := num_den y
  have h3 := den_ne x
  have h4 := den_ne y
  generalize (x.num : Rat) = a at *
  generalize ((x.den : Int) : Rat) = b at *
  generalize (y.num : Rat) = c at *
  generalize ((y.den : Int) : Rat) = d at *
  subst h1 h2
  grind

/-- RatNeg: with its sign turned. -/
theorem dneg_any (v : Value) (q : Rat) (k : Nat) (w : World) (h : DRatB w v q k) :
    Calls Tryz.prog 93 #[v] w fun e w' => ∃ v', e = .returned v' ∧ DRatB w' v' (-q) k ∧ Below w.heap.size w w' := by
  obtain ⟨a, b, d, rfl, h⟩ := h
  refine go (fun w => DQ w a b d q k) [[a, b, d]] [some 3] (tr := (.em (.call 132 [.g [.c 0 0, .c 0 1]] [some 2]) (.em (.call 70 [.g [.c 0 0, .c 0 1, .c 0 2]] [none]) (.ret (.v (.g [.c 1 0, .c 1 1, .c 2 0])))))) (by kernel_rfl) (by kernel_rfl) (by kernel_rfl) (mD _ _ _ _ _) h ⟨dpl h, trivial⟩ ?_
  refine wInt hU (fun w b h => rneg_any _ q.num k w h.1) (fun x1 y1 => ?_)
  refine wRef hU (fun w b ⟨_, h⟩ => dden_any _ q k w ⟨_, _, _, rfl, h⟩) (fun x2 => ?_)
  refine wRet fun w b ⟨h2, h1, _⟩ => ⟨_, rfl, ⟨_, _, _, rfl, ?_, ⟨_, h2.1, .inl ?_⟩, ?_⟩, b⟩
  · rw [Rat.neg_num]; exact h1
  · rw [Rat.neg_den]
  · rw [Rat.neg_den]; exact h2.2

set_option maxHeartbeats 1000000 in
/-- RatAdd: both together. -/
theorem dadd_any (v u : Value) (x y : Rat) (k j : Nat) (w : World) (h : DRatB w v x k) (h' : DRatB w u y j) (hk : k ≤ 1000) (hj : j ≤ 1000) :
    Calls Tryz.prog 72 #[v, u] w fun e w' => ∃ v', e = .returned v' ∧ DRatB w' v' (x + y) (k + j + (j + k) + 1) ∧ Below w.heap.size w w' := by
  obtain ⟨a, b, d, rfl, h⟩ := h
  obtain ⟨a', b', d', rfl, h'⟩ := h'
  have hxp := x.den_pos
  have hyp := y.den_pos
  refine go (fun w => DQ w a b d x k ∧ DQ w a' b' d' y j) [[a, b, d], [a', b', d']] [some 3, some 3] (tr := (.em (.call 70 [.g [.c 1 0, .c 1 1, .c 1 2]] [none]) (.em (.call 69 [.s (.c 2 0)] [some 2]) (.em (.call 68 [.g [.c 0 0, .c 0 1], .g [.c 3 0, .c 3 1]] [some 2]) (.em (.call 70 [.g [.c 0 0, .c 0 1, .c 0 2]] [none]) (.em (.call 69 [.s (.c 5 0)] [some 2]) (.em (.call 68 [.g [.c 1 0, .c 1 1], .g [.c 6 0, .c 6 1]] [some 2]) (.em (.call 118 [.g [.c 4 0, .c 4 1], .g [.c 7 0, .c 7 1]] [some 2]) (.em (.call 70 [.g [.c 0 0, .c 0 1, .c 0 2]] [none]) (.em (.call 70 [.g [.c 1 0, .c 1 1, .c 1 2]] [none]) (.em (.call 115 [.s (.c 9 0), .s (.c 10 0)] [none]) (.em (.call 69 [.s (.c 11 0)] [some 2]) (.em (.call 117 [.g [.c 8 0, .c 8 1], .g [.c 12 0, .c 12 1]] [some 3]) (.ret (.v (.g [.c 13 0, .c 13 1, .c 13 2])))))))))))))))) (by kernel_rfl) (by kernel_rfl) (by kernel_rfl) ((mD _ _ _ _ _).and (mD _ _ _ _ _)) ⟨h, h'⟩ ⟨dpl h, dpl h', trivial⟩ ?_
  refine wRef hU (fun w b ⟨_, h'⟩ => dden_any _ y j w ⟨_, _, _, rfl, h'⟩) (fun x1 => ?_)
  refine wInt hU (fun w b ⟨h1, _⟩ => pos_any _ _ j w h1) (fun x2 y2 => ?_)
  refine wInt hU (fun w b ⟨h2, _, h, _⟩ => rimul_any _ _ _ _ k j w h.1 h2 (by omega) (by omega)) (fun x3 y3 => ?_)
  refine wRef hU (fun w b ⟨_, _, _, h, _⟩ => dden_any _ x k w ⟨_, _, _, rfl, h⟩) (fun x4 => ?_)
  refine wInt hU (fun w b ⟨h4, _⟩ => pos_any _ _ k w h4) (fun x5 y5 => ?_)
  refine wInt hU (fun w b ⟨h5, _, _, _, _, _, h'⟩ => rimul_any _ _ _ _ j k w h'.1 h5 (by omega) (by omega)) (fun x6 y6 => ?_)
  refine wInt hU (fun w b ⟨h6, _, _, h3, _⟩ => riadd_any _ _ _ _ (k + j) (j + k) w h3 h6 (by omega) (by omega)) (fun x7 y7 => ?_)
  refine wRef hU (fun w b ⟨_, _, _, _, _, _, _, h, _⟩ => dden_any _ x k w ⟨_, _, _, rfl, h⟩) (fun x8 => ?_)
  refine wRef hU (fun w b ⟨_, _, _, _, _, _, _, _, _, h'⟩ => dden_any _ y j w ⟨_, _, _, rfl, h'⟩) (fun x9 => ?_)
  refine wRef hU (fun w b ⟨h9, h8, _⟩ => rmulB _ _ x.den y.den k j w h8 h9 (by omega) (by omega)) (fun x10 => ?_)
  refine wInt hU (fun w b ⟨h10, _⟩ => pos_any _ _ (k + j) w h10) (fun x11 y11 => ?_)
  refine wDQ (q := x + y) (fun w b ⟨h11, _, _, _, h7, _⟩ => by
    rw [← addQ_mk x y]
    exact dnew_any _ _ _ _ (k + j + (j + k) + 1) w h7 (h11.mono (by omega)) (by omega) (by omega) (by have := Nat.mul_pos hxp hyp; omega)) (fun a b d => ?_)
  exact wRet fun w b ⟨h, _⟩ => ⟨_, rfl, ⟨_, _, _, rfl, h⟩, b⟩

/-- RatSub: the one less the other. -/
theorem dsub_any (v u : Value) (x y : Rat) (k j : Nat) (w : World) (h : DRatB w v x k) (h' : DRatB w u y j) (hk : k ≤ 1000) (hj : j ≤ 1000) :
    Calls Tryz.prog 73 #[v, u] w fun e w' => ∃ v', e = .returned v' ∧ DRatB w' v' (x - y) (k + j + (j + k) + 1) ∧ Below w.heap.size w w' := by
  obtain ⟨a, b, d, rfl, h⟩ := h
  obtain ⟨a', b', d', rfl, h'⟩ := h'
  refine go (fun w => DQ w a b d x k ∧ DQ w a' b' d' y j) [[a, b, d], [a', b', d']] [some 3, some 3] (tr := (.em (.call 93 [.g [.c 1 0, .c 1 1, .c 1 2]] [some 3]) (.em (.call 72 [.g [.c 0 0, .c 0 1, .c 0 2], .g [.c 2 0, .c 2 1, .c 2 2]] [some 3]) (.ret (.v (.g [.c 3 0, .c 3 1, .c 3 2])))))) (by kernel_rfl) (by kernel_rfl) (by kernel_rfl) ((mD _ _ _ _ _).and (mD _ _ _ _ _)) ⟨h, h'⟩ ⟨dpl h, dpl h', trivial⟩ ?_
  refine wDQ (fun w b ⟨_, h'⟩ => dneg_any _ y j w ⟨_, _, _, rfl, h'⟩) (fun a1 b1 d1 => ?_)
  refine wDQ (q := x - y) (fun w b ⟨h1, h, _⟩ => by
    rw [Rat.sub_eq_add_neg]
    exact dadd_any _ _ x (-y) k j w ⟨_, _, _, rfl, h⟩ ⟨_, _, _, rfl, h1⟩ hk hj) (fun a b d => ?_)
  exact wRet fun w b ⟨h, _⟩ => ⟨_, rfl, ⟨_, _, _, rfl, h⟩, b⟩

/-- RatMul: the one times the other. -/
theorem dmul_any (v u : Value) (x y : Rat) (k j : Nat) (w : World) (h : DRatB w v x k) (h' : DRatB w u y j) (hk : k ≤ 3000) (hj : j ≤ 3000) (hk1 : 1 ≤ k) :
    Calls Tryz.prog 78 #[v, u] w fun e w' => ∃ v', e = .returned v' ∧ DRatB w' v' (x * y) (k + j) ∧ Below w.heap.size w w' := by
  obtain ⟨a, b, d, rfl, h⟩ := h
  obtain ⟨a', b', d', rfl, h'⟩ := h'
  have hxp := x.den_pos
  have hyp := y.den_pos
  refine go (fun w => DQ w a b d x k ∧ DQ w a' b' d' y j) [[a, b, d], [a', b', d']] [some 3, some 3] (tr := (.em (.call 68 [.g [.c 0 0, .c 0 1], .g [.c 1 0, .c 1 1]] [some 2]) (.em (.call 70 [.g [.c 0 0, .c 0 1, .c 0 2]] [none]) (.em (.call 70 [.g [.c 1 0, .c 1 1, .c 1 2]] [none]) (.em (.call 115 [.s (.c 3 0), .s (.c 4 0)] [none]) (.em (.call 69 [.s (.c 5 0)] [some 2]) (.em (.call 117 [.g [.c 2 0, .c 2 1], .g [.c 6 0, .c 6 1]] [some 3]) (.ret (.v (.g [.c 7 0, .c 7 1, .c 7 2])))))))))) (by kernel_rfl) (by kernel_rfl) (by kernel_rfl) ((mD _ _ _ _ _).and (mD _ _ _ _ _)) ⟨h, h'⟩ ⟨dpl h, dpl h', trivial⟩ ?_
  refine wInt hU (fun w b ⟨h, h'⟩ => rimul_any _ _ _ _ k j w h.1 h'.1 (by omega) (by omega)) (fun x1 y1 => ?_)
  refine wRef hU (fun w b ⟨_, h, _⟩ => dden_any _ x k w ⟨_, _, _, rfl, h⟩) (fun x2 => ?_)
  refine wRef hU (fun w b ⟨_, _, _, h'⟩ => dden_any _ y j w ⟨_, _, _, rfl, h'⟩) (fun x3 => ?_)
  refine wRef hU (fun w b ⟨h3, h2, _⟩ => rmulB _ _ x.den y.den k j w h2 h3 (by omega) (by omega)) (fun x4 => ?_)
  refine wInt hU (fun w b ⟨h4, _⟩ => pos_any _ _ (k + j) w h4) (fun x5 y5 => ?_)
  refine wDQ (q := x * y) (fun w b ⟨h5, _, _, _, h1, _⟩ => by
    rw [← mulQ_mk x y]
    exact dnew_any _ _ _ _ (k + j) w h1 h5 (by omega) (by omega) (by have := Nat.mul_pos hxp hyp; omega)) (fun a b d => ?_)
  exact wRet fun w b ⟨h, _⟩ => ⟨_, rfl, ⟨_, _, _, rfl, h⟩, b⟩

/-- RatCmp: which one is greater. -/
theorem dcmp_any (v u : Value) (x y : Rat) (k j : Nat) (w : World) (h : DRatB w v x k) (h' : DRatB w u y j) (hk : k ≤ 3000) (hj : j ≤ 3000) :
    Calls Tryz.prog 17 #[v, u] w fun e w' => e = .returned (.int .i64 (cmpQ x y)) ∧ Below w.heap.size w w' := by
  obtain ⟨a, b, d, rfl, h⟩ := h
  obtain ⟨a', b', d', rfl, h'⟩ := h'
  refine go (fun w => DQ w a b d x k ∧ DQ w a' b' d' y j) [[a, b, d], [a', b', d']] [some 3, some 3] (tr := (.em (.call 70 [.g [.c 1 0, .c 1 1, .c 1 2]] [none]) (.em (.call 69 [.s (.c 2 0)] [some 2]) (.em (.call 68 [.g [.c 0 0, .c 0 1], .g [.c 3 0, .c 3 1]] [some 2]) (.em (.call 70 [.g [.c 0 0, .c 0 1, .c 0 2]] [none]) (.em (.call 69 [.s (.c 5 0)] [some 2]) (.em (.call 68 [.g [.c 1 0, .c 1 1], .g [.c 6 0, .c 6 1]] [some 2]) (.em (.call 67 [.g [.c 4 0, .c 4 1], .g [.c 7 0, .c 7 1]] [none]) (.ret (.v (.s (.c 8 0)))))))))))) (by kernel_rfl) (by kernel_rfl) (by kernel_rfl) ((mD _ _ _ _ _).and (mD _ _ _ _ _)) ⟨h, h'⟩ ⟨dpl h, dpl h', trivial⟩ ?_
  refine wRef hU (fun w b ⟨_, h'⟩ => dden_any _ y j w ⟨_, _, _, rfl, h'⟩) (fun x1 => ?_)
  refine wInt hU (fun w b ⟨h1, _⟩ => pos_any _ _ j w h1) (fun x2 y2 => ?_)
  refine wInt hU (fun w b ⟨h2, _, h, _⟩ => rimul_any _ _ _ _ k j w h.1 h2 (by omega) (by omega)) (fun x3 y3 => ?_)
  refine wRef hU (fun w b ⟨_, _, _, h, _⟩ => dden_any _ x k w ⟨_, _, _, rfl, h⟩) (fun x4 => ?_)
  refine wInt hU (fun w b ⟨h4, _⟩ => pos_any _ _ k w h4) (fun x5 y5 => ?_)
  refine wInt hU (fun w b ⟨h5, _, _, _, _, _, h'⟩ => rimul_any _ _ _ _ j k w h'.1 h5 (by omega) (by omega)) (fun x6 y6 => ?_)
  refine wVal (v := .int .i64 (cmpQ x y)) (fun w b ⟨h6, _, _, h3, _⟩ => by
    rw [← cmpQ_of]
    exact ricmp_any _ _ _ _ (k + j) (j + k) w h3 h6 (by omega) (by omega)) rfl ?_
  exact wRet fun w b _ => ⟨rfl, b⟩

end Go.Proofs.YtfohgkabmdhhaaaGreatDoor
/- The document's and the program's powers of quotients; the law RatPows. -/
namespace Go.Proofs.YtfohgkabmdhhaaaGreatDoor
open Go.RowKit Cin

section prims
variable {P : Program} {T T' ty : TypeId} {vs : List Value} {p q : Operand} {x y : Int}
theorem prMax (hp : pe vs p = .int .i64 x) (hq : pe vs q = .int .i64 y) : PrimOk P (.call { callee := .builtin .max, args := #[p, q], argTypes := #[T, T'] }) ty vs (.int .i64 (max x y)) := fun w => by
  have e : max x y = if y > x then y else x := by split <;> omega
  rw [e]
  simp [execOp, resolve, hp, hq, invoke, builtin, Builtin.max_, Builtin.max2]
theorem prMin (hp : pe vs p = .int .i64 x) (hq : pe vs q = .int .i64 y) : PrimOk P (.call { callee := .builtin .min, args := #[p, q], argTypes := #[T, T'] }) ty vs (.int .i64 (min x y)) := fun w => by
  have e : min x y = if y < x then y else x := by split <;> omega
  rw [e]
  simp [execOp, resolve, hp, hq, invoke, builtin, Builtin.min_, Builtin.min2]
end prims

/-- RatOf(1). -/
theorem dofOne_any (w : World) : Calls Tryz.prog 63 #[.int .i64 1] w fun e w' => ∃ v', e = .returned v' ∧ DRatB w' v' 1 1 ∧ Below w.heap.size w w' := by
  refine go (fun _ => True) [[.int .i64 1]] [none] (tr := (.em (.call 105 [.s (.c 0 0)] [some 2]) (.em (.call 92 [.s (.k (.int .u64 1))] [none]) (.ret (.v (.g [.c 1 0, .c 1 1, .c 2 0])))))) (by kernel_rfl) (by kernel_rfl) (by kernel_rfl) Mono.true trivial ⟨rfl, trivial⟩ ?_
  refine wInt hU (fun w b _ => rintOf_one w) (fun x1 y1 => ?_)
  refine wRef hU (fun w b _ => rnatOf_one w) (fun x2 => ?_)
  exact wRet fun w b ⟨h2, h1, _⟩ => ⟨_, rfl, ⟨_, _, _, rfl, h1, ⟨1, h2.1, .inl rfl⟩, h2.2⟩, b⟩

def Pmu (n : Nat) : List Value → Nat
  | .int _ i :: _ => n - i.toNat
  | _ => 0
def Pinv (n : Nat) (x : Rat) (k : Nat) (cs : List Value) (w : World) : Prop := ∃ (i : Nat) (a b d : Value), cs = [.int .i64 i, a, b, d] ∧ i ≤ n ∧ DQ w a b d (x ^ i) (k * i + 1)

set_option maxHeartbeats 2000000 in
/-- RatPow: so often by itself. -/
theorem dpow_any (v : Value) (x : Rat) (n : Int) (k : Nat) (w : World) (h : DRatB w v x k) (hk : k ≤ 21) (hn : cut255 n ≤ 40) :
    Calls Tryz.prog 80 #[v, .int .i64 n] w fun e w' => ∃ v', e = .returned v' ∧ DRatB w' v' (x ^ cut255 n) (k * cut255 n + 1) ∧ Below w.heap.size w w' := by
  obtain ⟨a, b, d, rfl, h⟩ := h
  refine go (fun w => DQ w a b d x k) [[a, b, d], [.int .i64 n]] [some 3, none] (tr := (.em (.call 63 [.s (.k (.int .i64 1))] [some 3]) (.loop 0 [.k (.int .i64 0), .c 2 0, .c 2 1, .c 2 2] (.em (.pr (.call (.mk (.builtin .max) #[.tmp 0, .const (.int .i64 0)] #[3, 3])) 3 [.s (.c 1 0), .s (.k (.int .i64 0))]) (.em (.pr (.call (.mk (.builtin .min) #[.tmp 0, .const (.int .i64 255)] #[3, 3])) 3 [.s (.c 4 0), .s (.k (.int .i64 255))]) (.em (.pr (.binOp .lss 3 (.tmp 0) (.tmp 1) 3) 4 [.s (.c 3 0), .s (.c 5 0)]) (.cond (.c 6 0) (.em (.call 78 [.g [.c 3 1, .c 3 2, .c 3 3], .g [.c 0 0, .c 0 1, .c 0 2]] [some 3]) (.em (.pr (.binOp .add 3 (.tmp 0) (.const (.int .i64 1)) 3) 3 [.s (.c 3 0), .s (.k (.int .i64 1))]) (.back 0 [.c 8 0, .c 7 0, .c 7 1, .c 7 2]))) (.ret (.v (.g [.c 3 1, .c 3 2, .c 3 3])))))))))) (by kernel_rfl) (by kernel_rfl) (by kernel_rfl) (mD _ _ _ _ _) h ⟨dpl h, rfl, trivial⟩ ?_
  refine wDQ (fun w b _ => dofOne_any w) (fun a1 b1 d1 => ?_)
  refine wLoop (fun cs w => Pinv (cut255 n) x k cs w) (fun cs w w' e ⟨i, a, b, d, h1, h2, h3⟩ => ⟨i, a, b, d, h1, h2, mD _ _ _ _ _ hU w w' e h3⟩) (Pmu (cut255 n)) (fun w ⟨h1, _⟩ => ⟨0, a1, b1, d1, rfl, Nat.zero_le _, by rw [Rat.pow_zero, Nat.mul_zero, Nat.zero_add]; exact h1⟩) (fun cs _ => ?_)
  intro hm u hF
  obtain ⟨⟨i, a2, b2, d2, rfl, hi, _⟩, _⟩ := id hF
  refine wMono (G := fun w => DQ w a2 b2 d2 (x ^ i) (k * i + 1) ∧ DQ w a b d x k) ((mD _ _ _ _ _).and (mD _ _ _ _ _)) (fun w ⟨⟨i', a3, b3, d3, e, _, h⟩, _, h'⟩ => by
    have e' := e
    injection e' with e1 e2
    injection e2 with e2 e3
    injection e3 with e3 e4
    injection e4 with e4 e5
    injection e1 with e0 e1
    have : i' = i := by omega
    subst this e2 e3 e4
    exact ⟨h, h'⟩) ?_ hm u hF
  clear hm hF
  refine wPr (prMax rfl rfl) rfl ?_
  refine wPr (prMin rfl rfl) rfl ?_
  refine wPr (prLt rfl rfl) rfl ?_
  have hki : k * i ≤ 21 * 40 := Nat.mul_le_mul hk (by omega)
  refine wIf _ rfl (fun e => ?_) (fun e => ?_)
  · have hlt : i < cut255 n := by
      have h1 : (i : Int) < min (max n 0) 255 := by simpa using e
      rw [min_max_255] at h1
      omega
    refine wDQ (q := x ^ (i + 1)) (m := k * (i + 1) + 1) (fun w b ⟨h1, h⟩ => by
      rw [Rat.pow_succ, Nat.mul_succ, show k * i + k + 1 = k * i + 1 + k by omega]
      exact dmul_any _ _ (x ^ i) x (k * i + 1) k w ⟨_, _, _, rfl, h1⟩ ⟨_, _, _, rfl, h⟩ (by omega) (by omega) (by omega)) (fun a3 b3 d3 => ?_)
    refine wPr (prAdd rfl rfl) rfl ?_
    rw [wrap_small (by omega) (by omega)]
    refine wBack fun w ⟨h3, _⟩ => ⟨⟨i + 1, a3, b3, d3, rfl, hlt, h3⟩, ?_⟩
    show cut255 n - ((i : Int) + 1).toNat < cut255 n - (i : Int).toNat
    omega
  · have hge : i = cut255 n := by
      have h1 : ¬ (i : Int) < min (max n 0) 255 := by simpa using e
      rw [min_max_255] at h1
      omega
    subst hge
    exact wRet fun w b ⟨h1, _⟩ => ⟨_, rfl, ⟨_, _, _, rfl, h1⟩, b⟩

/-- Pow: n times by itself, n cut. -/
theorem qpow_any (v : Value) (x : Rat) (n : Int) (k : Nat) (w : World) (h : RatB w v x k) (hk : k ≤ 1000) (hk1 : 1 ≤ k) (hn0 : -9223372036854775808 ≤ n) (hn1 : n < 9223372036854775808) :
    Calls Tryz.prog 59 #[v, .int .i64 n] w fun e w' => ∃ v', e = .returned v' ∧ RatB w' v' (x ^ cut255 n) (k * 255 + 1) ∧ Below w.heap.size w w' := by
  obtain ⟨a, b, c, d, rfl, h⟩ := h
  refine go (fun w => QB w a b c d x k) [[a, b, c, d], [.int .i64 n]] [some 4, none] (tr := (.em (.call 101 [.g [.c 0 0, .c 0 1], .s (.c 1 0)] [some 2]) (.em (.call 94 [.g [.c 0 0, .c 0 1, .c 0 2, .c 0 3]] [some 2]) (.em (.call 101 [.g [.c 3 0, .c 3 1], .s (.c 1 0)] [some 2]) (.em (.call 99 [.g [.c 2 0, .c 2 1], .g [.c 4 0, .c 4 1]] [some 4]) (.ret (.v (.g [.c 5 0, .c 5 1, .c 5 2, .c 5 3])))))))) (by kernel_rfl) (by kernel_rfl) (by kernel_rfl) (mQ _ _ _ _ _ _) h ⟨qpl h, rfl, trivial⟩ ?_
  refine wInt hU (fun w b h => pow_any _ x.num n k w h.1 hk hk1 hn0 hn1) (fun _ _ => ?_)
  refine wInt hU (fun w b ⟨_, h⟩ => bottom_any _ x k w ⟨_, _, _, _, rfl, h⟩ (by omega)) (fun _ _ => ?_)
  refine wInt hU (fun w b ⟨h2, _⟩ => pow_any _ (x.den : Int) n k w h2 hk hk1 hn0 hn1) (fun _ _ => ?_)
  refine wRat (fun w b ⟨h3, _, h1, _⟩ => lowest_any _ _ _ _ (x ^ cut255 n) (k * 255 + 1) w h1 h3 (by omega) (Rat.num_pow _ _) (by rw [Rat.den_pow, Int.natCast_pow])) (fun _ _ _ _ => ?_)
  exact wRet fun w b ⟨h, _⟩ => ⟨_, rfl, ⟨_, _, _, _, rfl, h⟩, b⟩

theorem cut40 {n : Int} (h : n ≤ 40) : cut255 n ≤ 40 := by
  unfold cut255
  split
  · omega
  · split <;> omega

end Go.Proofs.YtfohgkabmdhhaaaGreatDoor
/- The law WholeTells. -/
namespace Go.Proofs.YtfohgkabmdhhaaaGreatDoor
open Go.RowKit Cin

theorem minus_tl {s : ByteArray} (h : negT s = true) : (⟨#[45]⟩ : ByteArray) ++ tl s = s := by
  obtain ⟨⟨l⟩⟩ := s
  cases l with
  | nil => unfold negT at h; simp [byts] at h; exact absurd h.2 (by decide)
  | cons x l =>
    have hx : lim (byts ⟨⟨x :: l⟩⟩) 0 = x.toNat := rfl
    unfold negT at h
    rw [hx] at h
    simp only [Bool.and_eq_true, decide_eq_true_eq] at h
    have e : x = 45 := UInt8.toNat_inj.1 h.2
    subst e
    apply ByteArray.ext
    apply Array.toList_inj.1
    simp [tl, ByteArray.data_extract]
    exact List.take_of_length_le (by show l.length ≤ l.length + 1 - 1; omega)
/-- A whole number's text is the text that it was read from. -/
theorem intS_intVal {s : ByteArray} (h : IsInt s) : intS (intVal s) = s := by
  have hd := decS_decL h.1
  by_cases hn : negT s = true
  · have h0 := h.2 hn
    have hz : intVal s < 0 := by unfold intVal sg; rw [hn, if_pos rfl]; omega
    rw [intS_neg hz]
    have e : (intVal s).natAbs = decL (byts (digT s)) := by unfold intVal; rw [sg_natAbs]
    rw [e, hd]
    unfold digT
    rw [if_pos hn]
    exact minus_tl hn
  · have hn' : negT s = false := by simpa using hn
    have hz : ¬ intVal s < 0 := by unfold intVal sg; rw [hn', if_neg (by simp)]; omega
    rw [intS_pos hz]
    have e : (intVal s).natAbs = decL (byts (digT s)) := by unfold intVal; rw [sg_natAbs]
    rw [e, hd]
    unfold digT
    rw [if_neg hn]

end Go.Proofs.YtfohgkabmdhhaaaGreatDoor
/- The law RatTells. -/
namespace Go.Proofs.YtfohgkabmdhhaaaGreatDoor
open Go.RowKit Cin

theorem parts_join {s : ByteArray} (h : 0 ≤ slashAt s) : nPart s ++ (⟨#[47]⟩ : ByteArray) ++ dPart s = s := by
  obtain ⟨o, ho⟩ := Int.eq_ofNat_of_zero_le h
  have h1 := (Lib.indexByte_some (show Lib.indexByte s.data.toList 47 = (o : Int) from ho)).1
  have hlt := (List.getElem?_eq_some_iff.1 h1).1
  have hsz : s.data.toList.length = s.size := bytes_len s
  apply ByteArray.ext
  apply Array.toList_inj.1
  unfold nPart dPart
  rw [ho]
  simp only [Int.toNat_natCast, ByteArray.data_append, ByteArray.data_extract, Array.toList_append, Array.toList_extract, List.extract_eq_take_drop, List.drop_zero, Nat.sub_zero]
  have e0 : (s.data.toList.drop (o + 1)).take (s.size - (o + 1)) = s.data.toList.drop (o + 1) := List.take_of_length_le (by rw [List.length_drop]; omega)
  rw [e0]
  conv => rhs; rw [← List.take_append_drop o s.data.toList]
  rw [List.append_assoc]
  congr 1
  rw [List.drop_eq_getElem_cons hlt]
  have := (List.getElem?_eq_some_iff.1 h1).2
  rw [this]; rfl
/-- A quotient's text is the text that it was read from. -/
theorem ratS_ratVal {s : ByteArray} (h : RatOk s) : ratS (ratVal s) = s := by
  rcases h with ⟨hneg, hi⟩ | ⟨hpos, hi, hj, e1, e2⟩
  · obtain ⟨q1, q2⟩ := ratVal_int hneg
    unfold ratS
    rw [if_pos q2, q1, intS_intVal hi]
  · obtain ⟨q1, q2⟩ := ratVal_quo hpos e1 e2
    unfold ratS
    rw [if_neg (by omega), q1, q2, intS_intVal hi, intS_pos (by omega), Int.natAbs_natCast, decS_decL hj]
    exact parts_join hpos

theorem ratS_zero : ratS 0 = ⟨#[48]⟩ := by
  unfold ratS
  rw [if_pos (show Rat.den 0 = 1 from rfl)]
  exact intS_dig (n := 0) (by decide)
theorem zeroQ (w : World) (k : Nat) (hk : 1 ≤ k) : RatB w (.agg #[.bool false, .slice none 0 0, .bool false, .slice none 0 0]) 0 k := ⟨_, _, _, _, rfl, IntB.zero _ _ _, IntB.zero _ _ _, one_lt k hk⟩

theorem iparseN (s : ByteArray) (w : World) (h : ¬ IsInt s) : Calls Tryz.prog 107 #[.string s] w fun e w' => e = .returned (.tuple #[.agg #[.bool false, .slice none 0 0], .int .i64 2]) ∧ Below w.heap.size w w' :=
  (iparse_any s w).mono fun e w' hp => by
    rcases hp with ⟨hn, _⟩ | ⟨_, h⟩
    · exact absurd hn h
    · exact h
theorem int_big {r : ByteArray} (h : IsInt r) (h1 : 1 < intVal r) : IsNum (byts r) ∧ intVal r = (decL (byts r) : Nat) := by
  have hn : negT r = false := by
    cases hneg : negT r with
    | false => rfl
    | true =>
      unfold intVal at h1
      rw [hneg] at h1
      unfold sg at h1
      simp at h1
      omega
  have hd : digT r = r := by unfold digT; rw [hn]; rfl
  have h2 := h.1
  rw [hd] at h2
  refine ⟨h2, ?_⟩
  unfold intVal
  rw [hn, hd]; rfl

set_option maxHeartbeats 1000000 in
/-- Parse: of any other text no number. -/
theorem qparse_no (s : ByteArray) (w : World) (hs : s.size ≤ 9223372036854775807) (h : ¬ RatOk s) :
    Calls Tryz.prog 64 #[.string s] w fun e w' => e = .returned (.tuple #[.agg #[.bool false, .slice none 0 0, .bool false, .slice none 0 0], .int .i64 2]) ∧ Below w.heap.size w w' := by
  refine go (fun _ => True) [[.string s]] [none] (tr := (.em (.call 106 [.s (.c 0 0), .s (.k (.string ⟨#[47]⟩))] [none, none, none]) (.em (.call 107 [.s (.c 1 0)] [some 2, none]) (.em (.pr (.binOp .neq 34 (.tmp 0) (.const (.int .i64 0)) 34) 4 [.s (.c 2 2), .s (.k (.int .i64 0))]) (.cond (.c 3 0) (.ret (.t [.g [.k (.bool false), .k (.slice none 0 0), .k (.bool false), .k (.slice none 0 0)], .s (.k (.int .i64 2))])) (.em (.pr (.unOp .not 4 (.tmp 0)) 4 [.s (.c 1 2)]) (.cond (.c 4 0) (.ret (.t [.g [.c 2 0, .c 2 1, .k (.bool false), .k (.slice none 0 0)], .s (.k (.int .i64 0))])) (.em (.call 107 [.s (.c 1 1)] [some 2, none]) (.em (.pr (.binOp .neq 34 (.tmp 0) (.const (.int .i64 0)) 34) 4 [.s (.c 5 2), .s (.k (.int .i64 0))]) (.cond (.c 6 0) (.ret (.t [.g [.k (.bool false), .k (.slice none 0 0), .k (.bool false), .k (.slice none 0 0)], .s (.k (.int .i64 2))])) (.em (.call 104 [.s (.k (.int .i64 1))] [some 2]) (.em (.call 102 [.g [.c 5 0, .c 5 1], .g [.c 7 0, .c 7 1]] [none]) (.em (.pr (.binOp .leq 3 (.tmp 0) (.const (.int .i64 0)) 3) 4 [.s (.c 8 0), .s (.k (.int .i64 0))]) (.cond (.c 9 0) (.ret (.t [.g [.k (.bool false), .k (.slice none 0 0), .k (.bool false), .k (.slice none 0 0)], .s (.k (.int .i64 2))])) (.em (.call 95 [.g [.c 2 0, .c 2 1], .g [.c 5 0, .c 5 1]] [some 2]) (.em (.call 108 [.g [.c 10 0, .c 10 1]] [none]) (.em (.pr (.unOp .not 4 (.tmp 0)) 4 [.s (.c 11 0)]) (.cond (.c 12 0) (.ret (.t [.g [.k (.bool false), .k (.slice none 0 0), .k (.bool false), .k (.slice none 0 0)], .s (.k (.int .i64 2))])) (.ret (.t [.g [.c 2 0, .c 2 1, .c 5 0, .c 5 1], .s (.k (.int .i64 0))])))))))))))))))))))) (by kernel_rfl) (by kernel_rfl) (by kernel_rfl) Mono.true trivial ⟨rfl, trivial⟩ ?_
  by_cases hpos : 0 ≤ slashAt s
  · refine wKnown [.string (nPart s), .string (dPart s), .bool true] (fun w b _ => cut_any s w hs) (by rw [if_pos hpos]; rfl) rfl ?_
    by_cases hi : IsInt (nPart s)
    · refine wIntV hU (fun w b _ => iparseY _ w hi) rfl (fun x1 y1 => ?_)
      refine wPr (prNe rfl rfl) rfl ?_
      refine wFalse rfl ?_
      refine wPr (prNot rfl) rfl ?_
      refine wFalse rfl ?_
      by_cases hj : IsInt (dPart s)
      · refine wIntV hU (fun w b _ => iparseY _ w hj) rfl (fun x2 y2 => ?_)
        refine wPr (prNe rfl rfl) rfl ?_
        refine wFalse rfl ?_
        refine wInt hU (fun w b _ => iof_any 1 w (by decide) (by decide)) (fun x3 y3 => ?_)
        refine wVal (fun w b ⟨h3, h2, _⟩ => icmp_any _ _ (intVal (dPart s)) 1 500 2 w h2 h3 (by decide) (by decide)) rfl ?_
        refine wPr (prLe rfl rfl) rfl ?_
        by_cases h1 : 1 < intVal (dPart s)
        · obtain ⟨n1, n2⟩ := int_big hj h1
          have hg : Nat.gcd (intVal (nPart s)).natAbs (intVal (dPart s)).natAbs ≠ 1 := fun e => h (.inr ⟨hpos, hi, n1, by omega, by rw [n2, Int.natAbs_natCast, Nat.gcd_comm] at e; exact e⟩)
          refine wFalse (by show Value.bool (decide _) = _; rw [decide_eq_false (by unfold cmpZ; rw [if_neg (by omega), if_pos h1]; decide)]) ?_
          refine wInt hU (fun w b ⟨_, h2, h1, _⟩ => qgcd_any _ _ _ _ 500 500 w h1 h2 (by decide) (by decide)) (fun x4 y4 => ?_)
          refine wVal (v := .bool false) (fun w b ⟨h4, _⟩ => by
            have e : decide (((Nat.gcd (intVal (nPart s)).natAbs (intVal (dPart s)).natAbs : Nat) : Int) = 1) = false := decide_eq_false (by omega)
            rw [← e]
            exact isOne_any _ _ _ w h4 (by decide)) rfl ?_
          refine wPr (prNot rfl) rfl ?_
          refine wTrue rfl ?_
          exact wRet fun w b _ => ⟨rfl, b⟩
        · refine wTrue (by show Value.bool (decide _) = _; rw [decide_eq_true (by unfold cmpZ; rw [if_neg h1]; split <;> decide)]) ?_
          exact wRet fun w b _ => ⟨rfl, b⟩
      · refine wKnown [.bool false, .slice none 0 0, .int .i64 2] (fun w b _ => iparseN _ w hj) rfl rfl ?_
        refine wPr (prNe rfl rfl) rfl ?_
        refine wTrue rfl ?_
        exact wRet fun w b _ => ⟨rfl, b⟩
    · refine wKnown [.bool false, .slice none 0 0, .int .i64 2] (fun w b _ => iparseN _ w hi) rfl rfl ?_
      refine wPr (prNe rfl rfl) rfl ?_
      refine wTrue rfl ?_
      exact wRet fun w b _ => ⟨rfl, b⟩
  · have hi : ¬ IsInt s := fun hi => h (.inl ⟨by omega, hi⟩)
    refine wKnown [.string s, .string ⟨#[]⟩, .bool false] (fun w b _ => cut_any s w hs) (by rw [if_neg hpos]; rfl) rfl ?_
    refine wKnown [.bool false, .slice none 0 0, .int .i64 2] (fun w b _ => iparseN _ w hi) rfl rfl ?_
    refine wPr (prNe rfl rfl) rfl ?_
    refine wTrue rfl ?_
    exact wRet fun w b _ => ⟨rfl, b⟩

end Go.Proofs.YtfohgkabmdhhaaaGreatDoor
/- The contracts of the document's Bit and Zeros. -/
namespace Cin
open Go Go.RowKit
theorem lim_bit {xs : List Nat} (ho : Ok xs) (i : Nat) : lim xs (i / 32) / 2 ^ (i % 32) % 2 = val xs / 2 ^ i % 2 := by
  rw [pow2_split32 i, ← Nat.div_div_eq_div_mul, val_div_pw ho, val_drop_step]
  generalize val (xs.drop (i / 32 + 1)) = y
  generalize lim xs (i / 32) = z
  have ht : i % 32 < 32 := Nat.mod_lt _ (by decide)
  generalize i % 32 = t at *
  have e : 4294967296 = 2 ^ t * (2 * 2 ^ (31 - t)) := by
    rw [← Nat.mul_assoc, Nat.mul_comm (2 ^ t) 2, Nat.mul_assoc, ← Nat.pow_add, show t + (31 - t) = 31 by omega]
  rw [e, Nat.mul_assoc, Nat.add_mul_div_left _ _ (Nat.pow_pos (by decide)), Nat.mul_assoc, Nat.add_mul_mod_self_left]
theorem tz_more {x i : Nat} (h : 2 ^ i ∣ x) (hb : x / 2 ^ i % 2 = 0) : 2 ^ (i + 1) ∣ x := by
  obtain ⟨c, rfl⟩ := h
  rw [Nat.mul_div_cancel_left _ (Nat.pow_pos (by decide))] at hb
  rw [Nat.pow_succ]
  exact Nat.mul_dvd_mul_left _ (Nat.dvd_of_mod_eq_zero hb)
theorem tz_end {x i : Nat} (h : 2 ^ i ∣ x) (hb : x / 2 ^ i % 2 ≠ 0) : IsTz x i := by
  obtain ⟨c, rfl⟩ := h
  rw [Nat.mul_div_cancel_left _ (Nat.pow_pos (by decide))] at hb
  exact .inr ⟨c / 2, by congr 1; omega⟩
theorem tz_zero {xs : List Nat} (ho : Ok xs) (hn : Norm xs) (h : 2 ^ (32 * xs.length) ∣ val xs) : IsTz (val xs) (32 * xs.length) := by
  have hl := val_lt ho
  rw [pw_two] at hl
  have h0 := Nat.eq_zero_of_dvd_of_lt h hl
  have e : xs = [] := by
    rcases hn with e | e
    · exact e
    · exfalso
      rcases Nat.eq_zero_or_pos xs.length with h1 | h1
      · have := List.length_eq_zero_iff.1 h1
        subst this
        exact e rfl
      · have h2 := val_ge (.inr e) (fun h => by subst h; simp at h1)
        have := pw_pos (xs.length - 1)
        omega
  subst e
  exact .inl ⟨rfl, rfl⟩
end Cin
namespace Go.Proofs.YtfohgkabmdhhaaaGreatDoor
open Go.RowKit Cin

set_option maxRecDepth 100000 in
set_option maxHeartbeats 1000000 in
/-- Bit: one binary digit. -/
theorem rbit_any (v : Value) (xs : List Nat) (i : Nat) (w : World) (hs : Sl 146 .u32 w v xs) (ho : Ok xs) (hi : i < 32 * xs.length) (hl : xs.length ≤ 1000000) :
    Calls Tryz.prog 130 #[v, .int .i64 i] w fun e w' => e = .returned (.int .u32 (val xs / 2 ^ i % 2 : Nat)) ∧ w' = w := by
  obtain ⟨ad, cap, rfl, hc, _⟩ := hs.shape
  obtain ⟨len, hn⟩ : ∃ n : Nat, xs.length = n := ⟨_, rfl⟩
  obtain ⟨q, eq, eq'⟩ : ∃ q : Nat, (i : Int) / 32 = (q : Int) ∧ q = i / 32 := ⟨i / 32, by omega, rfl⟩
  obtain ⟨t, et, et'⟩ : ∃ t : Nat, (i : Int) % 32 = (t : Int) ∧ t = i % 32 := ⟨i % 32, by omega, rfl⟩
  obtain ⟨bk, off, rfl, hcell, hblt⟩ := hs.cell (i := q) (by omega)
  have hlim := lim_lt ho q
  obtain ⟨y, ey, ey'⟩ : ∃ y : Nat, ((lim xs q : Nat) : Int) / 2 ^ t = (y : Int) ∧ y = lim xs q / 2 ^ t := ⟨lim xs q / 2 ^ t, by simp, rfl⟩
  have hy : y < 4294967296 := by have := Nat.div_le_self (lim xs q) (2 ^ t); omega
  have hand : bits BinOp.and IntKind.u32 (y : Int) 1 = ((y % 2 : Nat) : Int) := by
    have := u32_and_nat y 1 hy (by decide)
    rw [show ((1 : Nat) : Int) = 1 from rfl] at this
    rw [this, Nat.and_one_is_mod]
  have HE := Lib.hid (show y % 2 = val xs / 2 ^ i % 2 by rw [← lim_bit ho i, ey', eq', et'])
  obtain ⟨z, ez⟩ : ∃ z : Nat, y % 2 = z := ⟨_, rfl⟩
  rw [ez] at hand
  rw [hn] at hc hi hl ⊢
  have EZ := Lib.hid ez
  have hq : q < len := by omega
  have ht : t < 32 := by omega
  have d0 : decide ((i : Int) < 0) = false := by rw [decide_eq_false_iff_not]; omega
  have d1 : decide ((len : Int) ≤ (q : Int)) = false := by rw [decide_eq_false_iff_not]; omega
  clear hs ho hn eq' et' ey' ez
  go_enter Tryz.func130, Tryz.ntmps130
  go_wp2
  go_ret
  exact ⟨ret_int (by rw [← HE.out, EZ.out]), rfl⟩

set_option maxRecDepth 100000 in
set_option maxHeartbeats 1000000 in
/-- Zeros: how often 2 goes into it. -/
theorem rzeros_any (v : Value) (x k : Nat) (w : World) (h : RefB w v x k) (hk : k ≤ 1000000) :
    Calls Tryz.prog 91 #[v] w fun e w' => ∃ c : Nat, e = .returned (.int .i64 c) ∧ IsTz x c ∧ Below w.heap.size w w' := by
  obtain ⟨⟨xs, hs, ho, hnm, hval⟩, hx⟩ := h
  have HS0 := Lib.hid hs
  obtain ⟨ad, cap, rfl, hc, _⟩ := hs.shape
  have hl : xs.length ≤ k := norm_len hnm (by rw [hval]; exact hx)
  obtain ⟨len, hn⟩ : ∃ n : Nat, xs.length = n := ⟨_, rfl⟩
  have HN := Lib.hid hn
  rw [hn] at hl hc HS0 ⊢
  have HM := Lib.hid hnm
  have HV := Lib.hid hval
  have HO := Lib.hid ho
  have e32 : IntKind.i64.wrap (32 * (len : Int)) = ((32 * len : Nat) : Int) := by rw [IntWalk.i64_in _ (by omega)]; omega
  obtain ⟨m, em⟩ : ∃ m : Nat, 32 * len = m := ⟨_, rfl⟩
  rw [em] at e32
  have EM := Lib.hid em
  have hmb : m ≤ 32000000 := by omega
  have e33 : 32 * (len : Int) = (m : Int) := by omega
  clear hs hnm hval hx hn ho em
  go_enter Tryz.func91, Tryz.ntmps91
  go_wp2_with fail
  go_loopw [3] (fun cx wr => ∃ j : Nat, j ≤ m ∧ cx = .int .i64 j ∧ Hid (2 ^ j ∣ val xs) ∧ wr = w) (fun cx _ => m - (intOf cx).toNat)
  case atStart => exact ⟨0, Nat.zero_le _, rfl, Lib.hid (Nat.one_dvd _), rfl⟩
  case round =>
    obtain ⟨j, hj, rfl, HD, rfl⟩ := hrel
    by_cases hlt : j < m
    · have d0 : decide ((j : Int) < (m : Int)) = true := by rw [decide_eq_true_iff]; omega
      go_wp2_with fail
      refine (rbit_any _ xs j _ HS0.out HO.out (by have := EM.out; have := HN.out; omega) (by have := HN.out; omega)).mono ?_
      rintro e w1 ⟨rfl, rfl⟩
      by_cases hb : val xs / 2 ^ j % 2 = 0
      · have HB := Lib.hid (tz_more HD.out hb)
        rw [hb]
        clear hb
        have w1' : IntKind.i64.wrap ((j : Int) + 1) = (j : Int) + 1 := IntWalk.i64_in _ (by omega)
        go_wp2_with fail
        exact ⟨⟨j + 1, by omega, by go_num, HB, trivial⟩, by simp [intOf]; omega⟩
      · have hb1 : val xs / 2 ^ j % 2 = 1 := by omega
        have HB := Lib.hid (tz_end HD.out hb)
        rw [hb1]
        clear hb hb1
        go_wp2_with fail
        go_ret
        exact ⟨j, rfl, by have := HB.out; rwa [HV.out] at this, Below.refl _ _⟩
    · obtain rfl : m = j := by omega
      have HB := Lib.hid (tz_zero HO.out HM.out (by rw [HN.out, EM.out]; exact HD.out))
      have d0 : decide ((m : Int) < (m : Int)) = false := by simp
      go_wp2_with fail
      go_ret
      exact ⟨m, rfl, by have := HB.out; rwa [HV.out, HN.out, EM.out] at this, Below.refl _ _⟩

end Go.Proofs.YtfohgkabmdhhaaaGreatDoor
