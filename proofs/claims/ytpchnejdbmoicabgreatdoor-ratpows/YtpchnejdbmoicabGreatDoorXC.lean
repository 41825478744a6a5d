/- The document's and the program's powers of quotients; the law RatPows. -/
import Derived.Test.YtpchnejdbmoicabGreatDoorXB
namespace Go.Proofs.YtpchnejdbmoicabGreatDoor
open Go.RowKit Cin

section prims
variable {P : Program} {T T' ty : TypeId} {vs : List Value} {p q : Operand} {x y : Int}
theorem prMax (hp : pe vs p = .int .i64 x) (hq : pe vs q = .int .i64 y) : PrimOk P (.call { callee := .builtin .max, args := #[p, q], argTypes := #[T, T'] }) ty vs (.int .i64 (max x y)) := fun w => by
  have e : max x y = if y > x then y else x := by split <;> omega
  rw [e]
  simp [execOp, resolve, hp, hq, invoke, builtin, Builtin.max_, Builtin.max2]
theorem prMin (hp : pe vs p = .int .i64 x) (hq : pe vs q = .int .i64 y) : PrimOk P (.call { callee := .builtin .min, args := #[p, q], argTypes := #[T, T'] }) ty vs (.int .i64 (min x y)) := fun w => by
  have e : min x y = if y < x then y else x := by split <;> omega
  rw [e]
  simp [execOp, resolve, hp, hq, invoke, builtin, Builtin.min_, Builtin.min2]
end prims

/-- RatOf(1). -/
theorem dofOne_any (w : World) : Calls Tryz.prog 63 #[.int .i64 1] w fun e w' => ∃ v', e = .returned v' ∧ DRatB w' v' 1 1 ∧ Below w.heap.size w w' := by
  refine go (fun _ => True) [[.int .i64 1]] [none] (tr := (.em (.call 89 [.s (.c 0 0)] [some 2]) (.em (.call 40 [.s (.k (.int .u64 1))] [none]) (.ret (.v (.g [.c 1 0, .c 1 1, .c 2 0])))))) (by kernel_rfl) (by kernel_rfl) (by kernel_rfl) Mono.true trivial ⟨rfl, trivial⟩ ?_
  refine wInt hU (fun w b _ => rintOf_one w) (fun x1 y1 => ?_)
  refine wRef hU (fun w b _ => rnatOf_one w) (fun x2 => ?_)
  exact wRet fun w b ⟨h2, h1, _⟩ => ⟨_, rfl, ⟨_, _, _, rfl, h1, ⟨1, h2.1, .inl rfl⟩, h2.2⟩, b⟩

def Pmu (n : Nat) : List Value → Nat
  | .int _ i :: _ => n - i.toNat
  | _ => 0
def Pinv (n : Nat) (x : Rat) (k : Nat) (cs : List Value) (w : World) : Prop := ∃ (i : Nat) (a b d : Value), cs = [.int .i64 i, a, b, d] ∧ i ≤ n ∧ DQ w a b d (x ^ i) (k * i + 1)

set_option maxHeartbeats 2000000 in
/-- RatPow: so often by itself. -/
theorem dpow_any (v : Value) (x : Rat) (n : Int) (k : Nat) (w : World) (h : DRatB w v x k) (hk : k ≤ 21) (hn : cut255 n ≤ 40) :
    Calls Tryz.prog 31 #[v, .int .i64 n] w fun e w' => ∃ v', e = .returned v' ∧ DRatB w' v' (x ^ cut255 n) (k * cut255 n + 1) ∧ Below w.heap.size w w' := by
  obtain ⟨a, b, d, rfl, h⟩ := h
  refine go (fun w => DQ w a b d x k) [[a, b, d], [.int .i64 n]] [some 3, none] (tr := (.em (.call 63 [.s (.k (.int .i64 1))] [some 3]) (.loop 0 [.k (.int .i64 0), .c 2 0, .c 2 1, .c 2 2] (.em (.pr (.call (.mk (.builtin .max) #[.tmp 0, .const (.int .i64 0)] #[3, 3])) 3 [.s (.c 1 0), .s (.k (.int .i64 0))]) (.em (.pr (.call (.mk (.builtin .min) #[.tmp 0, .const (.int .i64 255)] #[3, 3])) 3 [.s (.c 4 0), .s (.k (.int .i64 255))]) (.em (.pr (.binOp .lss 3 (.tmp 0) (.tmp 1) 3) 4 [.s (.c 3 0), .s (.c 5 0)]) (.cond (.c 6 0) (.em (.call 25 [.g [.c 3 1, .c 3 2, .c 3 3], .g [.c 0 0, .c 0 1, .c 0 2]] [some 3]) (.em (.pr (.binOp .add 3 (.tmp 0) (.const (.int .i64 1)) 3) 3 [.s (.c 3 0), .s (.k (.int .i64 1))]) (.back 0 [.c 8 0, .c 7 0, .c 7 1, .c 7 2]))) (.ret (.v (.g [.c 3 1, .c 3 2, .c 3 3])))))))))) (by kernel_rfl) (by kernel_rfl) (by kernel_rfl) (mD _ _ _ _ _) h ⟨dpl h, rfl, trivial⟩ ?_
  refine wDQ (fun w b _ => dofOne_any w) (fun a1 b1 d1 => ?_)
  refine wLoop (fun cs w => Pinv (cut255 n) x k cs w) (fun cs w w' e ⟨i, a, b, d, h1, h2, h3⟩ => ⟨i, a, b, d, h1, h2, mD _ _ _ _ _ w w' e h3⟩) (Pmu (cut255 n)) (fun w ⟨h1, _⟩ => ⟨0, a1, b1, d1, rfl, Nat.zero_le _, by rw [Rat.pow_zero, Nat.mul_zero, Nat.zero_add]; exact h1⟩) (fun cs _ => ?_)
  intro hm u hF
  obtain ⟨⟨i, a2, b2, d2, rfl, hi, _⟩, _⟩ := id hF
  refine wMono (G := fun w => DQ w a2 b2 d2 (x ^ i) (k * i + 1) ∧ DQ w a b d x k) ((mD _ _ _ _ _).and (mD _ _ _ _ _)) (fun w ⟨⟨i', a3, b3, d3, e, _, h⟩, _, h'⟩ => by
    have e' := e
    injection e' with e1 e2
    injection e2 with e2 e3
    injection e3 with e3 e4
    injection e4 with e4 e5
    injection e1 with e0 e1
    have : i' = i := by omega
    subst this e2 e3 e4
    exact ⟨h, h'⟩) ?_ hm u hF
  clear hm hF
  refine wPr (prMax rfl rfl) rfl ?_
  refine wPr (prMin rfl rfl) rfl ?_
  refine wPr (prLt rfl rfl) rfl ?_
  have hki : k * i ≤ 21 * 40 := Nat.mul_le_mul hk (by omega)
  refine wIf _ rfl (fun e => ?_) (fun e => ?_)
  · have hlt : i < cut255 n := by
      have h1 : (i : Int) < min (max n 0) 255 := by simpa using e
      rw [min_max_255] at h1
      omega
    refine wDQ (q := x ^ (i + 1)) (m := k * (i + 1) + 1) (fun w b ⟨h1, h⟩ => by
      rw [Rat.pow_succ, Nat.mul_succ, show k * i + k + 1 = k * i + 1 + k by omega]
      exact dmul_any _ _ (x ^ i) x (k * i + 1) k w ⟨_, _, _, rfl, h1⟩ ⟨_, _, _, rfl, h⟩ (by omega) (by omega) (by omega)) (fun a3 b3 d3 => ?_)
    refine wPr (prAdd rfl rfl) rfl ?_
    rw [wrap_small (by omega) (by omega)]
    refine wBack fun w ⟨h3, _⟩ => ⟨⟨i + 1, a3, b3, d3, rfl, hlt, h3⟩, ?_⟩
    show cut255 n - ((i : Int) + 1).toNat < cut255 n - (i : Int).toNat
    omega
  · have hge : i = cut255 n := by
      have h1 : ¬ (i : Int) < min (max n 0) 255 := by simpa using e
      rw [min_max_255] at h1
      omega
    subst hge
    exact wRet fun w b ⟨h1, _⟩ => ⟨_, rfl, ⟨_, _, _, rfl, h1⟩, b⟩

/-- Pow: n times by itself, n cut. -/
theorem qpow_any (v : Value) (x : Rat) (n : Int) (k : Nat) (w : World) (h : RatB w v x k) (hk : k ≤ 1000) (hk1 : 1 ≤ k) (hn0 : -9223372036854775808 ≤ n) (hn1 : n < 9223372036854775808) :
    Calls Tryz.prog 30 #[v, .int .i64 n] w fun e w' => ∃ v', e = .returned v' ∧ RatB w' v' (x ^ cut255 n) (k * 255 + 1) ∧ Below w.heap.size w w' := by
  obtain ⟨a, b, c, d, rfl, h⟩ := h
  refine go (fun w => QB w a b c d x k) [[a, b, c, d], [.int .i64 n]] [some 4, none] (tr := (.em (.call 62 [.g [.c 0 0, .c 0 1], .s (.c 1 0)] [some 2]) (.em (.call 47 [.g [.c 0 0, .c 0 1, .c 0 2, .c 0 3]] [some 2]) (.em (.call 62 [.g [.c 3 0, .c 3 1], .s (.c 1 0)] [some 2]) (.em (.call 53 [.g [.c 2 0, .c 2 1], .g [.c 4 0, .c 4 1]] [some 4]) (.ret (.v (.g [.c 5 0, .c 5 1, .c 5 2, .c 5 3])))))))) (by kernel_rfl) (by kernel_rfl) (by kernel_rfl) (mQ _ _ _ _ _ _) h ⟨qpl h, rfl, trivial⟩ ?_
  refine wInt hU (fun w b h => pow_any _ x.num n k w h.1 hk hk1 hn0 hn1) (fun _ _ => ?_)
  refine wInt hU (fun w b ⟨_, h⟩ => bottom_any _ x k w ⟨_, _, _, _, rfl, h⟩ (by omega)) (fun _ _ => ?_)
  refine wInt hU (fun w b ⟨h2, _⟩ => pow_any _ (x.den : Int) n k w h2 hk hk1 hn0 hn1) (fun _ _ => ?_)
  refine wRat (fun w b ⟨h3, _, h1, _⟩ => lowest_any _ _ _ _ (x ^ cut255 n) (k * 255 + 1) w h1 h3 (by omega) (Rat.num_pow _ _) (by rw [Rat.den_pow, Int.natCast_pow])) (fun _ _ _ _ => ?_)
  exact wRet fun w b ⟨h, _⟩ => ⟨_, rfl, ⟨_, _, _, _, rfl, h⟩, b⟩

theorem cut40 {n : Int} (h : n ≤ 40) : cut255 n ≤ 40 := by
  unfold cut255
  split
  · omega
  · split <;> omega

set_option maxHeartbeats 4000000 in
/-- The law RatPows holds of every text and word. -/
theorem ratPows_any (a : ByteArray) (n : Int) (w : World) (hT : Tabs w) (ha : a.size ≤ maxLen) (hn0 : -9223372036854775808 ≤ n) (hn1 : n < 9223372036854775808) :
    Calls Tryz.prog 5 #[.string a, .int .i64 n] w fun e w' => e = .returned (.bool true) ∧ Below w.heap.size w w' := by
  refine go (fun _ => True) [[.string a], [.int .i64 n]] [none, none] (tr := (.em (.call 18 [.s (.c 0 0)] [some 4, some 3, none]) (.em (.pr (.unOp .not 4 (.tmp 0)) 4 [.s (.c 2 7)]) (.cond (.c 3 0) (.em (.call 6 [] [none]) (.ret (.v (.s (.c 4 0))))) (.em (.pr (.call (.mk (.builtin .len) #[.tmp 0] #[9])) 3 [.s (.c 0 0)]) (.em (.pr (.binOp .gtr 3 (.tmp 0) (.const (.int .i64 10)) 3) 4 [.s (.c 4 0), .s (.k (.int .i64 10))]) (.cond (.c 5 0) (.em (.call 6 [] [none]) (.ret (.v (.s (.c 6 0))))) (.em (.call 6 [] [none]) (.em (.pr (.unOp .not 4 (.tmp 0)) 4 [.s (.c 6 0)]) (.cond (.c 7 0) (.em (.call 6 [] [none]) (.ret (.v (.s (.c 8 0))))) (.em (.pr (.binOp .gtr 3 (.tmp 0) (.const (.int .i64 40)) 3) 4 [.s (.c 1 0), .s (.k (.int .i64 40))]) (.cond (.c 8 0) (.em (.call 30 [.g [.c 2 0, .c 2 1, .c 2 2, .c 2 3], .s (.k (.int .i64 40))] [some 4]) (.em (.call 31 [.g [.c 2 4, .c 2 5, .c 2 6], .s (.k (.int .i64 40))] [some 3]) (.em (.call 19 [.g [.c 9 0, .c 9 1, .c 9 2, .c 9 3], .g [.c 10 0, .c 10 1, .c 10 2]] [none]) (.ret (.v (.s (.c 11 0))))))) (.em (.call 30 [.g [.c 2 0, .c 2 1, .c 2 2, .c 2 3], .s (.c 1 0)] [some 4]) (.em (.call 31 [.g [.c 2 4, .c 2 5, .c 2 6], .s (.c 1 0)] [some 3]) (.em (.call 19 [.g [.c 9 0, .c 9 1, .c 9 2, .c 9 3], .g [.c 10 0, .c 10 1, .c 10 2]] [none]) (.ret (.v (.s (.c 11 0))))))))))))))))))) (by kernel_rfl) (by kernel_rfl) (by kernel_rfl) Mono.true trivial ⟨rfl, rfl, trivial⟩ ?_
  by_cases ka : NumQ a
  · refine wBoth (fun w _ _ => numY a w (Nat.le_trans ha maxLen_le') ka) rfl (fun _ _ _ _ _ _ _ => ?_)
    refine wPr (prNot rfl) rfl ?_
    refine wFalse rfl ?_
    refine wPr (prLenS hStrT rfl) rfl ?_
    refine wPr (prGt rfl rfl) rfl ?_
    refine wIf _ rfl (fun e => ?_) (fun e => ?_)
    · refine wVal (fun w b _ => alive3_any w (hT.below b)) rfl ?_
      exact wRet fun w b _ => ⟨rfl, b⟩
    refine wVal (fun w b _ => alive3_any w (hT.below b)) rfl ?_
    refine wPr (prNot rfl) rfl ?_
    refine wFalse rfl ?_
    refine wPr (prGt rfl rfl) rfl ?_
    generalize ratVal a = x
    refine wIf _ rfl (fun e => ?_) (fun e => ?_)
    · have hc : cut255 40 ≤ 40 := by decide
      refine wRat (fun w b ⟨h, _⟩ => qpow_any _ x 40 21 w ⟨_, _, _, _, rfl, h⟩ (by decide) (by decide) (by decide) (by decide)) (fun _ _ _ _ => ?_)
      refine wDQ (fun w b ⟨_, _, h, _⟩ => dpow_any _ x 40 21 w ⟨_, _, _, rfl, h⟩ (by decide) hc) (fun _ _ _ => ?_)
      refine wVal (fun w b ⟨h2, h1, _⟩ => is_any _ _ _ _ _ w ⟨_, _, _, _, rfl, h1⟩ ⟨_, _, _, rfl, h2⟩ (by decide) (by omega) (hT.below b)) rfl ?_
      exact wRet fun w b _ => ⟨rfl, b⟩
    · have hc : cut255 n ≤ 40 := cut40 (by have : ¬ (40 : Int) < n := by simpa using e
                                           omega)
      refine wRat (fun w b ⟨h, _⟩ => qpow_any _ x n 21 w ⟨_, _, _, _, rfl, h⟩ (by decide) (by decide) hn0 hn1) (fun _ _ _ _ => ?_)
      refine wDQ (fun w b ⟨_, _, h, _⟩ => dpow_any _ x n 21 w ⟨_, _, _, rfl, h⟩ (by decide) hc) (fun _ _ _ => ?_)
      refine wVal (fun w b ⟨h2, h1, _⟩ => is_any _ _ _ _ _ w ⟨_, _, _, _, rfl, h1⟩ ⟨_, _, _, rfl, h2⟩ (by decide) (by omega) (hT.below b)) rfl ?_
      exact wRet fun w b _ => ⟨rfl, b⟩
  · refine wKnown [.bool false, .slice none 0 0, .bool false, .slice none 0 0, .bool false, .slice none 0 0, .slice none 0 0, .bool false] (fun w _ _ => numN a w (Nat.le_trans ha maxLen_le') ka) rfl rfl ?_
    refine wPr (prNot rfl) rfl ?_
    refine wTrue rfl ?_
    refine wVal (fun w b _ => alive3_any w (hT.below b)) rfl ?_
    exact wRet fun w b _ => ⟨rfl, b⟩

end Go.Proofs.YtpchnejdbmoicabGreatDoor
