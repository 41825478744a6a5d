/- The document's sums and products of quotients; the law RatAdds. -/
import Derived.Test.YtpchnejdbmoicabGreatDoorYu
namespace Go.Proofs.YtpchnejdbmoicabGreatDoor
open Go.RowKit Cin

theorem maxLen_le' : maxLen ≤ 9223372036854775807 := by unfold maxLen; omega
theorem addQ_mk (x y : Rat) : nq (x.num * (y.den : Int) + y.num * (x.den : Int)) ((x.den * y.den : Nat) : Int) = x + y := by
  rw [nq_div, Int.natCast_mul, Rat.intCast_add, Rat.intCast_mul, Rat.intCast_mul, Rat.intCast_mul]
  have h1 := num_den x
  have h2 := num_den y
  have h3 := den_ne x
  have h4 := den_ne y
  generalize (x.num : Rat) = a at *
  generalize ((x.den : Int) : Rat) = b at *
  generalize (y.num : Rat) = c at *
  generalize ((y.den : Int) : Rat) = d at *
  subst h1 h2
  grind
theorem mulQ_mk (x y : Rat) : nq (x.num * y.num) ((x.den * y.den : Nat) : Int) = x * y := by
  rw [nq_div, Int.natCast_mul, Rat.intCast_mul, Rat.intCast_mul]
  have h1 := num_den x
  have h2 := num_den y
  have h3 := den_ne x
  have h4 := den_ne y
  generalize (x.num : Rat) = a at *
  generalize ((x.den : Int) : Rat) = b at *
  generalize (y.num : Rat) = c at *
  generalize ((y.den : Int) : Rat) = d at *
  subst h1 h2
  grind

/-- RatNeg: with its sign turned. -/
theorem dneg_any (v : Value) (q : Rat) (k : Nat) (w : World) (h : DRatB w v q k) :
    Calls Tryz.prog 29 #[v] w fun e w' => ∃ v', e = .returned v' ∧ DRatB w' v' (-q) k ∧ Below w.heap.size w w' := by
  obtain ⟨a, b, d, rfl, h⟩ := h
  refine go (fun w => DQ w a b d q k) [[a, b, d]] [some 3] (tr := (.em (.call 61 [.g [.c 0 0, .c 0 1]] [some 2]) (.em (.call 17 [.g [.c 0 0, .c 0 1, .c 0 2]] [none]) (.ret (.v (.g [.c 1 0, .c 1 1, .c 2 0])))))) (by kernel_rfl) (by kernel_rfl) (by kernel_rfl) (mD _ _ _ _ _) h ⟨dpl h, trivial⟩ ?_
  refine wInt hU (fun w b h => rneg_any _ q.num k w h.1) (fun x1 y1 => ?_)
  refine wRef hU (fun w b ⟨_, h⟩ => dden_any _ q k w ⟨_, _, _, rfl, h⟩) (fun x2 => ?_)
  refine wRet fun w b ⟨h2, h1, _⟩ => ⟨_, rfl, ⟨_, _, _, rfl, ?_, ⟨_, h2.1, .inl ?_⟩, ?_⟩, b⟩
  · rw [Rat.neg_num]; exact h1
  · rw [Rat.neg_den]
  · rw [Rat.neg_den]; exact h2.2

set_option maxHeartbeats 1000000 in
/-- RatAdd: both together. -/
theorem dadd_any (v u : Value) (x y : Rat) (k j : Nat) (w : World) (h : DRatB w v x k) (h' : DRatB w u y j) (hk : k ≤ 1000) (hj : j ≤ 1000) :
    Calls Tryz.prog 21 #[v, u] w fun e w' => ∃ v', e = .returned v' ∧ DRatB w' v' (x + y) (k + j + (j + k) + 1) ∧ Below w.heap.size w w' := by
  obtain ⟨a, b, d, rfl, h⟩ := h
  obtain ⟨a', b', d', rfl, h'⟩ := h'
  have hxp := x.den_pos
  have hyp := y.den_pos
  refine go (fun w => DQ w a b d x k ∧ DQ w a' b' d' y j) [[a, b, d], [a', b', d']] [some 3, some 3] (tr := (.em (.call 17 [.g [.c 1 0, .c 1 1, .c 1 2]] [none]) (.em (.call 57 [.s (.c 2 0)] [some 2]) (.em (.call 56 [.g [.c 0 0, .c 0 1], .g [.c 3 0, .c 3 1]] [some 2]) (.em (.call 17 [.g [.c 0 0, .c 0 1, .c 0 2]] [none]) (.em (.call 57 [.s (.c 5 0)] [some 2]) (.em (.call 56 [.g [.c 1 0, .c 1 1], .g [.c 6 0, .c 6 1]] [some 2]) (.em (.call 55 [.g [.c 4 0, .c 4 1], .g [.c 7 0, .c 7 1]] [some 2]) (.em (.call 17 [.g [.c 0 0, .c 0 1, .c 0 2]] [none]) (.em (.call 17 [.g [.c 1 0, .c 1 1, .c 1 2]] [none]) (.em (.call 58 [.s (.c 9 0), .s (.c 10 0)] [none]) (.em (.call 57 [.s (.c 11 0)] [some 2]) (.em (.call 54 [.g [.c 8 0, .c 8 1], .g [.c 12 0, .c 12 1]] [some 3]) (.ret (.v (.g [.c 13 0, .c 13 1, .c 13 2])))))))))))))))) (by kernel_rfl) (by kernel_rfl) (by kernel_rfl) ((mD _ _ _ _ _).and (mD _ _ _ _ _)) ⟨h, h'⟩ ⟨dpl h, dpl h', trivial⟩ ?_
  refine wRef hU (fun w b ⟨_, h'⟩ => dden_any _ y j w ⟨_, _, _, rfl, h'⟩) (fun x1 => ?_)
  refine wInt hU (fun w b ⟨h1, _⟩ => pos_any _ _ j w h1) (fun x2 y2 => ?_)
  refine wInt hU (fun w b ⟨h2, _, h, _⟩ => rimul_any _ _ _ _ k j w h.1 h2 (by omega) (by omega)) (fun x3 y3 => ?_)
  refine wRef hU (fun w b ⟨_, _, _, h, _⟩ => dden_any _ x k w ⟨_, _, _, rfl, h⟩) (fun x4 => ?_)
  refine wInt hU (fun w b ⟨h4, _⟩ => pos_any _ _ k w h4) (fun x5 y5 => ?_)
  refine wInt hU (fun w b ⟨h5, _, _, _, _, _, h'⟩ => rimul_any _ _ _ _ j k w h'.1 h5 (by omega) (by omega)) (fun x6 y6 => ?_)
  refine wInt hU (fun w b ⟨h6, _, _, h3, _⟩ => riadd_any _ _ _ _ (k + j) (j + k) w h3 h6 (by omega) (by omega)) (fun x7 y7 => ?_)
  refine wRef hU (fun w b ⟨_, _, _, _, _, _, _, h, _⟩ => dden_any _ x k w ⟨_, _, _, rfl, h⟩) (fun x8 => ?_)
  refine wRef hU (fun w b ⟨_, _, _, _, _, _, _, _, _, h'⟩ => dden_any _ y j w ⟨_, _, _, rfl, h'⟩) (fun x9 => ?_)
  refine wRef hU (fun w b ⟨h9, h8, _⟩ => rmulB _ _ x.den y.den k j w h8 h9 (by omega) (by omega)) (fun x10 => ?_)
  refine wInt hU (fun w b ⟨h10, _⟩ => pos_any _ _ (k + j) w h10) (fun x11 y11 => ?_)
  refine wDQ (q := x + y) (fun w b ⟨h11, _, _, _, h7, _⟩ => by
    rw [← addQ_mk x y]
    exact dnew_any _ _ _ _ (k + j + (j + k) + 1) w h7 (h11.mono (by omega)) (by omega) (by omega) (by have := Nat.mul_pos hxp hyp; omega)) (fun a b d => ?_)
  exact wRet fun w b ⟨h, _⟩ => ⟨_, rfl, ⟨_, _, _, rfl, h⟩, b⟩

/-- RatSub: the one less the other. -/
theorem dsub_any (v u : Value) (x y : Rat) (k j : Nat) (w : World) (h : DRatB w v x k) (h' : DRatB w u y j) (hk : k ≤ 1000) (hj : j ≤ 1000) :
    Calls Tryz.prog 23 #[v, u] w fun e w' => ∃ v', e = .returned v' ∧ DRatB w' v' (x - y) (k + j + (j + k) + 1) ∧ Below w.heap.size w w' := by
  obtain ⟨a, b, d, rfl, h⟩ := h
  obtain ⟨a', b', d', rfl, h'⟩ := h'
  refine go (fun w => DQ w a b d x k ∧ DQ w a' b' d' y j) [[a, b, d], [a', b', d']] [some 3, some 3] (tr := (.em (.call 29 [.g [.c 1 0, .c 1 1, .c 1 2]] [some 3]) (.em (.call 21 [.g [.c 0 0, .c 0 1, .c 0 2], .g [.c 2 0, .c 2 1, .c 2 2]] [some 3]) (.ret (.v (.g [.c 3 0, .c 3 1, .c 3 2])))))) (by kernel_rfl) (by kernel_rfl) (by kernel_rfl) ((mD _ _ _ _ _).and (mD _ _ _ _ _)) ⟨h, h'⟩ ⟨dpl h, dpl h', trivial⟩ ?_
  refine wDQ (fun w b ⟨_, h'⟩ => dneg_any _ y j w ⟨_, _, _, rfl, h'⟩) (fun a1 b1 d1 => ?_)
  refine wDQ (q := x - y) (fun w b ⟨h1, h, _⟩ => by
    rw [Rat.sub_eq_add_neg]
    exact dadd_any _ _ x (-y) k j w ⟨_, _, _, rfl, h⟩ ⟨_, _, _, rfl, h1⟩ hk hj) (fun a b d => ?_)
  exact wRet fun w b ⟨h, _⟩ => ⟨_, rfl, ⟨_, _, _, rfl, h⟩, b⟩

/-- RatMul: the one times the other. -/
theorem dmul_any (v u : Value) (x y : Rat) (k j : Nat) (w : World) (h : DRatB w v x k) (h' : DRatB w u y j) (hk : k ≤ 3000) (hj : j ≤ 3000) (hk1 : 1 ≤ k) :
    Calls Tryz.prog 25 #[v, u] w fun e w' => ∃ v', e = .returned v' ∧ DRatB w' v' (x * y) (k + j) ∧ Below w.heap.size w w' := by
  obtain ⟨a, b, d, rfl, h⟩ := h
  obtain ⟨a', b', d', rfl, h'⟩ := h'
  have hxp := x.den_pos
  have hyp := y.den_pos
  refine go (fun w => DQ w a b d x k ∧ DQ w a' b' d' y j) [[a, b, d], [a', b', d']] [some 3, some 3] (tr := (.em (.call 56 [.g [.c 0 0, .c 0 1], .g [.c 1 0, .c 1 1]] [some 2]) (.em (.call 17 [.g [.c 0 0, .c 0 1, .c 0 2]] [none]) (.em (.call 17 [.g [.c 1 0, .c 1 1, .c 1 2]] [none]) (.em (.call 58 [.s (.c 3 0), .s (.c 4 0)] [none]) (.em (.call 57 [.s (.c 5 0)] [some 2]) (.em (.call 54 [.g [.c 2 0, .c 2 1], .g [.c 6 0, .c 6 1]] [some 3]) (.ret (.v (.g [.c 7 0, .c 7 1, .c 7 2])))))))))) (by kernel_rfl) (by kernel_rfl) (by kernel_rfl) ((mD _ _ _ _ _).and (mD _ _ _ _ _)) ⟨h, h'⟩ ⟨dpl h, dpl h', trivial⟩ ?_
  refine wInt hU (fun w b ⟨h, h'⟩ => rimul_any _ _ _ _ k j w h.1 h'.1 (by omega) (by omega)) (fun x1 y1 => ?_)
  refine wRef hU (fun w b ⟨_, h, _⟩ => dden_any _ x k w ⟨_, _, _, rfl, h⟩) (fun x2 => ?_)
  refine wRef hU (fun w b ⟨_, _, _, h'⟩ => dden_any _ y j w ⟨_, _, _, rfl, h'⟩) (fun x3 => ?_)
  refine wRef hU (fun w b ⟨h3, h2, _⟩ => rmulB _ _ x.den y.den k j w h2 h3 (by omega) (by omega)) (fun x4 => ?_)
  refine wInt hU (fun w b ⟨h4, _⟩ => pos_any _ _ (k + j) w h4) (fun x5 y5 => ?_)
  refine wDQ (q := x * y) (fun w b ⟨h5, _, _, _, h1, _⟩ => by
    rw [← mulQ_mk x y]
    exact dnew_any _ _ _ _ (k + j) w h1 h5 (by omega) (by omega) (by have := Nat.mul_pos hxp hyp; omega)) (fun a b d => ?_)
  exact wRet fun w b ⟨h, _⟩ => ⟨_, rfl, ⟨_, _, _, rfl, h⟩, b⟩

/-- RatCmp: which one is greater. -/
theorem dcmp_any (v u : Value) (x y : Rat) (k j : Nat) (w : World) (h : DRatB w v x k) (h' : DRatB w u y j) (hk : k ≤ 3000) (hj : j ≤ 3000) :
    Calls Tryz.prog 27 #[v, u] w fun e w' => e = .returned (.int .i64 (cmpQ x y)) ∧ Below w.heap.size w w' := by
  obtain ⟨a, b, d, rfl, h⟩ := h
  obtain ⟨a', b', d', rfl, h'⟩ := h'
  refine go (fun w => DQ w a b d x k ∧ DQ w a' b' d' y j) [[a, b, d], [a', b', d']] [some 3, some 3] (tr := (.em (.call 17 [.g [.c 1 0, .c 1 1, .c 1 2]] [none]) (.em (.call 57 [.s (.c 2 0)] [some 2]) (.em (.call 56 [.g [.c 0 0, .c 0 1], .g [.c 3 0, .c 3 1]] [some 2]) (.em (.call 17 [.g [.c 0 0, .c 0 1, .c 0 2]] [none]) (.em (.call 57 [.s (.c 5 0)] [some 2]) (.em (.call 56 [.g [.c 1 0, .c 1 1], .g [.c 6 0, .c 6 1]] [some 2]) (.em (.call 60 [.g [.c 4 0, .c 4 1], .g [.c 7 0, .c 7 1]] [none]) (.ret (.v (.s (.c 8 0)))))))))))) (by kernel_rfl) (by kernel_rfl) (by kernel_rfl) ((mD _ _ _ _ _).and (mD _ _ _ _ _)) ⟨h, h'⟩ ⟨dpl h, dpl h', trivial⟩ ?_
  refine wRef hU (fun w b ⟨_, h'⟩ => dden_any _ y j w ⟨_, _, _, rfl, h'⟩) (fun x1 => ?_)
  refine wInt hU (fun w b ⟨h1, _⟩ => pos_any _ _ j w h1) (fun x2 y2 => ?_)
  refine wInt hU (fun w b ⟨h2, _, h, _⟩ => rimul_any _ _ _ _ k j w h.1 h2 (by omega) (by omega)) (fun x3 y3 => ?_)
  refine wRef hU (fun w b ⟨_, _, _, h, _⟩ => dden_any _ x k w ⟨_, _, _, rfl, h⟩) (fun x4 => ?_)
  refine wInt hU (fun w b ⟨h4, _⟩ => pos_any _ _ k w h4) (fun x5 y5 => ?_)
  refine wInt hU (fun w b ⟨h5, _, _, _, _, _, h'⟩ => rimul_any _ _ _ _ j k w h'.1 h5 (by omega) (by omega)) (fun x6 y6 => ?_)
  refine wVal (v := .int .i64 (cmpQ x y)) (fun w b ⟨h6, _, _, h3, _⟩ => by
    rw [← cmpQ_of]
    exact ricmp_any _ _ _ _ (k + j) (j + k) w h3 h6 (by omega) (by omega)) rfl ?_
  exact wRet fun w b _ => ⟨rfl, b⟩

set_option maxHeartbeats 4000000 in
/-- The law RatAdds holds of every 2 texts. -/
theorem ratAdds_any (a b : ByteArray) (w : World) (hT : Tabs w) (ha : a.size ≤ maxLen) (hb : b.size ≤ maxLen) :
    Calls Tryz.prog 4 #[.string a, .string b] w fun e w' => e = .returned (.bool true) ∧ Below w.heap.size w w' := by
  refine go (fun _ => True) [[.string a], [.string b]] [none, none] (tr := (.em (.call 18 [.s (.c 0 0)] [some 4, some 3, none]) (.em (.call 18 [.s (.c 1 0)] [some 4, some 3, none]) (.em (.pr (.unOp .not 4 (.tmp 0)) 4 [.s (.c 2 7)]) (.cond (.c 4 0) (.em (.call 6 [] [none]) (.ret (.v (.s (.c 5 0))))) (.em (.pr (.unOp .not 4 (.tmp 0)) 4 [.s (.c 3 7)]) (.cond (.c 5 0) (.em (.call 6 [] [none]) (.ret (.v (.s (.c 6 0))))) (.em (.call 6 [] [none]) (.em (.pr (.unOp .not 4 (.tmp 0)) 4 [.s (.c 6 0)]) (.cond (.c 7 0) (.em (.call 6 [] [none]) (.ret (.v (.s (.c 8 0))))) (.em (.call 20 [.g [.c 2 0, .c 2 1, .c 2 2, .c 2 3], .g [.c 3 0, .c 3 1, .c 3 2, .c 3 3]] [some 4]) (.em (.call 21 [.g [.c 2 4, .c 2 5, .c 2 6], .g [.c 3 4, .c 3 5, .c 3 6]] [some 3]) (.em (.call 19 [.g [.c 8 0, .c 8 1, .c 8 2, .c 8 3], .g [.c 9 0, .c 9 1, .c 9 2]] [none]) (.cond (.c 10 0) (.em (.call 22 [.g [.c 2 0, .c 2 1, .c 2 2, .c 2 3], .g [.c 3 0, .c 3 1, .c 3 2, .c 3 3]] [some 4]) (.em (.call 23 [.g [.c 2 4, .c 2 5, .c 2 6], .g [.c 3 4, .c 3 5, .c 3 6]] [some 3]) (.em (.call 19 [.g [.c 11 0, .c 11 1, .c 11 2, .c 11 3], .g [.c 12 0, .c 12 1, .c 12 2]] [none]) (.cond (.c 13 0) (.em (.call 24 [.g [.c 2 0, .c 2 1, .c 2 2, .c 2 3], .g [.c 3 0, .c 3 1, .c 3 2, .c 3 3]] [some 4]) (.em (.call 25 [.g [.c 2 4, .c 2 5, .c 2 6], .g [.c 3 4, .c 3 5, .c 3 6]] [some 3]) (.em (.call 19 [.g [.c 14 0, .c 14 1, .c 14 2, .c 14 3], .g [.c 15 0, .c 15 1, .c 15 2]] [none]) (.cond (.c 16 0) (.em (.call 26 [.g [.c 2 0, .c 2 1, .c 2 2, .c 2 3], .g [.c 3 0, .c 3 1, .c 3 2, .c 3 3]] [none]) (.em (.call 27 [.g [.c 2 4, .c 2 5, .c 2 6], .g [.c 3 4, .c 3 5, .c 3 6]] [none]) (.em (.pr (.binOp .eql 3 (.tmp 0) (.tmp 1) 3) 4 [.s (.c 17 0), .s (.c 18 0)]) (.cond (.c 19 0) (.em (.call 28 [.g [.c 2 0, .c 2 1, .c 2 2, .c 2 3]] [some 4]) (.em (.call 29 [.g [.c 2 4, .c 2 5, .c 2 6]] [some 3]) (.em (.call 19 [.g [.c 20 0, .c 20 1, .c 20 2, .c 20 3], .g [.c 21 0, .c 21 1, .c 21 2]] [none]) (.ret (.v (.s (.c 22 0))))))) (.ret (.v (.s (.k (.bool false))))))))) (.ret (.v (.s (.k (.bool false))))))))) (.ret (.v (.s (.k (.bool false))))))))) (.ret (.v (.s (.k (.bool false))))))))))))))))))) (by kernel_rfl) (by kernel_rfl) (by kernel_rfl) Mono.true trivial ⟨rfl, rfl, trivial⟩ ?_
  by_cases ka : NumQ a
  · refine wBoth (fun w _ _ => numY a w (Nat.le_trans ha maxLen_le') ka) rfl (fun _ _ _ _ _ _ _ => ?_)
    by_cases kb : NumQ b
    · refine wBoth (fun w _ _ => numY b w (Nat.le_trans hb maxLen_le') kb) rfl (fun _ _ _ _ _ _ _ => ?_)
      refine wPr (prNot rfl) rfl ?_
      refine wFalse rfl ?_
      refine wPr (prNot rfl) rfl ?_
      refine wFalse rfl ?_
      refine wVal (fun w b _ => alive3_any w (hT.below b)) rfl ?_
      refine wPr (prNot rfl) rfl ?_
      refine wFalse rfl ?_
      generalize ratVal a = x
      generalize ratVal b = y
      refine wRat (fun w b ⟨hq, _, hp, _⟩ => qadd_any _ _ x y 21 21 w ⟨_, _, _, _, rfl, hp⟩ ⟨_, _, _, _, rfl, hq⟩ (by decide) (by decide)) (fun _ _ _ _ => ?_)
      refine wDQ (fun w b ⟨_, _, hq, _, hp, _⟩ => dadd_any _ _ x y 21 21 w ⟨_, _, _, rfl, hp⟩ ⟨_, _, _, rfl, hq⟩ (by decide) (by decide)) (fun _ _ _ => ?_)
      refine wVal (fun w b ⟨h2, h1, _⟩ => is_any _ _ _ 43 85 w ⟨_, _, _, _, rfl, h1⟩ ⟨_, _, _, rfl, h2⟩ (by decide) (by decide) (hT.below b)) rfl ?_
      refine wTrue rfl ?_
      refine wMono (G := fun w => QB w _ _ _ _ y 21 ∧ DQ w _ _ _ y 21 ∧ QB w _ _ _ _ x 21 ∧ DQ w _ _ _ x 21 ∧ True) ((mQ _ _ _ _ _ _).and ((mD _ _ _ _ _).and ((mQ _ _ _ _ _ _).and ((mD _ _ _ _ _).and Mono.true)))) (fun _ ⟨_, _, h⟩ => h) ?_
      refine wRat (fun w b ⟨hq, _, hp, _⟩ => qsub_any _ _ x y 21 21 w ⟨_, _, _, _, rfl, hp⟩ ⟨_, _, _, _, rfl, hq⟩ (by decide) (by decide)) (fun _ _ _ _ => ?_)
      refine wDQ (fun w b ⟨_, _, hq, _, hp, _⟩ => dsub_any _ _ x y 21 21 w ⟨_, _, _, rfl, hp⟩ ⟨_, _, _, rfl, hq⟩ (by decide) (by decide)) (fun _ _ _ => ?_)
      refine wVal (fun w b ⟨h2, h1, _⟩ => is_any _ _ _ 43 85 w ⟨_, _, _, _, rfl, h1⟩ ⟨_, _, _, rfl, h2⟩ (by decide) (by decide) (hT.below b)) rfl ?_
      refine wTrue rfl ?_
      refine wMono (G := fun w => QB w _ _ _ _ y 21 ∧ DQ w _ _ _ y 21 ∧ QB w _ _ _ _ x 21 ∧ DQ w _ _ _ x 21 ∧ True) ((mQ _ _ _ _ _ _).and ((mD _ _ _ _ _).and ((mQ _ _ _ _ _ _).and ((mD _ _ _ _ _).and Mono.true)))) (fun _ ⟨_, _, h⟩ => h) ?_
      refine wRat (fun w b ⟨hq, _, hp, _⟩ => qmul_any _ _ x y 21 21 w ⟨_, _, _, _, rfl, hp⟩ ⟨_, _, _, _, rfl, hq⟩ (by decide) (by decide)) (fun _ _ _ _ => ?_)
      refine wDQ (fun w b ⟨_, _, hq, _, hp, _⟩ => dmul_any _ _ x y 21 21 w ⟨_, _, _, rfl, hp⟩ ⟨_, _, _, rfl, hq⟩ (by decide) (by decide) (by decide)) (fun _ _ _ => ?_)
      refine wVal (fun w b ⟨h2, h1, _⟩ => is_any _ _ _ 42 42 w ⟨_, _, _, _, rfl, h1⟩ ⟨_, _, _, rfl, h2⟩ (by decide) (by decide) (hT.below b)) rfl ?_
      refine wTrue rfl ?_
      refine wMono (G := fun w => QB w _ _ _ _ y 21 ∧ DQ w _ _ _ y 21 ∧ QB w _ _ _ _ x 21 ∧ DQ w _ _ _ x 21 ∧ True) ((mQ _ _ _ _ _ _).and ((mD _ _ _ _ _).and ((mQ _ _ _ _ _ _).and ((mD _ _ _ _ _).and Mono.true)))) (fun _ ⟨_, _, h⟩ => h) ?_
      refine wVal (fun w b ⟨hq, _, hp, _⟩ => qcmp_any _ _ x y 21 21 w ⟨_, _, _, _, rfl, hp⟩ ⟨_, _, _, _, rfl, hq⟩ (by decide) (by decide)) rfl ?_
      refine wVal (fun w b ⟨_, hq, _, hp, _⟩ => dcmp_any _ _ x y 21 21 w ⟨_, _, _, rfl, hp⟩ ⟨_, _, _, rfl, hq⟩ (by decide) (by decide)) rfl ?_
      refine wPr (prEq rfl rfl) rfl ?_
      refine wTrue (by show Value.bool (_ == _) = _; rw [beq_self_eq_true]) ?_
      refine wRat (fun w b ⟨_, _, hp, _⟩ => qneg_any _ x 21 w ⟨_, _, _, _, rfl, hp⟩ (by decide)) (fun _ _ _ _ => ?_)
      refine wDQ (fun w b ⟨_, _, _, _, hp, _⟩ => dneg_any _ x 21 w ⟨_, _, _, rfl, hp⟩) (fun _ _ _ => ?_)
      refine wVal (fun w b ⟨h2, h1, _⟩ => is_any _ _ _ 21 21 w ⟨_, _, _, _, rfl, h1⟩ ⟨_, _, _, rfl, h2⟩ (by decide) (by decide) (hT.below b)) rfl ?_
      exact wRet fun w b _ => ⟨rfl, b⟩
    · refine wKnown [.bool false, .slice none 0 0, .bool false, .slice none 0 0, .bool false, .slice none 0 0, .slice none 0 0, .bool false] (fun w _ _ => numN b w (Nat.le_trans hb maxLen_le') kb) rfl rfl ?_
      refine wPr (prNot rfl) rfl ?_
      refine wFalse rfl ?_
      refine wPr (prNot rfl) rfl ?_
      refine wTrue rfl ?_
      refine wVal (fun w b _ => alive3_any w (hT.below b)) rfl ?_
      exact wRet fun w b _ => ⟨rfl, b⟩
  · refine wKnown [.bool false, .slice none 0 0, .bool false, .slice none 0 0, .bool false, .slice none 0 0, .slice none 0 0, .bool false] (fun w _ _ => numN a w (Nat.le_trans ha maxLen_le') ka) rfl rfl ?_
    by_cases kb : NumQ b
    · refine wBoth (fun w _ _ => numY b w (Nat.le_trans hb maxLen_le') kb) rfl (fun _ _ _ _ _ _ _ => ?_)
      refine wPr (prNot rfl) rfl ?_
      refine wTrue rfl ?_
      refine wVal (fun w b _ => alive3_any w (hT.below b)) rfl ?_
      exact wRet fun w b _ => ⟨rfl, b⟩
    · refine wKnown [.bool false, .slice none 0 0, .bool false, .slice none 0 0, .bool false, .slice none 0 0, .slice none 0 0, .bool false] (fun w _ _ => numN b w (Nat.le_trans hb maxLen_le') kb) rfl rfl ?_
      refine wPr (prNot rfl) rfl ?_
      refine wTrue rfl ?_
      refine wVal (fun w b _ => alive3_any w (hT.below b)) rfl ?_
      exact wRet fun w b _ => ⟨rfl, b⟩

end Go.Proofs.YtpchnejdbmoicabGreatDoor
