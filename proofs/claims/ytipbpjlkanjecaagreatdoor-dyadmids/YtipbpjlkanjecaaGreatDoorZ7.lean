/- The law DyadMids. -/
import Derived.Test.YtipbpjlkanjecaaGreatDoorYx
namespace Go.Proofs.YtipbpjlkanjecaaGreatDoor
open Go.RowKit Cin

theorem mid_same (x y : Rat) : (x + y) / 2 - x = y - (x + y) / 2 := by grind
theorem mid_left (x y : Rat) : cmpQ x ((x + y) / 2) = cmpQ x y := by unfold cmpQ; grind
theorem mid_right (x y : Rat) : cmpQ ((x + y) / 2) y = cmpQ x y := by unfold cmpQ; grind

set_option maxHeartbeats 4000000 in
/-- The law holds of every two texts. -/
theorem dyadMids_any (a b : ByteArray) (w : World) (hT : Tabs w) (ha : a.size ≤ maxLen) (hb : b.size ≤ maxLen) :
    Calls Tryz.prog 9 #[.string a, .string b] w fun e w' => e = .returned (.bool true) ∧ Below w.heap.size w w' := by
  have hsa := len_le ha
  have hsb := len_le hb
  refine go (fun _ => True) [[.string a], [.string b]] [none, none] (tr := (.em (.call 29 [.s (.c 0 0)] [some 3, some 3, none]) (.em (.call 29 [.s (.c 1 0)] [some 3, some 3, none]) (.em (.pr (.unOp .not 4 (.tmp 0)) 4 [.s (.c 2 6)]) (.cond (.c 4 0) (.em (.call 11 [] [none]) (.ret (.v (.s (.c 5 0))))) (.em (.pr (.unOp .not 4 (.tmp 0)) 4 [.s (.c 3 6)]) (.cond (.c 5 0) (.em (.call 11 [] [none]) (.ret (.v (.s (.c 6 0))))) (.em (.call 11 [] [none]) (.em (.pr (.unOp .not 4 (.tmp 0)) 4 [.s (.c 6 0)]) (.cond (.c 7 0) (.em (.call 11 [] [none]) (.ret (.v (.s (.c 8 0))))) (.em (.call 36 [.g [.c 2 0, .c 2 1, .c 2 2], .g [.c 3 0, .c 3 1, .c 3 2]] [some 3]) (.em (.call 38 [.g [.c 2 0, .c 2 1, .c 2 2], .g [.c 3 0, .c 3 1, .c 3 2]] [none]) (.em (.call 32 [.g [.c 8 0, .c 8 1, .c 8 2], .g [.c 2 0, .c 2 1, .c 2 2]] [some 3]) (.em (.call 32 [.g [.c 3 0, .c 3 1, .c 3 2], .g [.c 8 0, .c 8 1, .c 8 2]] [some 3]) (.em (.call 38 [.g [.c 10 0, .c 10 1, .c 10 2], .g [.c 11 0, .c 11 1, .c 11 2]] [none]) (.em (.pr (.binOp .eql 3 (.tmp 0) (.const (.int .i64 0)) 3) 4 [.s (.c 12 0), .s (.k (.int .i64 0))]) (.cond (.c 13 0) (.em (.call 38 [.g [.c 2 0, .c 2 1, .c 2 2], .g [.c 8 0, .c 8 1, .c 8 2]] [none]) (.em (.pr (.binOp .eql 3 (.tmp 0) (.tmp 1) 3) 4 [.s (.c 14 0), .s (.c 9 0)]) (.cond (.c 15 0) (.em (.call 38 [.g [.c 8 0, .c 8 1, .c 8 2], .g [.c 3 0, .c 3 1, .c 3 2]] [none]) (.em (.pr (.binOp .eql 3 (.tmp 0) (.tmp 1) 3) 4 [.s (.c 16 0), .s (.c 9 0)]) (.ret (.v (.s (.c 17 0)))))) (.ret (.v (.s (.k (.bool false)))))))) (.ret (.v (.s (.k (.bool false)))))))))))))))))))))) (by kernel_rfl) (by kernel_rfl) (by kernel_rfl) Mono.true trivial ⟨rfl, rfl, trivial⟩ ?_
  by_cases h1 : NumD a
  · refine wYD (fun w b _ => numDY a w (hT.below b) hsa h1) rfl (fun a1 b1 a2 b2 d2 => ?_)
    by_cases h2 : NumD b
    · refine wYD (fun w _ _ => numDY b w (hT.below ‹_›) hsb h2) rfl (fun a3 b3 a4 b4 d4 => ?_)
      generalize ratVal a = x
      generalize ratVal b = y
      refine wMono (G := fun w => DyQ w a1 b1 x 21 672 ∧ DQ w a2 b2 d2 x 21 ∧ DyQ w a3 b3 y 21 672 ∧ DQ w a4 b4 d4 y 21) ((mY _ _ _ _ _).and ((mD _ _ _ _ _).and ((mY _ _ _ _ _).and (mD _ _ _ _ _)))) (fun w ⟨h3, h4, h1, h2, _⟩ => ⟨h1, h2, h3, h4⟩) ?_
      refine wPr (prNot rfl) rfl ?_
      refine wFalse rfl ?_
      refine wPr (prNot rfl) rfl ?_
      refine wFalse rfl ?_
      refine wVal (fun w b _ => alive4_any w (hT.below b)) rfl ?_
      refine wPr (prNot rfl) rfl ?_
      refine wFalse rfl ?_
      refine wDy (fun w b ⟨h1, _, h3, _⟩ => ymid_any _ _ x y 21 672 21 672 w (hT.below b) ⟨_, _, rfl, h1⟩ ⟨_, _, rfl, h3⟩ (by decide) (by decide) (by decide) (by decide)) (fun x5 y5 => ?_)
      refine wVal (fun w b ⟨_, h1, _, h3, _⟩ => ycmp_any _ _ x y 21 672 21 672 w ⟨_, _, rfl, h1⟩ ⟨_, _, rfl, h3⟩ (by decide) (by decide) (by decide) (by decide)) rfl ?_
      refine wDy (fun w b ⟨hm, h1, _⟩ => ysub_any _ _ ((x + y) / 2) x _ _ 21 672 w (hT.below b) ⟨_, _, rfl, hm⟩ ⟨_, _, rfl, h1⟩ (by decide) (by decide) (by decide) (by decide)) (fun x6 y6 => ?_)
      refine wDy (fun w b ⟨_, hm, _, _, h3, _⟩ => ysub_any _ _ y ((x + y) / 2) 21 672 _ _ w (hT.below b) ⟨_, _, rfl, h3⟩ ⟨_, _, rfl, hm⟩ (by decide) (by decide) (by decide) (by decide)) (fun x7 y7 => ?_)
      refine wVal (fun w b ⟨h7, h6, _⟩ => ycmp_any _ _ _ _ _ _ _ _ w ⟨_, _, rfl, h6⟩ ⟨_, _, rfl, h7⟩ (by decide) (by decide) (by decide) (by decide)) rfl ?_
      refine wPr (prEq rfl rfl) rfl ?_
      refine wTrue (by show Value.bool (cmpQ _ _ == 0) = _; rw [mid_same, cmpQ_self]; rfl) ?_
      refine wVal (fun w b ⟨_, _, hm, h1, _⟩ => ycmp_any _ _ x ((x + y) / 2) 21 672 _ _ w ⟨_, _, rfl, h1⟩ ⟨_, _, rfl, hm⟩ (by decide) (by decide) (by decide) (by decide)) rfl ?_
      refine wPr (prEq rfl rfl) rfl ?_
      refine wTrue (by show Value.bool (cmpQ _ _ == cmpQ _ _) = _; rw [mid_left, beq_self_eq_true]) ?_
      refine wVal (fun w b ⟨_, _, hm, _, _, h3, _⟩ => ycmp_any _ _ ((x + y) / 2) y _ _ 21 672 w ⟨_, _, rfl, hm⟩ ⟨_, _, rfl, h3⟩ (by decide) (by decide) (by decide) (by decide)) rfl ?_
      refine wPr (prEq rfl rfl) rfl ?_
      exact wRet fun w b _ => ⟨by show Ending.returned (.bool (cmpQ _ _ == cmpQ _ _)) = _; rw [mid_right, beq_self_eq_true], b⟩
    · refine wKnown ZeroD (fun w _ _ => numDN b w hsb h2) rfl rfl ?_
      refine wPr (prNot rfl) rfl ?_
      refine wFalse rfl ?_
      refine wPr (prNot rfl) rfl ?_
      refine wTrue rfl ?_
      refine wVal (fun w b _ => alive4_any w (hT.below b)) rfl ?_
      exact wRet fun w b _ => ⟨rfl, b⟩
  · refine wKnown ZeroD (fun w _ _ => numDN a w hsa h1) rfl rfl ?_
    by_cases h2 : NumD b
    · refine wYD (fun w _ _ => numDY b w (hT.below ‹_›) hsb h2) rfl (fun a3 b3 a4 b4 d4 => ?_)
      refine wPr (prNot rfl) rfl ?_
      refine wTrue rfl ?_
      refine wVal (fun w b _ => alive4_any w (hT.below b)) rfl ?_
      exact wRet fun w b _ => ⟨rfl, b⟩
    · refine wKnown ZeroD (fun w _ _ => numDN b w hsb h2) rfl rfl ?_
      refine wPr (prNot rfl) rfl ?_
      refine wTrue rfl ?_
      refine wVal (fun w b _ => alive4_any w (hT.below b)) rfl ?_
      exact wRet fun w b _ => ⟨rfl, b⟩

end Go.Proofs.YtipbpjlkanjecaaGreatDoor
