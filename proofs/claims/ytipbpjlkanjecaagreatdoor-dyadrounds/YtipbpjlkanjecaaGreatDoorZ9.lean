/- The law DyadRounds; what the laws of rounding have in common. -/
import Derived.Test.YtipbpjlkanjecaaGreatDoorYx
namespace Go.Proofs.YtipbpjlkanjecaaGreatDoor
open Go.RowKit Cin

theorem up_ex (b : Nat) (a : Rat) (hb : 1 ≤ b) : ∃ d, IsDown b (-a) (-d) := by
  obtain ⟨d, h⟩ := down_ex b (-a) hb
  exact ⟨-d, by rw [Rat.neg_neg]; exact h⟩
section prims
variable {P : Program} {t t2 ty : TypeId} {vs : List Value} {p q : Operand} {x y : Int}
theorem prAddE {z : Int} (hp : pe vs p = .int .i64 x) (hq : pe vs q = .int .i64 y) (h : x + y = z) (h0 : -9223372036854775808 ≤ z) (h1 : z ≤ 9223372036854775807) : PrimOk P (.binOp .add t p q t2) ty vs (.int .i64 z) := by subst h; exact prAddI hp hq h0 h1
end prims
theorem tmod_lim (i : Int) {n : Int} (h : 0 < n) : -n < i.tmod n ∧ i.tmod n < n := ⟨Int.lt_tmod_of_pos i h, Int.tmod_lt_of_pos i h⟩
def wth (i : Int) : Int := if i.tmod 100 < 0 then 1 + (i.tmod 100 + 100) else 1 + i.tmod 100
theorem wth_lim (i : Int) : 1 ≤ wth i ∧ wth i ≤ 100 := by
  have := tmod_lim i (n := 100) (by decide)
  unfold wth
  split <;> omega

/-- Within: a number from 1 to 100. -/
theorem within_any (i : Int) (w : World) : Calls Tryz.prog 44 #[.int .i64 i, .int .i64 1, .int .i64 100] w fun r w' => r = .returned (.int .i64 (wth i)) ∧ Below w.heap.size w w' := by
  have hm := tmod_lim i (n := 100) (by decide)
  refine go (fun _ => True) [[.int .i64 i], [.int .i64 1], [.int .i64 100]] [none, none, none] (tr := (.em (.pr (.binOp .sub 3 (.tmp 0) (.tmp 1) 3) 3 [.s (.c 2 0), .s (.c 1 0)]) (.em (.pr (.binOp .add 3 (.tmp 0) (.const (.int .i64 1)) 3) 3 [.s (.c 3 0), .s (.k (.int .i64 1))]) (.em (.pr (.binOp .rem 3 (.tmp 0) (.tmp 1) 3) 3 [.s (.c 0 0), .s (.c 4 0)]) (.em (.pr (.binOp .lss 3 (.tmp 0) (.const (.int .i64 0)) 3) 4 [.s (.c 5 0), .s (.k (.int .i64 0))]) (.cond (.c 6 0) (.em (.pr (.binOp .sub 3 (.tmp 0) (.tmp 1) 3) 3 [.s (.c 2 0), .s (.c 1 0)]) (.em (.pr (.binOp .add 3 (.tmp 0) (.const (.int .i64 1)) 3) 3 [.s (.c 7 0), .s (.k (.int .i64 1))]) (.em (.pr (.binOp .add 3 (.tmp 0) (.tmp 1) 3) 3 [.s (.c 5 0), .s (.c 8 0)]) (.em (.pr (.binOp .add 3 (.tmp 0) (.tmp 1) 3) 3 [.s (.c 1 0), .s (.c 9 0)]) (.ret (.v (.s (.c 10 0)))))))) (.em (.pr (.binOp .add 3 (.tmp 0) (.tmp 1) 3) 3 [.s (.c 1 0), .s (.c 5 0)]) (.ret (.v (.s (.c 7 0))))))))))) (by kernel_rfl) (by kernel_rfl) (by kernel_rfl) Mono.true trivial ⟨rfl, rfl, rfl, trivial⟩ ?_
  refine wPr (prSubE (z := 99) rfl rfl (by decide) (by decide) (by decide)) rfl ?_
  refine wPr (prAddE (z := 100) rfl rfl (by decide) (by decide) (by decide)) rfl ?_
  refine wPr (prRemI rfl rfl (by decide)) rfl ?_
  refine wPr (prLt rfl rfl) rfl ?_
  refine wIf _ rfl (fun e => ?_) (fun e => ?_)
  · have e1 : i.tmod 100 < 0 := by simpa using e
    refine wPr (prSubE (z := 99) rfl rfl (by decide) (by decide) (by decide)) rfl ?_
    refine wPr (prAddE (z := 100) rfl rfl (by decide) (by decide) (by decide)) rfl ?_
    refine wPr (prAddE (z := i.tmod 100 + 100) rfl rfl rfl (by omega) (by omega)) rfl ?_
    refine wPr (prAddE (z := wth i) rfl rfl (by unfold wth; rw [if_pos e1]) (by have := wth_lim i; omega) (by have := wth_lim i; omega)) rfl ?_
    exact wRet fun w b _ => ⟨rfl, b⟩
  · have e1 : ¬ i.tmod 100 < 0 := by simpa using e
    refine wPr (prAddE (z := wth i) rfl rfl (by unfold wth; rw [if_neg e1]) (by have := wth_lim i; omega) (by have := wth_lim i; omega)) rfl ?_
    exact wRet fun w b _ => ⟨rfl, b⟩

set_option maxHeartbeats 4000000 in
/-- The law holds of every text and every int. -/
theorem dyadRounds_any (a : ByteArray) (i : Int) (w : World) (hT : Tabs w) (ha : a.size ≤ maxLen) (hi0 : -9223372036854775808 ≤ i) (hi1 : i < 9223372036854775808) :
    Calls Tryz.prog 6 #[.string a, .int .i64 i] w fun e w' => e = .returned (.bool true) ∧ Below w.heap.size w w' := by
  have hsa := len_le ha
  refine go (fun _ => True) [[.string a], [.int .i64 i]] [none, none] (tr := (.em (.call 27 [.s (.c 0 0)] [some 4, some 3, none]) (.em (.pr (.unOp .not 4 (.tmp 0)) 4 [.s (.c 2 7)]) (.cond (.c 3 0) (.em (.call 11 [] [none]) (.ret (.v (.s (.c 4 0))))) (.em (.call 11 [] [none]) (.em (.pr (.unOp .not 4 (.tmp 0)) 4 [.s (.c 4 0)]) (.cond (.c 5 0) (.em (.call 11 [] [none]) (.ret (.v (.s (.c 6 0))))) (.em (.pr (.binOp .gtr 3 (.tmp 0) (.const (.int .i64 200)) 3) 4 [.s (.c 1 0), .s (.k (.int .i64 200))]) (.cond (.c 6 0) (.em (.call 40 [.g [.c 2 0, .c 2 1, .c 2 2, .c 2 3], .s (.k (.int .i64 200))] [some 3]) (.em (.call 15 [.g [.c 7 0, .c 7 1, .c 7 2]] [none]) (.em (.call 41 [.g [.c 2 4, .c 2 5, .c 2 6], .s (.k (.int .i64 200))] [some 3]) (.em (.call 25 [.g [.c 9 0, .c 9 1, .c 9 2]] [none]) (.em (.pr (.binOp .eql 9 (.tmp 0) (.tmp 1) 9) 4 [.s (.c 8 0), .s (.c 10 0)]) (.cond (.c 11 0) (.em (.call 42 [.g [.c 2 0, .c 2 1, .c 2 2, .c 2 3], .s (.k (.int .i64 200))] [some 3]) (.em (.call 15 [.g [.c 12 0, .c 12 1, .c 12 2]] [none]) (.em (.call 43 [.g [.c 2 4, .c 2 5, .c 2 6], .s (.k (.int .i64 200))] [some 3]) (.em (.call 25 [.g [.c 14 0, .c 14 1, .c 14 2]] [none]) (.em (.pr (.binOp .eql 9 (.tmp 0) (.tmp 1) 9) 4 [.s (.c 13 0), .s (.c 15 0)]) (.ret (.v (.s (.c 16 0))))))))) (.ret (.v (.s (.k (.bool false))))))))))) (.em (.call 40 [.g [.c 2 0, .c 2 1, .c 2 2, .c 2 3], .s (.c 1 0)] [some 3]) (.em (.call 15 [.g [.c 7 0, .c 7 1, .c 7 2]] [none]) (.em (.call 41 [.g [.c 2 4, .c 2 5, .c 2 6], .s (.c 1 0)] [some 3]) (.em (.call 25 [.g [.c 9 0, .c 9 1, .c 9 2]] [none]) (.em (.pr (.binOp .eql 9 (.tmp 0) (.tmp 1) 9) 4 [.s (.c 8 0), .s (.c 10 0)]) (.cond (.c 11 0) (.em (.call 42 [.g [.c 2 0, .c 2 1, .c 2 2, .c 2 3], .s (.c 1 0)] [some 3]) (.em (.call 15 [.g [.c 12 0, .c 12 1, .c 12 2]] [none]) (.em (.call 43 [.g [.c 2 4, .c 2 5, .c 2 6], .s (.c 1 0)] [some 3]) (.em (.call 25 [.g [.c 14 0, .c 14 1, .c 14 2]] [none]) (.em (.pr (.binOp .eql 9 (.tmp 0) (.tmp 1) 9) 4 [.s (.c 13 0), .s (.c 15 0)]) (.ret (.v (.s (.c 16 0))))))))) (.ret (.v (.s (.k (.bool false)))))))))))))))))))) (by kernel_rfl) (by kernel_rfl) (by kernel_rfl) Mono.true trivial ⟨rfl, rfl, trivial⟩ ?_
  by_cases h1 : NumQ a
  · refine wBoth (fun w b _ => numY a w hsa h1) rfl (fun a1 b1 c1 d1 a2 b2 d2 => ?_)
    generalize ratVal a = q
    refine wMono (G := fun w => QB w a1 b1 c1 d1 q 21 ∧ DQ w a2 b2 d2 q 21) ((mQ _ _ _ _ _ _).and (mD _ _ _ _ _)) (fun w h => ⟨h.1, h.2.1⟩) ?_
    refine wPr (prNot rfl) rfl ?_
    refine wFalse rfl ?_
    refine wVal (fun w b _ => alive4_any w (hT.below b)) rfl ?_
    refine wPr (prNot rfl) rfl ?_
    refine wFalse rfl ?_
    refine wPr (prGt rfl rfl) rfl ?_
    refine wIf _ rfl (fun e => ?_) (fun e => ?_)
    · obtain ⟨dl, hdl⟩ := down_ex 200 q (by omega)
      obtain ⟨du, hdu⟩ := up_ex 200 q (by omega)
      refine wDy (fun w b ⟨h1, _⟩ => ydown_any _ q dl 200 200 21 w (hT.below b) ⟨_, _, _, _, rfl, h1⟩ (by decide) (by omega) (by omega) (by decide) hdl) (fun x1 y1 => ?_)
      refine wVal (fun w b ⟨h, _⟩ => ytext_any _ _ _ _ w (hT.below b) ⟨_, _, rfl, h⟩ (by decide) (by decide)) rfl ?_
      refine wDQ (fun w b ⟨_, _, h2⟩ => ddown_any _ q dl 200 21 w ⟨_, _, _, rfl, h2⟩ (by decide) (by decide) (by omega) (by omega) 200 (by decide) hdl) (fun _ _ _ => ?_)
      refine wVal (fun w b ⟨h, _⟩ => dtext_any _ _ _ w ⟨_, _, _, rfl, h⟩ (by decide)) rfl ?_
      refine wPr (prSEq rfl rfl) rfl ?_
      refine wTrue (by show Value.bool (_ == _) = _; rw [beq_self_eq_true]) ?_
      refine wDy (fun w b ⟨_, _, h1, _⟩ => yup_any _ q du 200 200 21 w (hT.below b) ⟨_, _, _, _, rfl, h1⟩ (by decide) (by omega) (by omega) (by decide) hdu) (fun x1 y1 => ?_)
      refine wVal (fun w b ⟨h, _⟩ => ytext_any _ _ _ _ w (hT.below b) ⟨_, _, rfl, h⟩ (by decide) (by decide)) rfl ?_
      refine wDQ (fun w b ⟨_, _, _, _, h2⟩ => dup_any _ q du 200 21 w ⟨_, _, _, rfl, h2⟩ (by decide) (by decide) (by omega) (by omega) 200 (by decide) hdu) (fun _ _ _ => ?_)
      refine wVal (fun w b ⟨h, _⟩ => dtext_any _ _ _ w ⟨_, _, _, rfl, h⟩ (by decide)) rfl ?_
      refine wPr (prSEq rfl rfl) rfl ?_
      exact wRet fun w b _ => ⟨by show Ending.returned (.bool (_ == _)) = _; rw [beq_self_eq_true], b⟩
    · have e1 : ¬ 200 < i := by simpa using e
      obtain ⟨B, hB⟩ := Int.eq_ofNat_of_zero_le (show 0 ≤ max i 1 by omega)
      obtain ⟨dl, hdl⟩ := down_ex B q (by omega)
      obtain ⟨du, hdu⟩ := up_ex B q (by omega)
      refine wDy (fun w b ⟨h1, _⟩ => ydown_any _ q dl i B 21 w (hT.below b) ⟨_, _, _, _, rfl, h1⟩ (by decide) (by omega) (by omega) (by omega) hdl) (fun x1 y1 => ?_)
      refine wVal (fun w b ⟨h, _⟩ => ytext_any _ _ _ _ w (hT.below b) ⟨_, _, rfl, h⟩ (by decide) (by decide)) rfl ?_
      refine wDQ (fun w b ⟨_, _, h2⟩ => ddown_any _ q dl B 21 w ⟨_, _, _, rfl, h2⟩ (by decide) (by decide) (by omega) (by omega) i (by omega) hdl) (fun _ _ _ => ?_)
      refine wVal (fun w b ⟨h, _⟩ => dtext_any _ _ _ w ⟨_, _, _, rfl, h⟩ (by decide)) rfl ?_
      refine wPr (prSEq rfl rfl) rfl ?_
      refine wTrue (by show Value.bool (_ == _) = _; rw [beq_self_eq_true]) ?_
      refine wDy (fun w b ⟨_, _, h1, _⟩ => yup_any _ q du i B 21 w (hT.below b) ⟨_, _, _, _, rfl, h1⟩ (by decide) (by omega) (by omega) (by omega) hdu) (fun x1 y1 => ?_)
      refine wVal (fun w b ⟨h, _⟩ => ytext_any _ _ _ _ w (hT.below b) ⟨_, _, rfl, h⟩ (by decide) (by decide)) rfl ?_
      refine wDQ (fun w b ⟨_, _, _, _, h2⟩ => dup_any _ q du B 21 w ⟨_, _, _, rfl, h2⟩ (by decide) (by decide) (by omega) (by omega) i (by omega) hdu) (fun _ _ _ => ?_)
      refine wVal (fun w b ⟨h, _⟩ => dtext_any _ _ _ w ⟨_, _, _, rfl, h⟩ (by decide)) rfl ?_
      refine wPr (prSEq rfl rfl) rfl ?_
      exact wRet fun w b _ => ⟨by show Ending.returned (.bool (_ == _)) = _; rw [beq_self_eq_true], b⟩
  · refine wKnown [.bool false, .slice none 0 0, .bool false, .slice none 0 0, .bool false, .slice none 0 0, .slice none 0 0, .bool false] (fun w _ _ => numN a w hsa h1) rfl rfl ?_
    refine wPr (prNot rfl) rfl ?_
    refine wTrue rfl ?_
    refine wVal (fun w b _ => alive4_any w (hT.below b)) rfl ?_
    exact wRet fun w b _ => ⟨rfl, b⟩

end Go.Proofs.YtipbpjlkanjecaaGreatDoor
