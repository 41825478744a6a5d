/- The law DyadSteps. -/
import Derived.Test.YtipbpjlkanjecaaGreatDoorZ9
namespace Go.Proofs.YtipbpjlkanjecaaGreatDoor
open Go.RowKit Cin

theorem cmpQ_le' {x y : Rat} (h : x ≤ y) : cmpQ x y ≤ 0 := by
  unfold cmpQ
  split
  · decide
  · rw [if_neg (Rat.not_lt.2 h)]; decide
theorem cmpQ_ge' {x y : Rat} (h : y ≤ x) : 0 ≤ cmpQ x y := by
  unfold cmpQ
  rw [if_neg (Rat.not_lt.2 h)]
  split <;> decide

set_option maxHeartbeats 4000000 in
/-- The law holds of every text and every int. -/
theorem dyadSteps_any (a : ByteArray) (i : Int) (w : World) (hT : Tabs w) (ha : a.size ≤ maxLen) (_hi0 : -9223372036854775808 ≤ i) (_hi1 : i < 9223372036854775808) :
    Calls Tryz.prog 8 #[.string a, .int .i64 i] w fun e w' => e = .returned (.bool true) ∧ Below w.heap.size w w' := by
  have hsa := len_le ha
  refine go (fun _ => True) [[.string a], [.int .i64 i]] [none, none] (tr := (.em (.call 27 [.s (.c 0 0)] [some 4, some 3, none]) (.em (.pr (.unOp .not 4 (.tmp 0)) 4 [.s (.c 2 7)]) (.cond (.c 3 0) (.em (.call 11 [] [none]) (.ret (.v (.s (.c 4 0))))) (.em (.call 11 [] [none]) (.em (.pr (.unOp .not 4 (.tmp 0)) 4 [.s (.c 4 0)]) (.cond (.c 5 0) (.em (.call 11 [] [none]) (.ret (.v (.s (.c 6 0))))) (.em (.call 44 [.s (.c 1 0), .s (.k (.int .i64 1)), .s (.k (.int .i64 100))] [none]) (.em (.call 48 [.g [.c 2 0, .c 2 1, .c 2 2, .c 2 3]] [some 4]) (.em (.call 42 [.g [.c 7 0, .c 7 1, .c 7 2, .c 7 3], .s (.c 6 0)] [some 3]) (.em (.call 40 [.g [.c 2 0, .c 2 1, .c 2 2, .c 2 3], .s (.c 6 0)] [some 3]) (.em (.pr (.binOp .add 3 (.tmp 0) (.const (.int .i64 1)) 3) 3 [.s (.c 6 0), .s (.k (.int .i64 1))]) (.em (.call 40 [.g [.c 2 0, .c 2 1, .c 2 2, .c 2 3], .s (.c 10 0)] [some 3]) (.em (.call 38 [.g [.c 11 0, .c 11 1, .c 11 2], .g [.c 9 0, .c 9 1, .c 9 2]] [none]) (.em (.pr (.binOp .geq 3 (.tmp 0) (.const (.int .i64 0)) 3) 4 [.s (.c 12 0), .s (.k (.int .i64 0))]) (.cond (.c 13 0) (.em (.pr (.binOp .add 3 (.tmp 0) (.const (.int .i64 1)) 3) 3 [.s (.c 6 0), .s (.k (.int .i64 1))]) (.em (.call 42 [.g [.c 2 0, .c 2 1, .c 2 2, .c 2 3], .s (.c 14 0)] [some 3]) (.em (.call 42 [.g [.c 2 0, .c 2 1, .c 2 2, .c 2 3], .s (.c 6 0)] [some 3]) (.em (.call 38 [.g [.c 15 0, .c 15 1, .c 15 2], .g [.c 16 0, .c 16 1, .c 16 2]] [none]) (.em (.pr (.binOp .leq 3 (.tmp 0) (.const (.int .i64 0)) 3) 4 [.s (.c 17 0), .s (.k (.int .i64 0))]) (.cond (.c 18 0) (.em (.call 30 [.g [.c 8 0, .c 8 1, .c 8 2], .g [.c 9 0, .c 9 1, .c 9 2]] [some 3]) (.em (.call 20 [.g [.c 19 0, .c 19 1, .c 19 2]] [some 4]) (.em (.call 49 [.g [.c 20 0, .c 20 1, .c 20 2, .c 20 3]] [none]) (.em (.pr (.binOp .eql 3 (.tmp 0) (.const (.int .i64 0)) 3) 4 [.s (.c 21 0), .s (.k (.int .i64 0))]) (.ret (.v (.s (.c 22 0)))))))) (.ret (.v (.s (.k (.bool false))))))))))) (.ret (.v (.s (.k (.bool false))))))))))))))))))))) (by kernel_rfl) (by kernel_rfl) (by kernel_rfl) Mono.true trivial ⟨rfl, rfl, trivial⟩ ?_
  by_cases h1 : NumQ a
  · refine wBoth (fun w b _ => numY a w hsa h1) rfl (fun a1 b1 c1 d1 a2 b2 d2 => ?_)
    generalize ratVal a = q
    refine wMono (G := fun w => QB w a1 b1 c1 d1 q 21 ∧ DQ w a2 b2 d2 q 21) ((mQ _ _ _ _ _ _).and (mD _ _ _ _ _)) (fun w h => ⟨h.1, h.2.1⟩) ?_
    refine wPr (prNot rfl) rfl ?_
    refine wFalse rfl ?_
    refine wVal (fun w b _ => alive4_any w (hT.below b)) rfl ?_
    refine wPr (prNot rfl) rfl ?_
    refine wFalse rfl ?_
    have hw := wth_lim i
    refine wVal (fun w b _ => within_any i w) rfl ?_
    generalize wth i = I at *
    obtain ⟨B, hB⟩ := Int.eq_ofNat_of_zero_le (show 0 ≤ I by omega)
    obtain ⟨dl, hdl⟩ := down_ex B q (by omega)
    obtain ⟨du, hdu⟩ := up_ex B q (by omega)
    obtain ⟨dl1, hdl1⟩ := down_ex (B + 1) q (by omega)
    obtain ⟨du1, hdu1⟩ := up_ex (B + 1) q (by omega)
    have le1 := hdl1.2.2 dl (hdl.1.mono (by omega)) hdl.2.1
    have le2 := Rat.neg_le_neg (hdu1.2.2 (-du) (hdu.1.mono (by omega)) hdu.2.1)
    rw [Rat.neg_neg, Rat.neg_neg] at le2
    refine wRat (fun w b ⟨h, _⟩ => qneg_any _ q 21 w ⟨_, _, _, _, rfl, h⟩ (by decide)) (fun a0 b0 c0 d0 => ?_)
    refine wDy (fun w b ⟨h1, _⟩ => yup_any _ (-q) (-dl) I B 21 w (hT.below b) ⟨_, _, _, _, rfl, h1⟩ (by decide) (by omega) (by omega) (by omega) (by rw [Rat.neg_neg, Rat.neg_neg]; exact hdl)) (fun x1 y1 => ?_)
    refine wDy (fun w b ⟨_, _, h1, _⟩ => ydown_any _ q dl I B 21 w (hT.below b) ⟨_, _, _, _, rfl, h1⟩ (by decide) (by omega) (by omega) (by omega) hdl) (fun x2 y2 => ?_)
    refine wPr (prAddI rfl rfl (by show _ ≤ I + (1 : Int); omega) (by show I + (1 : Int) ≤ _; omega)) rfl ?_
    refine wDy (fun w b ⟨_, _, _, h1, _⟩ => ydown_any _ q dl1 (I + 1) (B + 1) 21 w (hT.below b) ⟨_, _, _, _, rfl, h1⟩ (by decide) (by omega) (by omega) (by omega) hdl1) (fun x3 y3 => ?_)
    refine wVal (fun w b ⟨h3, h2, _⟩ => ycmp_any _ _ dl1 dl _ _ _ _ w ⟨_, _, rfl, h3⟩ ⟨_, _, rfl, h2⟩ (by decide) (by decide) (by decide) (by decide)) rfl ?_
    refine wPr (prGe rfl rfl) rfl ?_
    refine wTrue (by show Value.bool (decide (0 ≤ cmpQ _ _)) = _; rw [decide_eq_true (cmpQ_ge' le1)]) ?_
    refine wPr (prAddI rfl rfl (by show _ ≤ I + (1 : Int); omega) (by show I + (1 : Int) ≤ _; omega)) rfl ?_
    refine wDy (fun w b ⟨_, _, _, _, h1, _⟩ => yup_any _ q du1 (I + 1) (B + 1) 21 w (hT.below b) ⟨_, _, _, _, rfl, h1⟩ (by decide) (by omega) (by omega) (by omega) hdu1) (fun x4 y4 => ?_)
    refine wDy (fun w b ⟨_, _, _, _, _, h1, _⟩ => yup_any _ q du I B 21 w (hT.below b) ⟨_, _, _, _, rfl, h1⟩ (by decide) (by omega) (by omega) (by omega) hdu) (fun x5 y5 => ?_)
    refine wVal (fun w b ⟨h5, h4, _⟩ => ycmp_any _ _ du1 du _ _ _ _ w ⟨_, _, rfl, h4⟩ ⟨_, _, rfl, h5⟩ (by decide) (by decide) (by decide) (by decide)) rfl ?_
    refine wPr (prLe rfl rfl) rfl ?_
    refine wTrue (by show Value.bool (decide (cmpQ _ _ ≤ 0)) = _; rw [decide_eq_true (cmpQ_le' le2)]) ?_
    refine wDy (q := 0) (fun w b ⟨_, _, _, h2, h1, _⟩ => by
      have := yadd_any _ _ (-dl) dl _ _ _ _ w (hT.below b) ⟨_, _, rfl, h1⟩ ⟨_, _, rfl, h2⟩ (by decide) (by decide) (by decide) (by decide)
      rw [Rat.neg_add_cancel] at this
      exact this) (fun x6 y6 => ?_)
    refine wRat (fun w b ⟨h, _⟩ => yrat_any _ 0 _ _ w ⟨_, _, rfl, h⟩ (by decide) (by decide)) (fun a7 b7 c7 d7 => ?_)
    refine wVal (fun w b ⟨h, _⟩ => qsign_any _ 0 _ w ⟨_, _, _, _, rfl, h⟩ (by decide)) rfl ?_
    refine wPr (prEq rfl rfl) rfl ?_
    exact wRet fun w b _ => ⟨rfl, b⟩
  · refine wKnown [.bool false, .slice none 0 0, .bool false, .slice none 0 0, .bool false, .slice none 0 0, .slice none 0 0, .bool false] (fun w _ _ => numN a w hsa h1) rfl rfl ?_
    refine wPr (prNot rfl) rfl ?_
    refine wTrue rfl ?_
    refine wVal (fun w b _ => alive4_any w (hT.below b)) rfl ?_
    exact wRet fun w b _ => ⟨rfl, b⟩

end Go.Proofs.YtipbpjlkanjecaaGreatDoor
