/- The law DyadNear. -/
import Derived.Test.YtipbpjlkanjecaaGreatDoorZ9
namespace Go.Proofs.YtipbpjlkanjecaaGreatDoor
open Go.RowKit Cin

theorem cmpQ_le {x y : Rat} (h : x ≤ y) : cmpQ x y ≤ 0 := by
  unfold cmpQ
  split
  · decide
  · rw [if_neg (Rat.not_lt.2 h)]; decide
theorem cmpQ_ge {x y : Rat} (h : y ≤ x) : 0 ≤ cmpQ x y := by
  unfold cmpQ
  rw [if_neg (Rat.not_lt.2 h)]
  split <;> decide

set_option maxHeartbeats 4000000 in
/-- The law holds of every text and every int. -/
theorem dyadNear_any (a : ByteArray) (i : Int) (w : World) (hT : Tabs w) (ha : a.size ≤ maxLen) (_hi0 : -9223372036854775808 ≤ i) (_hi1 : i < 9223372036854775808) :
    Calls Tryz.prog 7 #[.string a, .int .i64 i] w fun e w' => e = .returned (.bool true) ∧ Below w.heap.size w w' := by
  have hsa := len_le ha
  refine go (fun _ => True) [[.string a], [.int .i64 i]] [none, none] (tr := (.em (.call 27 [.s (.c 0 0)] [some 4, some 3, none]) (.em (.pr (.unOp .not 4 (.tmp 0)) 4 [.s (.c 2 7)]) (.cond (.c 3 0) (.em (.call 11 [] [none]) (.ret (.v (.s (.c 4 0))))) (.em (.call 11 [] [none]) (.em (.pr (.unOp .not 4 (.tmp 0)) 4 [.s (.c 4 0)]) (.cond (.c 5 0) (.em (.call 11 [] [none]) (.ret (.v (.s (.c 6 0))))) (.em (.call 44 [.s (.c 1 0), .s (.k (.int .i64 1)), .s (.k (.int .i64 100))] [none]) (.em (.call 40 [.g [.c 2 0, .c 2 1, .c 2 2, .c 2 3], .s (.c 6 0)] [some 3]) (.em (.call 42 [.g [.c 2 0, .c 2 1, .c 2 2, .c 2 3], .s (.c 6 0)] [some 3]) (.em (.call 16 [.g [.c 7 0, .c 7 1, .c 7 2]] [some 2, none]) (.em (.call 16 [.g [.c 8 0, .c 8 1, .c 8 2]] [some 2, none]) (.em (.call 20 [.g [.c 7 0, .c 7 1, .c 7 2]] [some 4]) (.em (.call 45 [.g [.c 11 0, .c 11 1, .c 11 2, .c 11 3], .g [.c 2 0, .c 2 1, .c 2 2, .c 2 3]] [none]) (.em (.pr (.binOp .leq 3 (.tmp 0) (.const (.int .i64 0)) 3) 4 [.s (.c 12 0), .s (.k (.int .i64 0))]) (.cond (.c 13 0) (.em (.call 20 [.g [.c 8 0, .c 8 1, .c 8 2]] [some 4]) (.em (.call 45 [.g [.c 2 0, .c 2 1, .c 2 2, .c 2 3], .g [.c 14 0, .c 14 1, .c 14 2, .c 14 3]] [none]) (.em (.pr (.binOp .leq 3 (.tmp 0) (.const (.int .i64 0)) 3) 4 [.s (.c 15 0), .s (.k (.int .i64 0))]) (.cond (.c 16 0) (.em (.call 46 [.g [.c 9 0, .c 9 1]] [some 1]) (.em (.call 47 [.g [.c 17 0]] [none]) (.em (.pr (.binOp .leq 3 (.tmp 0) (.tmp 1) 3) 4 [.s (.c 18 0), .s (.c 6 0)]) (.cond (.c 19 0) (.em (.call 46 [.g [.c 10 0, .c 10 1]] [some 1]) (.em (.call 47 [.g [.c 20 0]] [none]) (.em (.pr (.binOp .leq 3 (.tmp 0) (.tmp 1) 3) 4 [.s (.c 21 0), .s (.c 6 0)]) (.cond (.c 22 0) (.em (.call 20 [.g [.c 7 0, .c 7 1, .c 7 2]] [some 4]) (.em (.call 40 [.g [.c 23 0, .c 23 1, .c 23 2, .c 23 3], .s (.c 6 0)] [some 3]) (.em (.call 38 [.g [.c 24 0, .c 24 1, .c 24 2], .g [.c 7 0, .c 7 1, .c 7 2]] [none]) (.em (.pr (.binOp .eql 3 (.tmp 0) (.const (.int .i64 0)) 3) 4 [.s (.c 25 0), .s (.k (.int .i64 0))]) (.cond (.c 26 0) (.em (.call 20 [.g [.c 7 0, .c 7 1, .c 7 2]] [some 4]) (.em (.call 42 [.g [.c 27 0, .c 27 1, .c 27 2, .c 27 3], .s (.c 6 0)] [some 3]) (.em (.call 38 [.g [.c 28 0, .c 28 1, .c 28 2], .g [.c 7 0, .c 7 1, .c 7 2]] [none]) (.em (.pr (.binOp .eql 3 (.tmp 0) (.const (.int .i64 0)) 3) 4 [.s (.c 29 0), .s (.k (.int .i64 0))]) (.ret (.v (.s (.c 30 0)))))))) (.ret (.v (.s (.k (.bool false)))))))))) (.ret (.v (.s (.k (.bool false))))))))) (.ret (.v (.s (.k (.bool false))))))))) (.ret (.v (.s (.k (.bool false))))))))) (.ret (.v (.s (.k (.bool false))))))))))))))))))))) (by kernel_rfl) (by kernel_rfl) (by kernel_rfl) Mono.true trivial ⟨rfl, rfl, trivial⟩ ?_
  by_cases h1 : NumQ a
  · refine wBoth (fun w b _ => numY a w hsa h1) rfl (fun a1 b1 c1 d1 a2 b2 d2 => ?_)
    generalize ratVal a = q
    refine wMono (G := fun w => QB w a1 b1 c1 d1 q 21 ∧ DQ w a2 b2 d2 q 21) ((mQ _ _ _ _ _ _).and (mD _ _ _ _ _)) (fun w h => ⟨h.1, h.2.1⟩) ?_
    refine wPr (prNot rfl) rfl ?_
    refine wFalse rfl ?_
    refine wVal (fun w b _ => alive4_any w (hT.below b)) rfl ?_
    refine wPr (prNot rfl) rfl ?_
    refine wFalse rfl ?_
    have hw := wth_lim i
    refine wVal (fun w b _ => within_any i w) rfl ?_
    generalize wth i = I at *
    obtain ⟨B, hB⟩ := Int.eq_ofNat_of_zero_le (show 0 ≤ I by omega)
    obtain ⟨dl, hdl⟩ := down_ex B q (by omega)
    obtain ⟨du, hdu⟩ := up_ex B q (by omega)
    have sl := down_self hdl.1
    have su := down_self hdl.1.neg
    have ru := hdu.1.neg
    rw [Rat.neg_neg] at ru
    have bl := blOf_le hdl.1.odd
    have bu := blOf_le ru.odd
    have le1 := hdl.2.1
    have le2 := Rat.neg_le_neg hdu.2.1
    rw [Rat.neg_neg, Rat.neg_neg] at le2
    refine wDy (fun w b ⟨h1, _⟩ => ydown_any _ q dl I B 21 w (hT.below b) ⟨_, _, _, _, rfl, h1⟩ (by decide) (by omega) (by omega) (by omega) hdl) (fun x1 y1 => ?_)
    refine wDy (fun w b ⟨_, h1, _⟩ => yup_any _ q du I B 21 w (hT.below b) ⟨_, _, _, _, rfl, h1⟩ (by decide) (by omega) (by omega) (by omega) hdu) (fun x2 y2 => ?_)
    refine wIntV hU (fun w b ⟨_, h, _⟩ => yparts_any _ dl _ _ w ⟨_, _, rfl, h⟩ (by decide)) rfl (fun x3 y3 => ?_)
    refine wIntV hU (fun w b ⟨_, h, _⟩ => yparts_any _ du _ _ w ⟨_, _, rfl, h⟩ (by decide)) rfl (fun x4 y4 => ?_)
    refine wRat (fun w b ⟨_, _, _, h, _⟩ => yrat_any _ dl _ _ w ⟨_, _, rfl, h⟩ (by decide) (by decide)) (fun a5 b5 c5 d5 => ?_)
    refine wVal (fun w b ⟨h5, _, _, _, _, h, _⟩ => qcmp_any _ _ dl q _ 21 w ⟨_, _, _, _, rfl, h5⟩ ⟨_, _, _, _, rfl, h⟩ (by decide) (by decide)) rfl ?_
    refine wPr (prLe rfl rfl) rfl ?_
    refine wTrue (by show Value.bool (decide (cmpQ _ _ ≤ 0)) = _; rw [decide_eq_true (cmpQ_le le1)]) ?_
    refine wRat (fun w b ⟨_, _, _, h, _⟩ => yrat_any _ du _ _ w ⟨_, _, rfl, h⟩ (by decide) (by decide)) (fun a6 b6 c6 d6 => ?_)
    refine wVal (fun w b ⟨h6, _, _, _, _, _, h, _⟩ => qcmp_any _ _ q du 21 _ w ⟨_, _, _, _, rfl, h⟩ ⟨_, _, _, _, rfl, h6⟩ (by decide) (by decide)) rfl ?_
    refine wPr (prLe rfl rfl) rfl ?_
    refine wTrue (by show Value.bool (decide (cmpQ _ _ ≤ 0)) = _; rw [decide_eq_true (cmpQ_le le2)]) ?_
    refine wNat hU (fun w b ⟨_, _, _, h, _⟩ => abs_any _ (oddOf dl) _ w h (by decide)) (fun x7 => ?_)
    refine wVal (fun w b ⟨h, _⟩ => bitsI _ _ _ w h (by decide)) rfl ?_
    refine wPr (prLe rfl rfl) rfl ?_
    refine wTrue (by show Value.bool (decide _) = _; rw [decide_eq_true (by omega)]) ?_
    refine wNat hU (fun w b ⟨_, _, _, h, _⟩ => abs_any _ (oddOf du) _ w h (by decide)) (fun x8 => ?_)
    refine wVal (fun w b ⟨h, _⟩ => bitsI _ _ _ w h (by decide)) rfl ?_
    refine wPr (prLe rfl rfl) rfl ?_
    refine wTrue (by show Value.bool (decide _) = _; rw [decide_eq_true (by omega)]) ?_
    refine wMono (G := fun w => DyQ w x1 y1 dl (2 * 21 + 132) (96 * 21 + 8400)) (mY _ _ _ _ _) (fun w h => h.2.2.2.2.2.2.2.1) ?_
    refine wRat (fun w b h => yrat_any _ dl _ _ w ⟨_, _, rfl, h⟩ (by decide) (by decide)) (fun a9 b9 c9 d9 => ?_)
    refine wDy (fun w b ⟨h, _⟩ => ydown_any _ dl dl I B _ w (hT.below b) ⟨_, _, _, _, rfl, h⟩ (by decide) (by omega) (by omega) (by omega) sl) (fun x10 y10 => ?_)
    refine wVal (fun w b ⟨h, _, h1⟩ => ycmp_any _ _ dl dl _ _ _ _ w ⟨_, _, rfl, h⟩ ⟨_, _, rfl, h1⟩ (by decide) (by decide) (by decide) (by decide)) rfl ?_
    refine wPr (prEq rfl rfl) rfl ?_
    refine wTrue (by show Value.bool (cmpQ _ _ == 0) = _; rw [cmpQ_self]; rfl) ?_
    refine wRat (fun w b ⟨_, _, h⟩ => yrat_any _ dl _ _ w ⟨_, _, rfl, h⟩ (by decide) (by decide)) (fun a11 b11 c11 d11 => ?_)
    refine wDy (fun w b ⟨h, _⟩ => yup_any _ dl dl I B _ w (hT.below b) ⟨_, _, _, _, rfl, h⟩ (by decide) (by omega) (by omega) (by omega) su) (fun x12 y12 => ?_)
    refine wVal (fun w b ⟨h, _, _, _, h1⟩ => ycmp_any _ _ dl dl _ _ _ _ w ⟨_, _, rfl, h⟩ ⟨_, _, rfl, h1⟩ (by decide) (by decide) (by decide) (by decide)) rfl ?_
    refine wPr (prEq rfl rfl) rfl ?_
    exact wRet fun w b _ => ⟨by show Ending.returned (.bool (cmpQ _ _ == 0)) = _; rw [cmpQ_self]; rfl, b⟩
  · refine wKnown [.bool false, .slice none 0 0, .bool false, .slice none 0 0, .bool false, .slice none 0 0, .slice none 0 0, .bool false] (fun w _ _ => numN a w hsa h1) rfl rfl ?_
    refine wPr (prNot rfl) rfl ?_
    refine wTrue rfl ?_
    refine wVal (fun w b _ => alive4_any w (hT.below b)) rfl ?_
    exact wRet fun w b _ => ⟨rfl, b⟩

end Go.Proofs.YtipbpjlkanjecaaGreatDoor
