/- The law DyadNews. -/
import Derived.Test.YtipbpjlkanjecaaGreatDoorYx
namespace Go.Proofs.YtipbpjlkanjecaaGreatDoor
open Go.RowKit Cin

theorem tmod_lim (i : Int) {n : Int} (h : 0 < n) : -n < i.tmod n ∧ i.tmod n < n := ⟨Int.lt_tmod_of_pos i h, Int.tmod_lt_of_pos i h⟩

set_option maxHeartbeats 4000000 in
/-- The law holds of every two texts and every int. -/
theorem dyadNews_any (a : ByteArray) (i : Int) (c : ByteArray) (w : World) (hT : Tabs w) (_ha : a.size ≤ maxLen) (hi0 : -9223372036854775808 ≤ i) (hi1 : i < 9223372036854775808) (hc : c.size ≤ maxLen) :
    Calls Tryz.prog 4 #[.string a, .int .i64 i, .string c] w fun e w' => e = .returned (.bool true) ∧ Below w.heap.size w w' := by
  have hsc := len_le hc
  refine go (fun _ => True) [[.string a], [.int .i64 i], [.string c]] [none, none, none] (tr := (.em (.call 11 [] [none]) (.em (.pr (.unOp .not 4 (.tmp 0)) 4 [.s (.c 3 0)]) (.cond (.c 4 0) (.ret (.v (.s (.k (.bool false))))) (.em (.call 22 [.s (.c 0 0)] [some 2, none]) (.em (.call 23 [.s (.c 0 0)] [some 2, none]) (.em (.pr (.unOp .not 4 (.tmp 0)) 4 [.s (.c 5 2)]) (.cond (.c 7 0) (.ret (.v (.s (.k (.bool true))))) (.em (.pr (.binOp .neq 30 (.tmp 0) (.const (.int .i64 0)) 30) 4 [.s (.c 6 2), .s (.k (.int .i64 0))]) (.cond (.c 8 0) (.ret (.v (.s (.k (.bool true))))) (.em (.pr (.call (.mk (.builtin .len) #[.tmp 0] #[9])) 3 [.s (.c 0 0)]) (.em (.pr (.binOp .gtr 3 (.tmp 0) (.const (.int .i64 60)) 3) 4 [.s (.c 9 0), .s (.k (.int .i64 60))]) (.cond (.c 10 0) (.ret (.v (.s (.k (.bool true))))) (.em (.pr (.binOp .gtr 3 (.tmp 0) (.const (.int .i64 300)) 3) 4 [.s (.c 1 0), .s (.k (.int .i64 300))]) (.cond (.c 11 0) (.em (.pr (.binOp .rem 3 (.tmp 0) (.const (.int .i64 300)) 3) 3 [.s (.c 1 0), .s (.k (.int .i64 300))]) (.em (.call 24 [.g [.c 6 0, .c 6 1], .s (.c 12 0)] [some 3]) (.em (.call 15 [.g [.c 13 0, .c 13 1, .c 13 2]] [none]) (.em (.call 26 [.g [.c 5 0, .c 5 1], .s (.c 12 0)] [some 3]) (.em (.call 25 [.g [.c 15 0, .c 15 1, .c 15 2]] [none]) (.em (.pr (.binOp .neq 9 (.tmp 0) (.tmp 1) 9) 4 [.s (.c 14 0), .s (.c 16 0)]) (.cond (.c 17 0) (.ret (.v (.s (.k (.bool false))))) (.em (.call 27 [.s (.c 2 0)] [some 4, some 3, none]) (.em (.pr (.unOp .not 4 (.tmp 0)) 4 [.s (.c 18 7)]) (.cond (.c 19 0) (.ret (.v (.s (.k (.bool true))))) (.em (.call 28 [.g [.c 18 0, .c 18 1, .c 18 2, .c 18 3]] [some 3, none]) (.em (.call 14 [.g [.c 18 4, .c 18 5, .c 18 6]] [none]) (.em (.pr (.binOp .eql 4 (.tmp 0) (.tmp 1) 4) 4 [.s (.c 20 3), .s (.c 21 0)]) (.cond (.c 22 0) (.em (.pr (.unOp .not 4 (.tmp 0)) 4 [.s (.c 20 3)]) (.cond (.c 23 0) (.cond (.c 20 3) (.ret (.v (.s (.k (.bool true))))) (.em (.call 15 [.g [.c 20 0, .c 20 1, .c 20 2]] [none]) (.em (.pr (.binOp .eql 9 (.tmp 0) (.const (.string ⟨#[48]⟩)) 9) 4 [.s (.c 24 0), .s (.k (.string ⟨#[48]⟩))]) (.ret (.v (.s (.c 25 0))))))) (.em (.call 15 [.g [.c 20 0, .c 20 1, .c 20 2]] [none]) (.em (.pr (.binOp .eql 9 (.tmp 0) (.tmp 1) 9) 4 [.s (.c 24 0), .s (.c 2 0)]) (.cond (.c 25 0) (.cond (.c 20 3) (.ret (.v (.s (.k (.bool true))))) (.em (.call 15 [.g [.c 20 0, .c 20 1, .c 20 2]] [none]) (.em (.pr (.binOp .eql 9 (.tmp 0) (.const (.string ⟨#[48]⟩)) 9) 4 [.s (.c 26 0), .s (.k (.string ⟨#[48]⟩))]) (.ret (.v (.s (.c 27 0))))))) (.ret (.v (.s (.k (.bool false)))))))))) (.ret (.v (.s (.k (.bool false))))))))))))))))))) (.em (.pr (.binOp .lss 3 (.tmp 0) (.const (.int .i64 (Int.negSucc 299))) 3) 4 [.s (.c 1 0), .s (.k (.int .i64 (Int.negSucc 299)))]) (.cond (.c 12 0) (.em (.pr (.binOp .rem 3 (.tmp 0) (.const (.int .i64 300)) 3) 3 [.s (.c 1 0), .s (.k (.int .i64 300))]) (.em (.call 24 [.g [.c 6 0, .c 6 1], .s (.c 13 0)] [some 3]) (.em (.call 15 [.g [.c 14 0, .c 14 1, .c 14 2]] [none]) (.em (.call 26 [.g [.c 5 0, .c 5 1], .s (.c 13 0)] [some 3]) (.em (.call 25 [.g [.c 16 0, .c 16 1, .c 16 2]] [none]) (.em (.pr (.binOp .neq 9 (.tmp 0) (.tmp 1) 9) 4 [.s (.c 15 0), .s (.c 17 0)]) (.cond (.c 18 0) (.ret (.v (.s (.k (.bool false))))) (.em (.call 27 [.s (.c 2 0)] [some 4, some 3, none]) (.em (.pr (.unOp .not 4 (.tmp 0)) 4 [.s (.c 19 7)]) (.cond (.c 20 0) (.ret (.v (.s (.k (.bool true))))) (.em (.call 28 [.g [.c 19 0, .c 19 1, .c 19 2, .c 19 3]] [some 3, none]) (.em (.call 14 [.g [.c 19 4, .c 19 5, .c 19 6]] [none]) (.em (.pr (.binOp .eql 4 (.tmp 0) (.tmp 1) 4) 4 [.s (.c 21 3), .s (.c 22 0)]) (.cond (.c 23 0) (.em (.pr (.unOp .not 4 (.tmp 0)) 4 [.s (.c 21 3)]) (.cond (.c 24 0) (.cond (.c 21 3) (.ret (.v (.s (.k (.bool true))))) (.em (.call 15 [.g [.c 21 0, .c 21 1, .c 21 2]] [none]) (.em (.pr (.binOp .eql 9 (.tmp 0) (.const (.string ⟨#[48]⟩)) 9) 4 [.s (.c 25 0), .s (.k (.string ⟨#[48]⟩))]) (.ret (.v (.s (.c 26 0))))))) (.em (.call 15 [.g [.c 21 0, .c 21 1, .c 21 2]] [none]) (.em (.pr (.binOp .eql 9 (.tmp 0) (.tmp 1) 9) 4 [.s (.c 25 0), .s (.c 2 0)]) (.cond (.c 26 0) (.cond (.c 21 3) (.ret (.v (.s (.k (.bool true))))) (.em (.call 15 [.g [.c 21 0, .c 21 1, .c 21 2]] [none]) (.em (.pr (.binOp .eql 9 (.tmp 0) (.const (.string ⟨#[48]⟩)) 9) 4 [.s (.c 27 0), .s (.k (.string ⟨#[48]⟩))]) (.ret (.v (.s (.c 28 0))))))) (.ret (.v (.s (.k (.bool false)))))))))) (.ret (.v (.s (.k (.bool false))))))))))))))))))) (.em (.call 24 [.g [.c 6 0, .c 6 1], .s (.c 1 0)] [some 3]) (.em (.call 15 [.g [.c 13 0, .c 13 1, .c 13 2]] [none]) (.em (.call 26 [.g [.c 5 0, .c 5 1], .s (.c 1 0)] [some 3]) (.em (.call 25 [.g [.c 15 0, .c 15 1, .c 15 2]] [none]) (.em (.pr (.binOp .neq 9 (.tmp 0) (.tmp 1) 9) 4 [.s (.c 14 0), .s (.c 16 0)]) (.cond (.c 17 0) (.ret (.v (.s (.k (.bool false))))) (.em (.call 27 [.s (.c 2 0)] [some 4, some 3, none]) (.em (.pr (.unOp .not 4 (.tmp 0)) 4 [.s (.c 18 7)]) (.cond (.c 19 0) (.ret (.v (.s (.k (.bool true))))) (.em (.call 28 [.g [.c 18 0, .c 18 1, .c 18 2, .c 18 3]] [some 3, none]) (.em (.call 14 [.g [.c 18 4, .c 18 5, .c 18 6]] [none]) (.em (.pr (.binOp .eql 4 (.tmp 0) (.tmp 1) 4) 4 [.s (.c 20 3), .s (.c 21 0)]) (.cond (.c 22 0) (.em (.pr (.unOp .not 4 (.tmp 0)) 4 [.s (.c 20 3)]) (.cond (.c 23 0) (.cond (.c 20 3) (.ret (.v (.s (.k (.bool true))))) (.em (.call 15 [.g [.c 20 0, .c 20 1, .c 20 2]] [none]) (.em (.pr (.binOp .eql 9 (.tmp 0) (.const (.string ⟨#[48]⟩)) 9) 4 [.s (.c 24 0), .s (.k (.string ⟨#[48]⟩))]) (.ret (.v (.s (.c 25 0))))))) (.em (.call 15 [.g [.c 20 0, .c 20 1, .c 20 2]] [none]) (.em (.pr (.binOp .eql 9 (.tmp 0) (.tmp 1) 9) 4 [.s (.c 24 0), .s (.c 2 0)]) (.cond (.c 25 0) (.cond (.c 20 3) (.ret (.v (.s (.k (.bool true))))) (.em (.call 15 [.g [.c 20 0, .c 20 1, .c 20 2]] [none]) (.em (.pr (.binOp .eql 9 (.tmp 0) (.const (.string ⟨#[48]⟩)) 9) 4 [.s (.c 26 0), .s (.k (.string ⟨#[48]⟩))]) (.ret (.v (.s (.c 27 0))))))) (.ret (.v (.s (.k (.bool false)))))))))) (.ret (.v (.s (.k (.bool false))))))))))))))))))))))))))))))))))) (by kernel_rfl) (by kernel_rfl) (by kernel_rfl) Mono.true trivial ⟨rfl, rfl, rfl, trivial⟩ ?_
  refine wVal (fun w b _ => alive4_any w (hT.below b)) rfl ?_
  refine wPr (prNot rfl) rfl ?_
  refine wFalse rfl ?_
  by_cases h1 : IsInt a
  · refine wIntV hU (fun w b _ => rparseY a w h1) rfl (fun x5 y5 => ?_)
    refine wIntV hU (fun w b _ => iparseY a w h1) rfl (fun x6 y6 => ?_)
    generalize intVal a = z
    refine wPr (prNot rfl) rfl ?_
    refine wFalse rfl ?_
    refine wPr (prNe rfl rfl) rfl ?_
    refine wFalse rfl ?_
    refine wPr (prLenS hStrT rfl) rfl ?_
    refine wPr (prGt rfl rfl) rfl ?_
    refine wIf _ rfl (fun e => ?_) (fun e => ?_)
    · exact wRet fun w b _ => ⟨rfl, b⟩
    have hm := tmod_lim i (n := 300) (by decide)
    refine wPr (prGt rfl rfl) rfl ?_
    refine wIf _ rfl (fun e => ?_) (fun e => ?_)
    · refine wPr (prRemI rfl rfl (by decide)) rfl ?_
      refine wDy (fun w b ⟨h6, _⟩ => ynew_any _ z (i.tmod 300) 500 w (hT.below b) h6 (by decide) (by omega) (by omega)) (fun x7 y7 => ?_)
      refine wVal (fun w b ⟨h, _⟩ => ytext_any _ _ _ _ w (hT.below b) ⟨_, _, rfl, h⟩ (by decide) (by decide)) rfl ?_
      refine wDQ (fun w b ⟨_, _, h5, _⟩ => ddnew_any _ z (i.tmod 300) 500 w h5 (by decide) (by decide) (by omega) (by omega)) (fun _ _ _ => ?_)
      refine wVal (fun w b ⟨h, _⟩ => dtext_any _ _ _ w ⟨_, _, _, rfl, h⟩ (by decide)) rfl ?_
      refine wPr (prSNe rfl rfl) rfl ?_
      refine wFalse (by show Value.bool (!(_ == _)) = _; rw [beq_self_eq_true]; rfl) ?_
      refine wMono (G := fun _ => True) Mono.true (fun _ _ => trivial) ?_
      by_cases h2 : NumQ c
      · have htx := ratS_ratVal h2.1
        refine wBoth (fun w b _ => numY c w hsc h2) rfl (fun a1 b1 c1 d1 a2 b2 d2 => ?_)
        generalize ratVal c = q at *
        refine wPr (prNot rfl) rfl ?_
        refine wFalse rfl ?_
        by_cases hd : DyOk q
        · refine wDyV (fun w b ⟨h, _⟩ => yof_yes _ q 21 w (hT.below b) ⟨_, _, _, _, rfl, h⟩ (by decide) hd) rfl (fun x3 y3 => ?_)
          refine wVal (fun w b ⟨_, _, h, _⟩ => ddyadic_any _ q 21 w ⟨_, _, _, rfl, h⟩ (by decide)) rfl ?_
          refine wPr (prBEq hBool rfl rfl) rfl ?_
          refine wTrue (by show Value.bool (true == decide (DyOk q)) = _; rw [decide_eq_true hd]; rfl) ?_
          refine wPr (prNot rfl) rfl ?_
          refine wFalse rfl ?_
          refine wVal (fun w b ⟨h, _⟩ => ytext_any _ q _ _ w (hT.below b) ⟨_, _, rfl, h⟩ (by decide) (by decide)) rfl ?_
          refine wPr (prSEq rfl rfl) rfl ?_
          refine wTrue (by show Value.bool (_ == _) = _; rw [htx, beq_self_eq_true]) ?_
          refine wTrue rfl ?_
          exact wRet fun w b _ => ⟨rfl, b⟩
        · refine wKnown [.bool false, .slice none 0 0, .int .i64 0, .bool false] (fun w b ⟨h, _⟩ => yof_no _ q 21 w (hT.below b) ⟨_, _, _, _, rfl, h⟩ (by decide) hd) rfl rfl ?_
          refine wVal (fun w b ⟨_, h, _⟩ => ddyadic_any _ q 21 w ⟨_, _, _, rfl, h⟩ (by decide)) rfl ?_
          refine wPr (prBEq hBool rfl rfl) rfl ?_
          refine wTrue (by show Value.bool (false == decide (DyOk q)) = _; rw [decide_eq_false hd]; rfl) ?_
          refine wPr (prNot rfl) rfl ?_
          refine wTrue rfl ?_
          refine wFalse rfl ?_
          refine wVal (fun w b _ => ytext_any _ 0 1 1 w (hT.below b) (zeroDy w 1 1) (by decide) (by decide)) rfl ?_
          refine wPr (prSEq rfl rfl) rfl ?_
          exact wRet fun w b _ => ⟨by show Ending.returned (.bool (_ == _)) = _; rw [ratS_zero, beq_self_eq_true], b⟩
      · refine wKnown [.bool false, .slice none 0 0, .bool false, .slice none 0 0, .bool false, .slice none 0 0, .slice none 0 0, .bool false] (fun w _ _ => numN c w hsc h2) rfl rfl ?_
        refine wPr (prNot rfl) rfl ?_
        refine wTrue rfl ?_
        exact wRet fun w b _ => ⟨rfl, b⟩
    · have e1 : ¬ 300 < i := by simpa using e
      refine wPr (prLt rfl rfl) rfl ?_
      refine wIf _ rfl (fun e => ?_) (fun e => ?_)
      · refine wPr (prRemI rfl rfl (by decide)) rfl ?_
        refine wDy (fun w b ⟨h6, _⟩ => ynew_any _ z (i.tmod 300) 500 w (hT.below b) h6 (by decide) (by omega) (by omega)) (fun x7 y7 => ?_)
        refine wVal (fun w b ⟨h, _⟩ => ytext_any _ _ _ _ w (hT.below b) ⟨_, _, rfl, h⟩ (by decide) (by decide)) rfl ?_
        refine wDQ (fun w b ⟨_, _, h5, _⟩ => ddnew_any _ z (i.tmod 300) 500 w h5 (by decide) (by decide) (by omega) (by omega)) (fun _ _ _ => ?_)
        refine wVal (fun w b ⟨h, _⟩ => dtext_any _ _ _ w ⟨_, _, _, rfl, h⟩ (by decide)) rfl ?_
        refine wPr (prSNe rfl rfl) rfl ?_
        refine wFalse (by show Value.bool (!(_ == _)) = _; rw [beq_self_eq_true]; rfl) ?_
        refine wMono (G := fun _ => True) Mono.true (fun _ _ => trivial) ?_
        by_cases h2 : NumQ c
        · have htx := ratS_ratVal h2.1
          refine wBoth (fun w b _ => numY c w hsc h2) rfl (fun a1 b1 c1 d1 a2 b2 d2 => ?_)
          generalize ratVal c = q at *
          refine wPr (prNot rfl) rfl ?_
          refine wFalse rfl ?_
          by_cases hd : DyOk q
          · refine wDyV (fun w b ⟨h, _⟩ => yof_yes _ q 21 w (hT.below b) ⟨_, _, _, _, rfl, h⟩ (by decide) hd) rfl (fun x3 y3 => ?_)
            refine wVal (fun w b ⟨_, _, h, _⟩ => ddyadic_any _ q 21 w ⟨_, _, _, rfl, h⟩ (by decide)) rfl ?_
            refine wPr (prBEq hBool rfl rfl) rfl ?_
            refine wTrue (by show Value.bool (true == decide (DyOk q)) = _; rw [decide_eq_true hd]; rfl) ?_
            refine wPr (prNot rfl) rfl ?_
            refine wFalse rfl ?_
            refine wVal (fun w b ⟨h, _⟩ => ytext_any _ q _ _ w (hT.below b) ⟨_, _, rfl, h⟩ (by decide) (by decide)) rfl ?_
            refine wPr (prSEq rfl rfl) rfl ?_
            refine wTrue (by show Value.bool (_ == _) = _; rw [htx, beq_self_eq_true]) ?_
            refine wTrue rfl ?_
            exact wRet fun w b _ => ⟨rfl, b⟩
          · refine wKnown [.bool false, .slice none 0 0, .int .i64 0, .bool false] (fun w b ⟨h, _⟩ => yof_no _ q 21 w (hT.below b) ⟨_, _, _, _, rfl, h⟩ (by decide) hd) rfl rfl ?_
            refine wVal (fun w b ⟨_, h, _⟩ => ddyadic_any _ q 21 w ⟨_, _, _, rfl, h⟩ (by decide)) rfl ?_
            refine wPr (prBEq hBool rfl rfl) rfl ?_
            refine wTrue (by show Value.bool (false == decide (DyOk q)) = _; rw [decide_eq_false hd]; rfl) ?_
            refine wPr (prNot rfl) rfl ?_
            refine wTrue rfl ?_
            refine wFalse rfl ?_
            refine wVal (fun w b _ => ytext_any _ 0 1 1 w (hT.below b) (zeroDy w 1 1) (by decide) (by decide)) rfl ?_
            refine wPr (prSEq rfl rfl) rfl ?_
            exact wRet fun w b _ => ⟨by show Ending.returned (.bool (_ == _)) = _; rw [ratS_zero, beq_self_eq_true], b⟩
        · refine wKnown [.bool false, .slice none 0 0, .bool false, .slice none 0 0, .bool false, .slice none 0 0, .slice none 0 0, .bool false] (fun w _ _ => numN c w hsc h2) rfl rfl ?_
          refine wPr (prNot rfl) rfl ?_
          refine wTrue rfl ?_
          exact wRet fun w b _ => ⟨rfl, b⟩
      · have e2 : ¬ i < -300 := by simpa using e
        refine wDy (fun w b ⟨h6, _⟩ => ynew_any _ z (i) 500 w (hT.below b) h6 (by decide) (by omega) (by omega)) (fun x7 y7 => ?_)
        refine wVal (fun w b ⟨h, _⟩ => ytext_any _ _ _ _ w (hT.below b) ⟨_, _, rfl, h⟩ (by decide) (by decide)) rfl ?_
        refine wDQ (fun w b ⟨_, _, h5, _⟩ => ddnew_any _ z (i) 500 w h5 (by decide) (by decide) (by omega) (by omega)) (fun _ _ _ => ?_)
        refine wVal (fun w b ⟨h, _⟩ => dtext_any _ _ _ w ⟨_, _, _, rfl, h⟩ (by decide)) rfl ?_
        refine wPr (prSNe rfl rfl) rfl ?_
        refine wFalse (by show Value.bool (!(_ == _)) = _; rw [beq_self_eq_true]; rfl) ?_
        refine wMono (G := fun _ => True) Mono.true (fun _ _ => trivial) ?_
        by_cases h2 : NumQ c
        · have htx := ratS_ratVal h2.1
          refine wBoth (fun w b _ => numY c w hsc h2) rfl (fun a1 b1 c1 d1 a2 b2 d2 => ?_)
          generalize ratVal c = q at *
          refine wPr (prNot rfl) rfl ?_
          refine wFalse rfl ?_
          by_cases hd : DyOk q
          · refine wDyV (fun w b ⟨h, _⟩ => yof_yes _ q 21 w (hT.below b) ⟨_, _, _, _, rfl, h⟩ (by decide) hd) rfl (fun x3 y3 => ?_)
            refine wVal (fun w b ⟨_, _, h, _⟩ => ddyadic_any _ q 21 w ⟨_, _, _, rfl, h⟩ (by decide)) rfl ?_
            refine wPr (prBEq hBool rfl rfl) rfl ?_
            refine wTrue (by show Value.bool (true == decide (DyOk q)) = _; rw [decide_eq_true hd]; rfl) ?_
            refine wPr (prNot rfl) rfl ?_
            refine wFalse rfl ?_
            refine wVal (fun w b ⟨h, _⟩ => ytext_any _ q _ _ w (hT.below b) ⟨_, _, rfl, h⟩ (by decide) (by decide)) rfl ?_
            refine wPr (prSEq rfl rfl) rfl ?_
            refine wTrue (by show Value.bool (_ == _) = _; rw [htx, beq_self_eq_true]) ?_
            refine wTrue rfl ?_
            exact wRet fun w b _ => ⟨rfl, b⟩
          · refine wKnown [.bool false, .slice none 0 0, .int .i64 0, .bool false] (fun w b ⟨h, _⟩ => yof_no _ q 21 w (hT.below b) ⟨_, _, _, _, rfl, h⟩ (by decide) hd) rfl rfl ?_
            refine wVal (fun w b ⟨_, h, _⟩ => ddyadic_any _ q 21 w ⟨_, _, _, rfl, h⟩ (by decide)) rfl ?_
            refine wPr (prBEq hBool rfl rfl) rfl ?_
            refine wTrue (by show Value.bool (false == decide (DyOk q)) = _; rw [decide_eq_false hd]; rfl) ?_
            refine wPr (prNot rfl) rfl ?_
            refine wTrue rfl ?_
            refine wFalse rfl ?_
            refine wVal (fun w b _ => ytext_any _ 0 1 1 w (hT.below b) (zeroDy w 1 1) (by decide) (by decide)) rfl ?_
            refine wPr (prSEq rfl rfl) rfl ?_
            exact wRet fun w b _ => ⟨by show Ending.returned (.bool (_ == _)) = _; rw [ratS_zero, beq_self_eq_true], b⟩
        · refine wKnown [.bool false, .slice none 0 0, .bool false, .slice none 0 0, .bool false, .slice none 0 0, .slice none 0 0, .bool false] (fun w _ _ => numN c w hsc h2) rfl rfl ?_
          refine wPr (prNot rfl) rfl ?_
          refine wTrue rfl ?_
          exact wRet fun w b _ => ⟨rfl, b⟩
  · refine wKnown [.bool false, .slice none 0 0, .bool false] (fun w b _ => rparseN a w h1) rfl rfl ?_
    refine wKnown [.bool false, .slice none 0 0, .int .i64 2] (fun w b _ => iparseN a w h1) rfl rfl ?_
    refine wPr (prNot rfl) rfl ?_
    refine wTrue rfl ?_
    exact wRet fun w b _ => ⟨rfl, b⟩

end Go.Proofs.YtipbpjlkanjecaaGreatDoor
