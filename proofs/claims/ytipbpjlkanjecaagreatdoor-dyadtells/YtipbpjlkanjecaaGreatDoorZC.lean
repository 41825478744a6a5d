/- The law DyadTells. -/
import Derived.Test.YtipbpjlkanjecaaGreatDoorYx
namespace Go.Proofs.YtipbpjlkanjecaaGreatDoor
open Go.RowKit Cin

set_option maxHeartbeats 4000000 in
/-- The law holds of every text. -/
theorem dyadTells_any (s : ByteArray) (w : World) (hT : Tabs w) (ha : s.size ≤ maxLen) :
    Calls Tryz.prog 3 #[.string s] w fun e w' => e = .returned (.bool true) ∧ Below w.heap.size w w' := by
  have hs := len_le ha
  refine go (fun _ => True) [[.string s]] [none] (tr := (.em (.call 11 [] [none]) (.em (.pr (.unOp .not 4 (.tmp 0)) 4 [.s (.c 1 0)]) (.cond (.c 2 0) (.ret (.v (.s (.k (.bool false))))) (.em (.pr (.call (.mk (.builtin .len) #[.tmp 0] #[9])) 3 [.s (.c 0 0)]) (.em (.pr (.binOp .gtr 3 (.tmp 0) (.const (.int .i64 1000)) 3) 4 [.s (.c 3 0), .s (.k (.int .i64 1000))]) (.cond (.c 4 0) (.ret (.v (.s (.k (.bool true))))) (.em (.call 12 [.s (.c 0 0)] [some 3, none]) (.em (.call 13 [.s (.c 0 0)] [some 3, none]) (.em (.pr (.unOp .not 4 (.tmp 0)) 4 [.s (.c 6 3)]) (.cond (.c 7 0) (.em (.pr (.binOp .eql 30 (.tmp 0) (.const (.int .i64 2)) 30) 4 [.s (.c 5 3), .s (.k (.int .i64 2))]) (.cond (.c 8 0) (.em (.call 15 [.g [.c 5 0, .c 5 1, .c 5 2]] [none]) (.em (.pr (.binOp .eql 9 (.tmp 0) (.const (.string ⟨#[48]⟩)) 9) 4 [.s (.c 9 0), .s (.k (.string ⟨#[48]⟩))]) (.ret (.v (.s (.c 10 0)))))) (.ret (.v (.s (.k (.bool false))))))) (.em (.call 14 [.g [.c 6 0, .c 6 1, .c 6 2]] [none]) (.em (.pr (.unOp .not 4 (.tmp 0)) 4 [.s (.c 8 0)]) (.cond (.c 9 0) (.em (.pr (.binOp .eql 30 (.tmp 0) (.const (.int .i64 2)) 30) 4 [.s (.c 5 3), .s (.k (.int .i64 2))]) (.cond (.c 10 0) (.em (.call 15 [.g [.c 5 0, .c 5 1, .c 5 2]] [none]) (.em (.pr (.binOp .eql 9 (.tmp 0) (.const (.string ⟨#[48]⟩)) 9) 4 [.s (.c 11 0), .s (.k (.string ⟨#[48]⟩))]) (.ret (.v (.s (.c 12 0)))))) (.ret (.v (.s (.k (.bool false))))))) (.em (.call 16 [.g [.c 5 0, .c 5 1, .c 5 2]] [some 2, none]) (.em (.call 17 [.g [.c 6 0, .c 6 1, .c 6 2]] [some 2, none]) (.em (.pr (.binOp .eql 30 (.tmp 0) (.const (.int .i64 0)) 30) 4 [.s (.c 5 3), .s (.k (.int .i64 0))]) (.cond (.c 12 0) (.em (.call 15 [.g [.c 5 0, .c 5 1, .c 5 2]] [none]) (.em (.pr (.binOp .eql 9 (.tmp 0) (.tmp 1) 9) 4 [.s (.c 13 0), .s (.c 0 0)]) (.cond (.c 14 0) (.em (.call 18 [.g [.c 10 0, .c 10 1]] [none]) (.em (.call 19 [.g [.c 11 0, .c 11 1]] [none]) (.em (.pr (.binOp .eql 9 (.tmp 0) (.tmp 1) 9) 4 [.s (.c 15 0), .s (.c 16 0)]) (.cond (.c 17 0) (.em (.pr (.binOp .eql 3 (.tmp 0) (.tmp 1) 3) 4 [.s (.c 10 2), .s (.c 11 2)]) (.cond (.c 18 0) (.em (.call 20 [.g [.c 5 0, .c 5 1, .c 5 2]] [some 4]) (.em (.call 21 [.g [.c 19 0, .c 19 1, .c 19 2, .c 19 3]] [none]) (.em (.pr (.binOp .eql 9 (.tmp 0) (.tmp 1) 9) 4 [.s (.c 20 0), .s (.c 0 0)]) (.ret (.v (.s (.c 21 0))))))) (.ret (.v (.s (.k (.bool false))))))) (.ret (.v (.s (.k (.bool false))))))))) (.ret (.v (.s (.k (.bool false)))))))) (.ret (.v (.s (.k (.bool false))))))))))))))))))))))) (by kernel_rfl) (by kernel_rfl) (by kernel_rfl) Mono.true trivial ⟨rfl, trivial⟩ ?_
  refine wVal (fun w b _ => alive4_any w (hT.below b)) rfl ?_
  refine wPr (prNot rfl) rfl ?_
  refine wFalse rfl ?_
  refine wPr (prLenS hStrT rfl) rfl ?_
  refine wPr (prGt rfl rfl) rfl ?_
  refine wIf _ rfl (fun e => ?_) (fun e => ?_)
  · exact wRet fun w b _ => ⟨rfl, b⟩
  by_cases h : RatOk s ∧ DyOk (ratVal s)
  · obtain ⟨hr, hd⟩ := h
    have htx := ratS_ratVal hr
    refine wDyV (fun w b _ => yparse_yes s w (hT.below b) hs hr hd) rfl (fun x1 y1 => ?_)
    refine wDQV (fun w b _ => dparseY s w hs hr) rfl (fun a2 b2 d2 => ?_)
    generalize hq : ratVal s = q at *
    refine wPr (prNot rfl) rfl ?_
    refine wFalse rfl ?_
    refine wVal (fun w b ⟨h, _⟩ => ddyadic_any _ _ 500 w ⟨_, _, _, rfl, h⟩ (by decide)) rfl ?_
    refine wPr (prNot rfl) rfl ?_
    refine wFalse (by show Value.bool (!decide _) = _; rw [decide_eq_true hd]; rfl) ?_
    refine wIntV hU (fun w b ⟨_, h, _⟩ => yparts_any _ q _ _ w ⟨_, _, rfl, h⟩ (by decide)) rfl (fun x3 y3 => ?_)
    refine wIntV hU (fun w b ⟨_, h, _⟩ => dparts_any _ q _ w ⟨_, _, _, rfl, h⟩ (by decide)) rfl (fun x4 y4 => ?_)
    refine wPr (prEq rfl rfl) rfl ?_
    refine wTrue rfl ?_
    refine wVal (fun w b ⟨_, _, _, h, _⟩ => ytext_any _ _ _ _ w (hT.below b) ⟨_, _, rfl, h⟩ (by decide) (by decide)) rfl ?_
    refine wPr (prSEq rfl rfl) rfl ?_
    refine wTrue (by show Value.bool (_ == _) = _; rw [htx, beq_self_eq_true]) ?_
    refine wVal (fun w b ⟨_, h, _⟩ => itext_any _ (oddOf q) _ w h (by decide) (hT.below b)) rfl ?_
    refine wVal (fun w b ⟨h, _⟩ => ritext_any _ (oddOf q) _ w h (by decide)) rfl ?_
    refine wPr (prSEq rfl rfl) rfl ?_
    refine wTrue (by show Value.bool (_ == _) = _; rw [beq_self_eq_true]) ?_
    refine wPr (prEq rfl rfl) rfl ?_
    refine wTrue (by show Value.bool (_ == _) = _; rw [beq_self_eq_true]) ?_
    refine wRat (fun w b ⟨_, _, _, h, _⟩ => yrat_any _ q _ _ w ⟨_, _, rfl, h⟩ (by decide) (by decide)) (fun a5 b5 c5 d5 => ?_)
    refine wVal (fun w b ⟨h, _⟩ => qtext_any _ q _ w ⟨_, _, _, _, rfl, h⟩ (by decide) (hT.below b)) rfl ?_
    refine wPr (prSEq rfl rfl) rfl ?_
    exact wRet fun w b _ => ⟨by show Ending.returned (.bool (_ == _)) = _; rw [htx, beq_self_eq_true], b⟩
  · refine wKnown [.bool false, .slice none 0 0, .int .i64 0, .int .i64 2] (fun w b _ => yparse_no s w (hT.below b) hs h) rfl rfl ?_
    by_cases hr : RatOk s
    · refine wDQV (fun w b _ => dparseY s w hs hr) rfl (fun a2 b2 d2 => ?_)
      refine wPr (prNot rfl) rfl ?_
      refine wFalse rfl ?_
      refine wVal (fun w b ⟨h, _⟩ => ddyadic_any _ _ 500 w ⟨_, _, _, rfl, h⟩ (by decide)) rfl ?_
      refine wPr (prNot rfl) rfl ?_
      refine wTrue (by show Value.bool (!decide _) = _; rw [decide_eq_false (fun hd => h ⟨hr, hd⟩)]; rfl) ?_
      refine wPr (prEq rfl rfl) rfl ?_
      refine wTrue rfl ?_
      refine wVal (fun w b _ => ytext_any _ 0 1 1 w (hT.below b) (zeroDy w 1 1) (by decide) (by decide)) rfl ?_
      refine wPr (prSEq rfl rfl) rfl ?_
      exact wRet fun w b _ => ⟨by show Ending.returned (.bool (_ == _)) = _; rw [ratS_zero, beq_self_eq_true], b⟩
    · refine wCall (fun cs _ => ∃ a b d, cs = [a, b, d, .bool false]) (fun _ _ _ _ h => h) (fun w b _ => (dparse_any s w hs).mono ?_) (fun cs => ?_)
      · rintro e w' (⟨h, _⟩ | ⟨_, a, b, d, rfl, hp, hb⟩)
        · exact absurd h hr
        · simp only [List.all_cons, List.all_nil, Bool.and_true, Bool.and_eq_true] at hp
          exact ⟨[a, b, d, .bool false], rfl, by simp only [List.all_cons, List.all_nil, Bool.and_true, Bool.and_eq_true]; exact ⟨hp.1, hp.2.1, hp.2.2, rfl⟩, ⟨a, b, d, rfl⟩, hb⟩
      · intro hm u hF
        obtain ⟨⟨a, b, d, rfl⟩, _⟩ := id hF
        refine wMono Mono.true (fun _ _ => trivial) ?_ hm u hF
        refine wPr (prNot rfl) rfl ?_
        refine wTrue rfl ?_
        refine wPr (prEq rfl rfl) rfl ?_
        refine wTrue rfl ?_
        refine wVal (fun w b _ => ytext_any _ 0 1 1 w (hT.below b) (zeroDy w 1 1) (by decide) (by decide)) rfl ?_
        refine wPr (prSEq rfl rfl) rfl ?_
        exact wRet fun w b _ => ⟨by show Ending.returned (.bool (_ == _)) = _; rw [ratS_zero, beq_self_eq_true], b⟩

end Go.Proofs.YtipbpjlkanjecaaGreatDoor
