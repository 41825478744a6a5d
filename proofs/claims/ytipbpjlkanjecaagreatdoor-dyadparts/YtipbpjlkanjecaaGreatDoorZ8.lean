/- The law DyadParts. -/
import Derived.Test.YtipbpjlkanjecaaGreatDoorYx
namespace Go.Proofs.YtipbpjlkanjecaaGreatDoor
open Go.RowKit Cin

theorem can_tz {q : Rat} (h : Dy q) (h0 : oddOf q ≠ 0) : tzOf (oddOf q).natAbs = 0 := by
  have h1 : oddOf q % 2 = 1 := by
    rcases h.1 with ⟨r, _⟩ | r
    · exact absurd r h0
    · exact r
  rcases Nat.eq_zero_or_pos (tzOf (oddOf q).natAbs) with r | r
  · exact r
  · have := (tz_even (by omega)).1 r
    omega
theorem odd_zero_of {q : Rat} (h : Dy q) (h0 : oddOf q = 0) : q = 0 := by
  have := h.val
  rw [h0] at this
  rw [← this]; exact Rat.zero_mul _
theorem eight {q : Rat} (h : Dy q) : ((oddOf q * 8 : Int) : Rat) * tp (expOf q - 3) = q := by
  have h1 := h.val
  have h8 : ((8 : Int) : Rat) = 8 := rfl
  rw [Int.sub_eq_add_neg, two_add, tp_m3, Rat.intCast_mul, h8]
  generalize (oddOf q : Rat) = a at *
  generalize tp (expOf q) = c at *
  subst h1
  grind

set_option maxHeartbeats 4000000 in
/-- The law holds of every text. -/
theorem dyadParts_any (a : ByteArray) (w : World) (hT : Tabs w) (ha : a.size ≤ maxLen) :
    Calls Tryz.prog 10 #[.string a] w fun e w' => e = .returned (.bool true) ∧ Below w.heap.size w w' := by
  have hsa := len_le ha
  refine go (fun _ => True) [[.string a]] [none] (tr := (.em (.call 29 [.s (.c 0 0)] [some 3, some 3, none]) (.em (.pr (.unOp .not 4 (.tmp 0)) 4 [.s (.c 1 6)]) (.cond (.c 2 0) (.em (.call 11 [] [none]) (.ret (.v (.s (.c 3 0))))) (.em (.call 11 [] [none]) (.em (.pr (.unOp .not 4 (.tmp 0)) 4 [.s (.c 3 0)]) (.cond (.c 4 0) (.em (.call 11 [] [none]) (.ret (.v (.s (.c 5 0))))) (.em (.call 16 [.g [.c 1 0, .c 1 1, .c 1 2]] [some 2, none]) (.em (.call 50 [.g [.c 5 0, .c 5 1]] [none]) (.em (.pr (.binOp .eql 3 (.tmp 0) (.const (.int .i64 0)) 3) 4 [.s (.c 6 0), .s (.k (.int .i64 0))]) (.cond (.c 7 0) (.em (.pr (.binOp .eql 3 (.tmp 0) (.const (.int .i64 0)) 3) 4 [.s (.c 5 2), .s (.k (.int .i64 0))]) (.cond (.c 8 0) (.em (.call 20 [.g [.c 1 0, .c 1 1, .c 1 2]] [some 4]) (.em (.call 49 [.g [.c 9 0, .c 9 1, .c 9 2, .c 9 3]] [none]) (.em (.pr (.binOp .eql 3 (.tmp 0) (.const (.int .i64 0)) 3) 4 [.s (.c 10 0), .s (.k (.int .i64 0))]) (.ret (.v (.s (.c 11 0))))))) (.ret (.v (.s (.k (.bool false))))))) (.em (.call 46 [.g [.c 5 0, .c 5 1]] [some 1]) (.em (.call 51 [.g [.c 8 0]] [none]) (.em (.pr (.binOp .eql 3 (.tmp 0) (.const (.int .i64 0)) 3) 4 [.s (.c 9 0), .s (.k (.int .i64 0))]) (.cond (.c 10 0) (.em (.call 24 [.g [.c 5 0, .c 5 1], .s (.c 5 2)] [some 3]) (.em (.call 38 [.g [.c 11 0, .c 11 1, .c 11 2], .g [.c 1 0, .c 1 1, .c 1 2]] [none]) (.em (.pr (.binOp .eql 3 (.tmp 0) (.const (.int .i64 0)) 3) 4 [.s (.c 12 0), .s (.k (.int .i64 0))]) (.cond (.c 13 0) (.em (.pr (.binOp .sub 3 (.tmp 0) (.const (.int .i64 3)) 3) 3 [.s (.c 5 2), .s (.k (.int .i64 3))]) (.em (.call 53 [.s (.k (.int .i64 8))] [some 2]) (.em (.call 52 [.g [.c 5 0, .c 5 1], .g [.c 15 0, .c 15 1]] [some 2]) (.em (.call 24 [.g [.c 16 0, .c 16 1], .s (.c 14 0)] [some 3]) (.em (.call 38 [.g [.c 17 0, .c 17 1, .c 17 2], .g [.c 1 0, .c 1 1, .c 1 2]] [none]) (.em (.pr (.binOp .eql 3 (.tmp 0) (.const (.int .i64 0)) 3) 4 [.s (.c 18 0), .s (.k (.int .i64 0))]) (.ret (.v (.s (.c 19 0)))))))))) (.ret (.v (.s (.k (.bool false))))))))) (.ret (.v (.s (.k (.bool false)))))))))))))))))))) (by kernel_rfl) (by kernel_rfl) (by kernel_rfl) Mono.true trivial ⟨rfl, trivial⟩ ?_
  by_cases h1 : NumD a
  · refine wYD (fun w b _ => numDY a w (hT.below b) hsa h1) rfl (fun a1 b1 a2 b2 d2 => ?_)
    generalize ratVal a = q
    refine wPure (fun w ⟨h, _⟩ => h.2) (fun ⟨dq, q1, q2⟩ => ?_)
    refine wMono (G := fun w => DyQ w a1 b1 q 21 672) (mY _ _ _ _ _) (fun w h => h.1) ?_
    refine wPr (prNot rfl) rfl ?_
    refine wFalse rfl ?_
    refine wVal (fun w b _ => alive4_any w (hT.below b)) rfl ?_
    refine wPr (prNot rfl) rfl ?_
    refine wFalse rfl ?_
    refine wIntV hU (fun w b h => yparts_any _ q 21 672 w ⟨_, _, rfl, h⟩ (by decide)) rfl (fun x1 y1 => ?_)
    refine wVal (fun w b ⟨h, _⟩ => sign_any _ (oddOf q) 21 w h (by decide)) rfl ?_
    refine wPr (prEq rfl rfl) rfl ?_
    refine wIf _ rfl (fun e => ?_) (fun e => ?_)
    · have e1 : oddOf q = 0 := by have := (sgn_zero (oddOf q)).symm.trans e; simpa using this
      have e2 := odd_zero_of dq e1
      refine wPr (prEq rfl rfl) rfl ?_
      refine wTrue (by show Value.bool (expOf q == 0) = _; rw [e2, exp_zero]; rfl) ?_
      refine wRat (fun w b ⟨_, h⟩ => yrat_any _ q 21 672 w ⟨_, _, rfl, h⟩ (by decide) (by decide)) (fun _ _ _ _ => ?_)
      refine wVal (fun w b ⟨h, _⟩ => qsign_any _ q _ w ⟨_, _, _, _, rfl, h⟩ (by decide)) rfl ?_
      refine wPr (prEq rfl rfl) rfl ?_
      exact wRet fun w b _ => ⟨by show Ending.returned (.bool (sgnZ q.num == 0)) = _; rw [e2]; rfl, b⟩
    · have e1 : oddOf q ≠ 0 := by have := (sgn_zero (oddOf q)).symm.trans e; simpa using this
      refine wNat hU (fun w b ⟨h, _⟩ => abs_any _ (oddOf q) 21 w h (by decide)) (fun x2 => ?_)
      refine wVal (fun w b ⟨h, _⟩ => zerosI _ _ 21 w (hT.below b) h (by decide)) rfl ?_
      refine wPr (prEq rfl rfl) rfl ?_
      refine wTrue (by show Value.bool (((tzOf (oddOf q).natAbs : Nat) : Int) == 0) = _; rw [can_tz dq e1]; rfl) ?_
      refine wDy (q := q) (fun w b ⟨_, h, _⟩ => by have := ynew_any _ (oddOf q) (expOf q) 21 w (hT.below b) h (by decide) (by omega) (by omega); rwa [dq.val] at this) (fun x3 y3 => ?_)
      refine wVal (fun w b ⟨h3, _, _, h⟩ => ycmp_any _ _ q q _ _ 21 672 w ⟨_, _, rfl, h3⟩ ⟨_, _, rfl, h⟩ (by decide) (by decide) (by decide) (by decide)) rfl ?_
      refine wPr (prEq rfl rfl) rfl ?_
      refine wTrue (by show Value.bool (cmpQ _ _ == 0) = _; rw [cmpQ_self]; rfl) ?_
      refine wPr (prSubI rfl rfl (by show _ ≤ _ - (3 : Int); omega) (by show _ - (3 : Int) ≤ _; omega)) rfl ?_
      refine wInt hU (fun w b _ => iof_any 8 w (by decide) (by decide)) (fun x4 y4 => ?_)
      refine wInt hU (fun w b ⟨h4, _, _, h, _⟩ => imul_any _ _ (oddOf q) 8 21 2 w h h4 (by decide) (by decide)) (fun x5 y5 => ?_)
      refine wDy (q := q) (fun w b ⟨h5, _⟩ => by have := ynew_any _ (oddOf q * 8) (expOf q - 3) (21 + 2) w (hT.below b) h5 (by decide) (by omega) (by omega); rwa [eight dq] at this) (fun x6 y6 => ?_)
      refine wVal (fun w b ⟨h6, _, _, _, _, _, h⟩ => ycmp_any _ _ q q _ _ 21 672 w ⟨_, _, rfl, h6⟩ ⟨_, _, rfl, h⟩ (by decide) (by decide) (by decide) (by decide)) rfl ?_
      refine wPr (prEq rfl rfl) rfl ?_
      exact wRet fun w b _ => ⟨by show Ending.returned (.bool (cmpQ _ _ == 0)) = _; rw [cmpQ_self]; rfl, b⟩
  · refine wKnown ZeroD (fun w _ _ => numDN a w hsa h1) rfl rfl ?_
    refine wPr (prNot rfl) rfl ?_
    refine wTrue rfl ?_
    refine wVal (fun w b _ => alive4_any w (hT.below b)) rfl ?_
    exact wRet fun w b _ => ⟨rfl, b⟩

end Go.Proofs.YtipbpjlkanjecaaGreatDoor
