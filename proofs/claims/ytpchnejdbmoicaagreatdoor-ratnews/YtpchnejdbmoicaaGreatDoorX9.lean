/- Laws of quotients. -/
import Derived.Test.YtpchnejdbmoicaaGreatDoorYu
namespace Go.Proofs.YtpchnejdbmoicaaGreatDoor
open Go.RowKit Cin

theorem maxLen_le : maxLen ≤ 9223372036854775807 := by unfold maxLen; omega

theorem floor_facts (q : Rat) : 0 ≤ (q - nq q.floor 1).num ∧ q - nq q.floor 1 < ((1 : Int) : Rat) := by
  have e : nq q.floor 1 = (q.floor : Rat) := by rw [nq_div]; grind
  rw [e]
  have h1 := Rat.floor_le q
  have h2 := Rat.lt_floor (x := q)
  refine ⟨?_, ?_⟩
  · have : 0 ≤ q - (q.floor : Rat) := by grind
    exact Rat.num_nonneg.2 this
  · rw [show ((1 : Int) : Rat) = 1 from rfl]; grind

set_option maxHeartbeats 4000000 in
/-- The law RatFloors holds of every 1 texts. -/
theorem ratFloors_any (a : ByteArray) (w : World) (hT : Tabs w) (ha : a.size ≤ maxLen) :
    Calls Tryz.prog 8 #[.string a] w fun e w' => e = .returned (.bool true) ∧ Below w.heap.size w w' := by
  refine go (fun _ => True) [[.string a]] [none] (tr := (.em (.call 17 [.s (.c 0 0)] [some 4, some 3, none]) (.em (.pr (.unOp .not 4 (.tmp 0)) 4 [.s (.c 1 7)]) (.cond (.c 2 0) (.em (.call 9 [] [none]) (.ret (.v (.s (.c 3 0))))) (.em (.call 9 [] [none]) (.em (.pr (.unOp .not 4 (.tmp 0)) 4 [.s (.c 3 0)]) (.cond (.c 4 0) (.em (.call 9 [] [none]) (.ret (.v (.s (.c 5 0))))) (.em (.call 19 [.g [.c 1 0, .c 1 1, .c 1 2, .c 1 3]] [some 2]) (.em (.call 30 [.s (.k (.int .i64 1))] [some 2]) (.em (.call 12 [.g [.c 5 0, .c 5 1], .g [.c 6 0, .c 6 1]] [some 4, none]) (.em (.call 28 [.g [.c 1 0, .c 1 1, .c 1 2, .c 1 3], .g [.c 7 0, .c 7 1, .c 7 2, .c 7 3]] [some 4]) (.cond (.c 7 4) (.em (.call 24 [.g [.c 8 0, .c 8 1, .c 8 2, .c 8 3]] [none]) (.em (.pr (.binOp .geq 3 (.tmp 0) (.const (.int .i64 0)) 3) 4 [.s (.c 9 0), .s (.k (.int .i64 0))]) (.cond (.c 10 0) (.em (.call 36 [.s (.k (.int .i64 1))] [some 4]) (.em (.call 25 [.g [.c 8 0, .c 8 1, .c 8 2, .c 8 3], .g [.c 11 0, .c 11 1, .c 11 2, .c 11 3]] [none]) (.em (.pr (.binOp .lss 3 (.tmp 0) (.const (.int .i64 0)) 3) 4 [.s (.c 12 0), .s (.k (.int .i64 0))]) (.ret (.v (.s (.c 13 0))))))) (.ret (.v (.s (.k (.bool false)))))))) (.ret (.v (.s (.k (.bool false))))))))))))))))) (by kernel_rfl) (by kernel_rfl) (by kernel_rfl) Mono.true trivial ⟨rfl, trivial⟩ ?_
  by_cases ka : NumQ a
  · refine wBoth (fun w _ _ => numY a w (Nat.le_trans ha maxLen_le) ka) rfl (fun a0 b0 c0 d0 e0 f0 g0 => ?_)
    refine wPr (prNot rfl) rfl ?_
    refine wFalse rfl ?_
    refine wVal (fun w b _ => alive3_any w (hT.below b)) rfl ?_
    refine wPr (prNot rfl) rfl ?_
    refine wFalse rfl ?_
    refine wInt hU (fun w b ⟨h, _⟩ => qfloor_any _ _ 21 w ⟨_, _, _, _, rfl, h⟩ (by decide)) (fun x1 y1 => ?_)
    refine wInt hU (fun w b _ => iof_any 1 w (by decide) (by decide)) (fun x2 y2 => ?_)
    refine wRatV (fun w b ⟨h2, h1, _⟩ => qnew_any _ _ _ 1 21 w h1 (h2.mono (by decide)) (by decide) (by decide)) rfl (fun _ _ _ _ => ?_)
    refine wRat (fun w b ⟨h3, _, _, h, _⟩ => qsub_any _ _ _ _ 21 21 w ⟨_, _, _, _, rfl, h⟩ ⟨_, _, _, _, rfl, h3⟩ (by decide) (by decide)) (fun _ _ _ _ => ?_)
    refine wTrue rfl ?_
    obtain ⟨f1, f2⟩ := floor_facts (ratVal a)
    refine wVal (fun w b ⟨h, _⟩ => qsign_any _ _ 43 w ⟨_, _, _, _, rfl, h⟩ (by decide)) rfl ?_
    refine wPr (prGe rfl rfl) rfl ?_
    refine wTrue (by show Value.bool (decide _) = _; rw [decide_eq_true (by unfold sgnZ; rw [if_neg (by omega)]; split <;> decide)]) ?_
    refine wRat (fun w b _ => qof_any 1 w (by decide) (by decide)) (fun _ _ _ _ => ?_)
    refine wVal (fun w b ⟨h1, h, _⟩ => qcmp_any _ _ _ _ 43 2 w ⟨_, _, _, _, rfl, h⟩ ⟨_, _, _, _, rfl, h1⟩ (by decide) (by decide)) rfl ?_
    refine wPr (prLt rfl rfl) rfl ?_
    refine wRet fun w b _ => ⟨?_, b⟩
    show Ending.returned (.bool (decide (cmpQ _ _ < 0))) = _
    unfold cmpQ
    rw [if_pos f2]; rfl
  · refine wKnown [.bool false, .slice none 0 0, .bool false, .slice none 0 0, .bool false, .slice none 0 0, .slice none 0 0, .bool false] (fun w _ _ => numN a w (Nat.le_trans ha maxLen_le) ka) rfl rfl ?_
    refine wPr (prNot rfl) rfl ?_
    refine wTrue rfl ?_
    refine wVal (fun w b _ => alive3_any w (hT.below b)) rfl ?_
    exact wRet fun w b _ => ⟨rfl, b⟩

theorem cmpQ_congr {x y z u : Rat} (h1 : x < y ↔ z < u) (h2 : y < x ↔ u < z) : cmpQ x y = cmpQ z u := by
  unfold cmpQ
  simp only [h1, h2]
theorem cmpQ_add (x y z : Rat) : cmpQ (x + z) (y + z) = cmpQ x y := cmpQ_congr (by grind) (by grind)
theorem cmpQ_mid1 (x y : Rat) : cmpQ x ((x + y) / ((2 : Int) : Rat)) = cmpQ x y := cmpQ_congr (by rw [show ((2 : Int) : Rat) = 2 from rfl]; grind) (by rw [show ((2 : Int) : Rat) = 2 from rfl]; grind)
theorem cmpQ_mid2 (x y : Rat) : cmpQ ((x + y) / ((2 : Int) : Rat)) y = cmpQ x y := cmpQ_congr (by rw [show ((2 : Int) : Rat) = 2 from rfl]; grind) (by rw [show ((2 : Int) : Rat) = 2 from rfl]; grind)
theorem num_neg (z : Rat) : z.num < 0 ↔ z < 0 := by rw [← Int.not_le, Rat.num_nonneg, Rat.not_le]
theorem num_pos (z : Rat) : 0 < z.num ↔ 0 < z := by
  have h := num_neg (-z)
  rw [Rat.neg_num] at h
  have e : -z.num < 0 ↔ 0 < z.num := by omega
  rw [← e, h]; grind
theorem sgnZ_rat (z : Rat) : sgnZ z.num = if z < 0 then -1 else if 0 < z then 1 else 0 := by
  unfold sgnZ
  simp only [num_neg, num_pos]
theorem mul_lt_neg {x y z : Rat} (h : z < 0) : x * z < y * z ↔ y < x := by
  have := @Rat.mul_lt_mul_right y x (-z) (by grind)
  grind
theorem cmpQ_mul (x y z : Rat) : cmpQ (x * z) (y * z) = cmpQ x y * sgnZ z.num := by
  rw [sgnZ_rat]
  by_cases hz : z < 0
  · rw [if_pos hz, cmpQ_congr (mul_lt_neg hz) (mul_lt_neg hz)]
    unfold cmpQ
    by_cases h1 : x < y
    · rw [if_neg (by grind), if_pos h1, if_pos h1]; rfl
    · by_cases h2 : y < x
      · rw [if_pos h2, if_neg h1, if_pos h2]; rfl
      · rw [if_neg h2, if_neg h1, if_neg h1, if_neg h2]; rfl
  · rw [if_neg hz]
    by_cases hp : 0 < z
    · rw [if_pos hp, cmpQ_congr (Rat.mul_lt_mul_right hp) (Rat.mul_lt_mul_right hp), Int.mul_one]
    · have e : z = 0 := by grind
      subst e
      rw [if_neg hp, Int.mul_zero, Rat.mul_zero, Rat.mul_zero]; rfl
theorem cmpQ_cases (x y : Rat) : cmpQ x y = -1 ∨ cmpQ x y = 0 ∨ cmpQ x y = 1 := by
  unfold cmpQ
  split
  · exact .inl rfl
  · split
    · exact .inr (.inr rfl)
    · exact .inr (.inl rfl)
theorem sgnZ_cases (x : Int) : sgnZ x = -1 ∨ sgnZ x = 0 ∨ sgnZ x = 1 := by
  unfold sgnZ
  split
  · exact .inl rfl
  · split
    · exact .inr (.inr rfl)
    · exact .inr (.inl rfl)
theorem wrap_sign {x y : Int} (hx : x = -1 ∨ x = 0 ∨ x = 1) (hy : y = -1 ∨ y = 0 ∨ y = 1) : IntKind.i64.wrap (x * y) = x * y := by
  rcases hx with rfl | rfl | rfl <;> rcases hy with rfl | rfl | rfl <;> rfl

set_option maxHeartbeats 4000000 in
/-- The law RatOrders holds of every 3 texts. -/
theorem ratOrders_any (a b c : ByteArray) (w : World) (hT : Tabs w) (ha : a.size ≤ maxLen) (hb : b.size ≤ maxLen) (hc : c.size ≤ maxLen) :
    Calls Tryz.prog 7 #[.string a, .string b, .string c] w fun e w' => e = .returned (.bool true) ∧ Below w.heap.size w w' := by
  refine go (fun _ => True) [[.string a], [.string b], [.string c]] [none, none, none] (tr := (.em (.call 17 [.s (.c 0 0)] [some 4, some 3, none]) (.em (.call 17 [.s (.c 1 0)] [some 4, some 3, none]) (.em (.call 17 [.s (.c 2 0)] [some 4, some 3, none]) (.em (.pr (.unOp .not 4 (.tmp 0)) 4 [.s (.c 3 7)]) (.cond (.c 6 0) (.em (.call 9 [] [none]) (.ret (.v (.s (.c 7 0))))) (.em (.pr (.unOp .not 4 (.tmp 0)) 4 [.s (.c 4 7)]) (.cond (.c 7 0) (.em (.call 9 [] [none]) (.ret (.v (.s (.c 8 0))))) (.em (.pr (.unOp .not 4 (.tmp 0)) 4 [.s (.c 5 7)]) (.cond (.c 8 0) (.em (.call 9 [] [none]) (.ret (.v (.s (.c 9 0))))) (.em (.call 9 [] [none]) (.em (.pr (.unOp .not 4 (.tmp 0)) 4 [.s (.c 9 0)]) (.cond (.c 10 0) (.em (.call 9 [] [none]) (.ret (.v (.s (.c 11 0))))) (.em (.call 25 [.g [.c 3 0, .c 3 1, .c 3 2, .c 3 3], .g [.c 4 0, .c 4 1, .c 4 2, .c 4 3]] [none]) (.em (.call 27 [.g [.c 3 0, .c 3 1, .c 3 2, .c 3 3], .g [.c 4 0, .c 4 1, .c 4 2, .c 4 3]] [some 4]) (.em (.call 36 [.s (.k (.int .i64 2))] [some 4]) (.em (.call 18 [.g [.c 12 0, .c 12 1, .c 12 2, .c 12 3], .g [.c 13 0, .c 13 1, .c 13 2, .c 13 3]] [some 4, none]) (.cond (.c 14 4) (.em (.call 27 [.g [.c 3 0, .c 3 1, .c 3 2, .c 3 3], .g [.c 5 0, .c 5 1, .c 5 2, .c 5 3]] [some 4]) (.em (.call 27 [.g [.c 4 0, .c 4 1, .c 4 2, .c 4 3], .g [.c 5 0, .c 5 1, .c 5 2, .c 5 3]] [some 4]) (.em (.call 25 [.g [.c 15 0, .c 15 1, .c 15 2, .c 15 3], .g [.c 16 0, .c 16 1, .c 16 2, .c 16 3]] [none]) (.em (.pr (.binOp .eql 3 (.tmp 0) (.tmp 1) 3) 4 [.s (.c 17 0), .s (.c 11 0)]) (.cond (.c 18 0) (.em (.call 25 [.g [.c 3 0, .c 3 1, .c 3 2, .c 3 3], .g [.c 14 0, .c 14 1, .c 14 2, .c 14 3]] [none]) (.em (.pr (.binOp .eql 3 (.tmp 0) (.tmp 1) 3) 4 [.s (.c 19 0), .s (.c 11 0)]) (.cond (.c 20 0) (.em (.call 25 [.g [.c 14 0, .c 14 1, .c 14 2, .c 14 3], .g [.c 4 0, .c 4 1, .c 4 2, .c 4 3]] [none]) (.em (.pr (.binOp .eql 3 (.tmp 0) (.tmp 1) 3) 4 [.s (.c 21 0), .s (.c 11 0)]) (.cond (.c 22 0) (.em (.call 26 [.g [.c 3 0, .c 3 1, .c 3 2, .c 3 3], .g [.c 5 0, .c 5 1, .c 5 2, .c 5 3]] [some 4]) (.em (.call 26 [.g [.c 4 0, .c 4 1, .c 4 2, .c 4 3], .g [.c 5 0, .c 5 1, .c 5 2, .c 5 3]] [some 4]) (.em (.call 25 [.g [.c 23 0, .c 23 1, .c 23 2, .c 23 3], .g [.c 24 0, .c 24 1, .c 24 2, .c 24 3]] [none]) (.em (.call 24 [.g [.c 5 0, .c 5 1, .c 5 2, .c 5 3]] [none]) (.em (.pr (.binOp .mul 3 (.tmp 0) (.tmp 1) 3) 3 [.s (.c 11 0), .s (.c 26 0)]) (.em (.pr (.binOp .eql 3 (.tmp 0) (.tmp 1) 3) 4 [.s (.c 25 0), .s (.c 27 0)]) (.ret (.v (.s (.c 28 0)))))))))) (.ret (.v (.s (.k (.bool false)))))))) (.ret (.v (.s (.k (.bool false)))))))) (.ret (.v (.s (.k (.bool false)))))))))) (.ret (.v (.s (.k (.bool false))))))))))))))))))))))) (by kernel_rfl) (by kernel_rfl) (by kernel_rfl) Mono.true trivial ⟨rfl, rfl, rfl, trivial⟩ ?_
  by_cases ka : NumQ a
  · refine wBoth (fun w _ _ => numY a w (Nat.le_trans ha maxLen_le) ka) rfl (fun a0 b0 c0 d0 e0 f0 g0 => ?_)
    by_cases kb : NumQ b
    · refine wBoth (fun w _ _ => numY b w (Nat.le_trans hb maxLen_le) kb) rfl (fun a1 b1 c1 d1 e1 f1 g1 => ?_)
      by_cases kc : NumQ c
      · refine wBoth (fun w _ _ => numY c w (Nat.le_trans hc maxLen_le) kc) rfl (fun a2 b2 c2 d2 e2 f2 g2 => ?_)
        refine wPr (prNot rfl) rfl ?_
        refine wFalse rfl ?_
        refine wPr (prNot rfl) rfl ?_
        refine wFalse rfl ?_
        refine wPr (prNot rfl) rfl ?_
        refine wFalse rfl ?_
        refine wVal (fun w b _ => alive3_any w (hT.below b)) rfl ?_
        refine wPr (prNot rfl) rfl ?_
        refine wFalse rfl ?_
        generalize ratVal a = x
        generalize ratVal b = y
        generalize ratVal c = z
        refine wVal (fun w b ⟨_, _, hq, _, hp, _⟩ => qcmp_any _ _ x y 21 21 w ⟨_, _, _, _, rfl, hp⟩ ⟨_, _, _, _, rfl, hq⟩ (by decide) (by decide)) rfl ?_
        refine wRat (fun w b ⟨_, _, hq, _, hp, _⟩ => qadd_any _ _ x y 21 21 w ⟨_, _, _, _, rfl, hp⟩ ⟨_, _, _, _, rfl, hq⟩ (by decide) (by decide)) (fun _ _ _ _ => ?_)
        refine wRat (fun w b _ => qof_any 2 w (by decide) (by decide)) (fun _ _ _ _ => ?_)
        refine wRatV (fun w b ⟨h2, h1, _⟩ => qdiv_any _ _ _ _ 43 2 w ⟨_, _, _, _, rfl, h1⟩ ⟨_, _, _, _, rfl, h2⟩ (by decide) (by decide) (by show (2 : Int) ≠ 0; decide)) rfl (fun _ _ _ _ => ?_)
        refine wTrue rfl ?_
        refine wRat (fun w b ⟨_, _, _, hr, _, _, _, hp, _⟩ => qadd_any _ _ x z 21 21 w ⟨_, _, _, _, rfl, hp⟩ ⟨_, _, _, _, rfl, hr⟩ (by decide) (by decide)) (fun _ _ _ _ => ?_)
        refine wRat (fun w b ⟨_, _, _, _, hr, _, hq, _⟩ => qadd_any _ _ y z 21 21 w ⟨_, _, _, _, rfl, hq⟩ ⟨_, _, _, _, rfl, hr⟩ (by decide) (by decide)) (fun _ _ _ _ => ?_)
        refine wVal (fun w b ⟨h5, h4, _⟩ => qcmp_any _ _ _ _ 43 43 w ⟨_, _, _, _, rfl, h4⟩ ⟨_, _, _, _, rfl, h5⟩ (by decide) (by decide)) rfl ?_
        refine wPr (prEq rfl rfl) rfl ?_
        refine wTrue (by show Value.bool (_ == _) = _; rw [cmpQ_add, beq_self_eq_true]) ?_
        refine wVal (fun w b ⟨_, _, h3, _, _, _, _, _, _, hp, _⟩ => qcmp_any _ _ _ _ 21 45 w ⟨_, _, _, _, rfl, hp⟩ ⟨_, _, _, _, rfl, h3⟩ (by decide) (by decide)) rfl ?_
        refine wPr (prEq rfl rfl) rfl ?_
        refine wTrue (by show Value.bool (_ == _) = _; rw [cmpQ_mid1, beq_self_eq_true]) ?_
        refine wVal (fun w b ⟨_, _, h3, _, _, _, _, hq, _⟩ => qcmp_any _ _ _ _ 45 21 w ⟨_, _, _, _, rfl, h3⟩ ⟨_, _, _, _, rfl, hq⟩ (by decide) (by decide)) rfl ?_
        refine wPr (prEq rfl rfl) rfl ?_
        refine wTrue (by show Value.bool (_ == _) = _; rw [cmpQ_mid2, beq_self_eq_true]) ?_
        refine wRat (fun w b ⟨_, _, _, _, _, hr, _, _, _, hp, _⟩ => qmul_any _ _ x z 21 21 w ⟨_, _, _, _, rfl, hp⟩ ⟨_, _, _, _, rfl, hr⟩ (by decide) (by decide)) (fun _ _ _ _ => ?_)
        refine wRat (fun w b ⟨_, _, _, _, _, _, hr, _, hq, _⟩ => qmul_any _ _ y z 21 21 w ⟨_, _, _, _, rfl, hq⟩ ⟨_, _, _, _, rfl, hr⟩ (by decide) (by decide)) (fun _ _ _ _ => ?_)
        refine wVal (fun w b ⟨h7, h6, _⟩ => qcmp_any _ _ _ _ 42 42 w ⟨_, _, _, _, rfl, h6⟩ ⟨_, _, _, _, rfl, h7⟩ (by decide) (by decide)) rfl ?_
        refine wVal (fun w b ⟨_, _, _, _, _, _, _, hr, _⟩ => qsign_any _ z 21 w ⟨_, _, _, _, rfl, hr⟩ (by decide)) rfl ?_
        refine wPr (prMul rfl rfl) rfl ?_
        refine wPr (prEq rfl rfl) rfl ?_
        refine wRet fun w b _ => ⟨?_, b⟩
        show Ending.returned (.bool (_ == _)) = _
        rw [wrap_sign (cmpQ_cases x y) (sgnZ_cases _), cmpQ_mul, beq_self_eq_true]
      · refine wKnown [.bool false, .slice none 0 0, .bool false, .slice none 0 0, .bool false, .slice none 0 0, .slice none 0 0, .bool false] (fun w _ _ => numN c w (Nat.le_trans hc maxLen_le) kc) rfl rfl ?_
        refine wPr (prNot rfl) rfl ?_
        refine wFalse rfl ?_
        refine wPr (prNot rfl) rfl ?_
        refine wFalse rfl ?_
        refine wPr (prNot rfl) rfl ?_
        refine wTrue rfl ?_
        refine wVal (fun w b _ => alive3_any w (hT.below b)) rfl ?_
        exact wRet fun w b _ => ⟨rfl, b⟩
    · refine wKnown [.bool false, .slice none 0 0, .bool false, .slice none 0 0, .bool false, .slice none 0 0, .slice none 0 0, .bool false] (fun w _ _ => numN b w (Nat.le_trans hb maxLen_le) kb) rfl rfl ?_
      by_cases kc : NumQ c
      · refine wBoth (fun w _ _ => numY c w (Nat.le_trans hc maxLen_le) kc) rfl (fun a2 b2 c2 d2 e2 f2 g2 => ?_)
        refine wPr (prNot rfl) rfl ?_
        refine wFalse rfl ?_
        refine wPr (prNot rfl) rfl ?_
        refine wTrue rfl ?_
        refine wVal (fun w b _ => alive3_any w (hT.below b)) rfl ?_
        exact wRet fun w b _ => ⟨rfl, b⟩
      · refine wKnown [.bool false, .slice none 0 0, .bool false, .slice none 0 0, .bool false, .slice none 0 0, .slice none 0 0, .bool false] (fun w _ _ => numN c w (Nat.le_trans hc maxLen_le) kc) rfl rfl ?_
        refine wPr (prNot rfl) rfl ?_
        refine wFalse rfl ?_
        refine wPr (prNot rfl) rfl ?_
        refine wTrue rfl ?_
        refine wVal (fun w b _ => alive3_any w (hT.below b)) rfl ?_
        exact wRet fun w b _ => ⟨rfl, b⟩
  · refine wKnown [.bool false, .slice none 0 0, .bool false, .slice none 0 0, .bool false, .slice none 0 0, .slice none 0 0, .bool false] (fun w _ _ => numN a w (Nat.le_trans ha maxLen_le) ka) rfl rfl ?_
    by_cases kb : NumQ b
    · refine wBoth (fun w _ _ => numY b w (Nat.le_trans hb maxLen_le) kb) rfl (fun a1 b1 c1 d1 e1 f1 g1 => ?_)
      by_cases kc : NumQ c
      · refine wBoth (fun w _ _ => numY c w (Nat.le_trans hc maxLen_le) kc) rfl (fun a2 b2 c2 d2 e2 f2 g2 => ?_)
        refine wPr (prNot rfl) rfl ?_
        refine wTrue rfl ?_
        refine wVal (fun w b _ => alive3_any w (hT.below b)) rfl ?_
        exact wRet fun w b _ => ⟨rfl, b⟩
      · refine wKnown [.bool false, .slice none 0 0, .bool false, .slice none 0 0, .bool false, .slice none 0 0, .slice none 0 0, .bool false] (fun w _ _ => numN c w (Nat.le_trans hc maxLen_le) kc) rfl rfl ?_
        refine wPr (prNot rfl) rfl ?_
        refine wTrue rfl ?_
        refine wVal (fun w b _ => alive3_any w (hT.below b)) rfl ?_
        exact wRet fun w b _ => ⟨rfl, b⟩
    · refine wKnown [.bool false, .slice none 0 0, .bool false, .slice none 0 0, .bool false, .slice none 0 0, .slice none 0 0, .bool false] (fun w _ _ => numN b w (Nat.le_trans hb maxLen_le) kb) rfl rfl ?_
      by_cases kc : NumQ c
      · refine wBoth (fun w _ _ => numY c w (Nat.le_trans hc maxLen_le) kc) rfl (fun a2 b2 c2 d2 e2 f2 g2 => ?_)
        refine wPr (prNot rfl) rfl ?_
        refine wTrue rfl ?_
        refine wVal (fun w b _ => alive3_any w (hT.below b)) rfl ?_
        exact wRet fun w b _ => ⟨rfl, b⟩
      · refine wKnown [.bool false, .slice none 0 0, .bool false, .slice none 0 0, .bool false, .slice none 0 0, .slice none 0 0, .bool false] (fun w _ _ => numN c w (Nat.le_trans hc maxLen_le) kc) rfl rfl ?_
        refine wPr (prNot rfl) rfl ?_
        refine wTrue rfl ?_
        refine wVal (fun w b _ => alive3_any w (hT.below b)) rfl ?_
        exact wRet fun w b _ => ⟨rfl, b⟩

theorem cmpQ_self (x : Rat) : cmpQ x x = 0 := by unfold cmpQ; rw [if_neg (by grind), if_neg (by grind)]
theorem num_ne {x : Rat} (h : x.num ≠ 0) : x ≠ 0 := fun e => h (by rw [e]; rfl)
theorem field1 (x y z : Rat) : cmpQ ((x + y) * z) (z * x + z * y) = 0 := by rw [show (x + y) * z = z * x + z * y by grind]; exact cmpQ_self _
theorem field2 (x y : Rat) : cmpQ (x - y) (-(y - x)) = 0 := by rw [show x - y = -(y - x) by grind]; exact cmpQ_self _
theorem field3 (x z : Rat) (h : z.num ≠ 0) : cmpQ (x / z * z) x = 0 := by
  have := num_ne h
  rw [show x / z * z = x by grind]; exact cmpQ_self _

set_option maxHeartbeats 4000000 in
/-- The law RatFields holds of every 3 texts. -/
theorem ratFields_any (a b c : ByteArray) (w : World) (hT : Tabs w) (ha : a.size ≤ maxLen) (hb : b.size ≤ maxLen) (hc : c.size ≤ maxLen) :
    Calls Tryz.prog 5 #[.string a, .string b, .string c] w fun e w' => e = .returned (.bool true) ∧ Below w.heap.size w w' := by
  refine go (fun _ => True) [[.string a], [.string b], [.string c]] [none, none, none] (tr := (.em (.call 17 [.s (.c 0 0)] [some 4, some 3, none]) (.em (.call 17 [.s (.c 1 0)] [some 4, some 3, none]) (.em (.call 17 [.s (.c 2 0)] [some 4, some 3, none]) (.em (.pr (.unOp .not 4 (.tmp 0)) 4 [.s (.c 3 7)]) (.cond (.c 6 0) (.em (.call 9 [] [none]) (.ret (.v (.s (.c 7 0))))) (.em (.pr (.unOp .not 4 (.tmp 0)) 4 [.s (.c 4 7)]) (.cond (.c 7 0) (.em (.call 9 [] [none]) (.ret (.v (.s (.c 8 0))))) (.em (.pr (.unOp .not 4 (.tmp 0)) 4 [.s (.c 5 7)]) (.cond (.c 8 0) (.em (.call 9 [] [none]) (.ret (.v (.s (.c 9 0))))) (.em (.call 9 [] [none]) (.em (.pr (.unOp .not 4 (.tmp 0)) 4 [.s (.c 9 0)]) (.cond (.c 10 0) (.em (.call 9 [] [none]) (.ret (.v (.s (.c 11 0))))) (.em (.call 18 [.g [.c 3 0, .c 3 1, .c 3 2, .c 3 3], .g [.c 5 0, .c 5 1, .c 5 2, .c 5 3]] [some 4, none]) (.em (.call 24 [.g [.c 5 0, .c 5 1, .c 5 2, .c 5 3]] [none]) (.em (.pr (.binOp .neq 3 (.tmp 0) (.const (.int .i64 0)) 3) 4 [.s (.c 12 0), .s (.k (.int .i64 0))]) (.em (.pr (.binOp .neq 4 (.tmp 0) (.tmp 1) 4) 4 [.s (.c 11 4), .s (.c 13 0)]) (.cond (.c 14 0) (.ret (.v (.s (.k (.bool false))))) (.cond (.c 11 4) (.em (.call 26 [.g [.c 11 0, .c 11 1, .c 11 2, .c 11 3], .g [.c 5 0, .c 5 1, .c 5 2, .c 5 3]] [some 4]) (.em (.call 25 [.g [.c 15 0, .c 15 1, .c 15 2, .c 15 3], .g [.c 3 0, .c 3 1, .c 3 2, .c 3 3]] [none]) (.em (.pr (.binOp .neq 3 (.tmp 0) (.const (.int .i64 0)) 3) 4 [.s (.c 16 0), .s (.k (.int .i64 0))]) (.cond (.c 17 0) (.ret (.v (.s (.k (.bool false))))) (.em (.call 27 [.g [.c 3 0, .c 3 1, .c 3 2, .c 3 3], .g [.c 4 0, .c 4 1, .c 4 2, .c 4 3]] [some 4]) (.em (.call 26 [.g [.c 18 0, .c 18 1, .c 18 2, .c 18 3], .g [.c 5 0, .c 5 1, .c 5 2, .c 5 3]] [some 4]) (.em (.call 26 [.g [.c 5 0, .c 5 1, .c 5 2, .c 5 3], .g [.c 3 0, .c 3 1, .c 3 2, .c 3 3]] [some 4]) (.em (.call 26 [.g [.c 5 0, .c 5 1, .c 5 2, .c 5 3], .g [.c 4 0, .c 4 1, .c 4 2, .c 4 3]] [some 4]) (.em (.call 27 [.g [.c 20 0, .c 20 1, .c 20 2, .c 20 3], .g [.c 21 0, .c 21 1, .c 21 2, .c 21 3]] [some 4]) (.em (.call 25 [.g [.c 19 0, .c 19 1, .c 19 2, .c 19 3], .g [.c 22 0, .c 22 1, .c 22 2, .c 22 3]] [none]) (.em (.pr (.binOp .eql 3 (.tmp 0) (.const (.int .i64 0)) 3) 4 [.s (.c 23 0), .s (.k (.int .i64 0))]) (.cond (.c 24 0) (.em (.call 28 [.g [.c 3 0, .c 3 1, .c 3 2, .c 3 3], .g [.c 4 0, .c 4 1, .c 4 2, .c 4 3]] [some 4]) (.em (.call 28 [.g [.c 4 0, .c 4 1, .c 4 2, .c 4 3], .g [.c 3 0, .c 3 1, .c 3 2, .c 3 3]] [some 4]) (.em (.call 29 [.g [.c 26 0, .c 26 1, .c 26 2, .c 26 3]] [some 4]) (.em (.call 25 [.g [.c 25 0, .c 25 1, .c 25 2, .c 25 3], .g [.c 27 0, .c 27 1, .c 27 2, .c 27 3]] [none]) (.em (.pr (.binOp .eql 3 (.tmp 0) (.const (.int .i64 0)) 3) 4 [.s (.c 28 0), .s (.k (.int .i64 0))]) (.ret (.v (.s (.c 29 0))))))))) (.ret (.v (.s (.k (.bool false))))))))))))))))) (.em (.call 27 [.g [.c 3 0, .c 3 1, .c 3 2, .c 3 3], .g [.c 4 0, .c 4 1, .c 4 2, .c 4 3]] [some 4]) (.em (.call 26 [.g [.c 15 0, .c 15 1, .c 15 2, .c 15 3], .g [.c 5 0, .c 5 1, .c 5 2, .c 5 3]] [some 4]) (.em (.call 26 [.g [.c 5 0, .c 5 1, .c 5 2, .c 5 3], .g [.c 3 0, .c 3 1, .c 3 2, .c 3 3]] [some 4]) (.em (.call 26 [.g [.c 5 0, .c 5 1, .c 5 2, .c 5 3], .g [.c 4 0, .c 4 1, .c 4 2, .c 4 3]] [some 4]) (.em (.call 27 [.g [.c 17 0, .c 17 1, .c 17 2, .c 17 3], .g [.c 18 0, .c 18 1, .c 18 2, .c 18 3]] [some 4]) (.em (.call 25 [.g [.c 16 0, .c 16 1, .c 16 2, .c 16 3], .g [.c 19 0, .c 19 1, .c 19 2, .c 19 3]] [none]) (.em (.pr (.binOp .eql 3 (.tmp 0) (.const (.int .i64 0)) 3) 4 [.s (.c 20 0), .s (.k (.int .i64 0))]) (.cond (.c 21 0) (.em (.call 28 [.g [.c 3 0, .c 3 1, .c 3 2, .c 3 3], .g [.c 4 0, .c 4 1, .c 4 2, .c 4 3]] [some 4]) (.em (.call 28 [.g [.c 4 0, .c 4 1, .c 4 2, .c 4 3], .g [.c 3 0, .c 3 1, .c 3 2, .c 3 3]] [some 4]) (.em (.call 29 [.g [.c 23 0, .c 23 1, .c 23 2, .c 23 3]] [some 4]) (.em (.call 25 [.g [.c 22 0, .c 22 1, .c 22 2, .c 22 3], .g [.c 24 0, .c 24 1, .c 24 2, .c 24 3]] [none]) (.em (.pr (.binOp .eql 3 (.tmp 0) (.const (.int .i64 0)) 3) 4 [.s (.c 25 0), .s (.k (.int .i64 0))]) (.ret (.v (.s (.c 26 0))))))))) (.ret (.v (.s (.k (.bool false)))))))))))))))))))))))))))))))) (by kernel_rfl) (by kernel_rfl) (by kernel_rfl) Mono.true trivial ⟨rfl, rfl, rfl, trivial⟩ ?_
  by_cases ka : NumQ a
  · refine wBoth (fun w _ _ => numY a w (Nat.le_trans ha maxLen_le) ka) rfl (fun a0 b0 c0 d0 e0 f0 g0 => ?_)
    by_cases kb : NumQ b
    · refine wBoth (fun w _ _ => numY b w (Nat.le_trans hb maxLen_le) kb) rfl (fun a1 b1 c1 d1 e1 f1 g1 => ?_)
      by_cases kc : NumQ c
      · refine wBoth (fun w _ _ => numY c w (Nat.le_trans hc maxLen_le) kc) rfl (fun a2 b2 c2 d2 e2 f2 g2 => ?_)
        refine wPr (prNot rfl) rfl ?_
        refine wFalse rfl ?_
        refine wPr (prNot rfl) rfl ?_
        refine wFalse rfl ?_
        refine wPr (prNot rfl) rfl ?_
        refine wFalse rfl ?_
        refine wVal (fun w b _ => alive3_any w (hT.below b)) rfl ?_
        refine wPr (prNot rfl) rfl ?_
        refine wFalse rfl ?_
        generalize ratVal a = x
        generalize ratVal b = y
        generalize ratVal c = z
        by_cases hz : z.num = 0
        · refine wKnown [.bool false, .slice none 0 0, .bool false, .slice none 0 0, .bool false] (fun w b ⟨hr, _, _, _, hp, _⟩ => qdivZero_any _ _ x z 21 21 w ⟨_, _, _, _, rfl, hp⟩ ⟨_, _, _, _, rfl, hr⟩ (by decide) hz) rfl rfl ?_
          refine wVal (fun w b ⟨hr, _⟩ => qsign_any _ z 21 w ⟨_, _, _, _, rfl, hr⟩ (by decide)) rfl ?_
          refine wPr (prNe rfl rfl) rfl ?_
          refine wPr (prBNe hBool rfl rfl) rfl ?_
          refine wFalse (by show Value.bool (!(false == (sgnZ z.num != 0))) = _; rw [hz]; rfl) ?_
          refine wFalse rfl ?_
          refine wRat (fun w b ⟨_, _, hq, _, hp, _⟩ => qadd_any _ _ x y 21 21 w ⟨_, _, _, _, rfl, hp⟩ ⟨_, _, _, _, rfl, hq⟩ (by decide) (by decide)) (fun _ _ _ _ => ?_)
          refine wRat (fun w b ⟨h1, hr, _⟩ => qmul_any _ _ _ z 43 21 w ⟨_, _, _, _, rfl, h1⟩ ⟨_, _, _, _, rfl, hr⟩ (by decide) (by decide)) (fun _ _ _ _ => ?_)
          refine wRat (fun w b ⟨_, _, hr, _, _, _, hp, _⟩ => qmul_any _ _ z x 21 21 w ⟨_, _, _, _, rfl, hr⟩ ⟨_, _, _, _, rfl, hp⟩ (by decide) (by decide)) (fun _ _ _ _ => ?_)
          refine wRat (fun w b ⟨_, _, _, hr, _, hq, _⟩ => qmul_any _ _ z y 21 21 w ⟨_, _, _, _, rfl, hr⟩ ⟨_, _, _, _, rfl, hq⟩ (by decide) (by decide)) (fun _ _ _ _ => ?_)
          refine wRat (fun w b ⟨h4, h3, _⟩ => qadd_any _ _ _ _ 42 42 w ⟨_, _, _, _, rfl, h3⟩ ⟨_, _, _, _, rfl, h4⟩ (by decide) (by decide)) (fun _ _ _ _ => ?_)
          refine wVal (fun w b ⟨h5, _, _, h2, _⟩ => qcmp_any _ _ _ _ 64 85 w ⟨_, _, _, _, rfl, h2⟩ ⟨_, _, _, _, rfl, h5⟩ (by decide) (by decide)) rfl ?_
          refine wPr (prEq rfl rfl) rfl ?_
          refine wTrue (by show Value.bool (_ == _) = _; rw [field1]; rfl) ?_
          refine wRat (fun w b ⟨_, _, _, _, _, _, _, hq, _, hp, _⟩ => qsub_any _ _ x y 21 21 w ⟨_, _, _, _, rfl, hp⟩ ⟨_, _, _, _, rfl, hq⟩ (by decide) (by decide)) (fun _ _ _ _ => ?_)
          refine wRat (fun w b ⟨_, _, _, _, _, _, _, _, hq, _, hp, _⟩ => qsub_any _ _ y x 21 21 w ⟨_, _, _, _, rfl, hq⟩ ⟨_, _, _, _, rfl, hp⟩ (by decide) (by decide)) (fun _ _ _ _ => ?_)
          refine wRat (fun w b ⟨h7, _⟩ => qneg_any _ _ 43 w ⟨_, _, _, _, rfl, h7⟩ (by decide)) (fun _ _ _ _ => ?_)
          refine wVal (fun w b ⟨h8, _, h6, _⟩ => qcmp_any _ _ _ _ 43 43 w ⟨_, _, _, _, rfl, h6⟩ ⟨_, _, _, _, rfl, h8⟩ (by decide) (by decide)) rfl ?_
          refine wPr (prEq rfl rfl) rfl ?_
          refine wRet fun w b _ => ⟨?_, b⟩
          show Ending.returned (.bool (_ == _)) = _
          rw [field2]; rfl
        · refine wRatV (fun w b ⟨hr, _, _, _, hp, _⟩ => qdiv_any _ _ x z 21 21 w ⟨_, _, _, _, rfl, hp⟩ ⟨_, _, _, _, rfl, hr⟩ (by decide) (by decide) hz) rfl (fun _ _ _ _ => ?_)
          refine wVal (fun w b ⟨_, hr, _⟩ => qsign_any _ z 21 w ⟨_, _, _, _, rfl, hr⟩ (by decide)) rfl ?_
          refine wPr (prNe rfl rfl) rfl ?_
          refine wPr (prBNe hBool rfl rfl) rfl ?_
          refine wFalse (by show Value.bool (!(true == (sgnZ z.num != 0))) = _; rw [show (sgnZ z.num != 0) = true by unfold bne; rw [sgn_zero, decide_eq_false hz]; rfl]; rfl) ?_
          refine wTrue rfl ?_
          refine wRat (fun w b ⟨hd, hr, _⟩ => qmul_any _ _ (x / z) z 42 21 w ⟨_, _, _, _, rfl, hd⟩ ⟨_, _, _, _, rfl, hr⟩ (by decide) (by decide)) (fun _ _ _ _ => ?_)
          refine wVal (fun w b ⟨hm, _, _, _, _, _, hp, _⟩ => qcmp_any _ _ _ _ 63 21 w ⟨_, _, _, _, rfl, hm⟩ ⟨_, _, _, _, rfl, hp⟩ (by decide) (by decide)) rfl ?_
          refine wPr (prNe rfl rfl) rfl ?_
          refine wFalse (by show Value.bool (_ != _) = _; rw [field3 x z hz]; rfl) ?_
          refine wRat (fun w b ⟨_, _, _, _, hq, _, hp, _⟩ => qadd_any _ _ x y 21 21 w ⟨_, _, _, _, rfl, hp⟩ ⟨_, _, _, _, rfl, hq⟩ (by decide) (by decide)) (fun _ _ _ _ => ?_)
          refine wRat (fun w b ⟨h1, _, _, hr, _⟩ => qmul_any _ _ _ z 43 21 w ⟨_, _, _, _, rfl, h1⟩ ⟨_, _, _, _, rfl, hr⟩ (by decide) (by decide)) (fun _ _ _ _ => ?_)
          refine wRat (fun w b ⟨_, _, _, _, hr, _, _, _, hp, _⟩ => qmul_any _ _ z x 21 21 w ⟨_, _, _, _, rfl, hr⟩ ⟨_, _, _, _, rfl, hp⟩ (by decide) (by decide)) (fun _ _ _ _ => ?_)
          refine wRat (fun w b ⟨_, _, _, _, _, hr, _, hq, _⟩ => qmul_any _ _ z y 21 21 w ⟨_, _, _, _, rfl, hr⟩ ⟨_, _, _, _, rfl, hq⟩ (by decide) (by decide)) (fun _ _ _ _ => ?_)
          refine wRat (fun w b ⟨h4, h3, _⟩ => qadd_any _ _ _ _ 42 42 w ⟨_, _, _, _, rfl, h3⟩ ⟨_, _, _, _, rfl, h4⟩ (by decide) (by decide)) (fun _ _ _ _ => ?_)
          refine wVal (fun w b ⟨h5, _, _, h2, _⟩ => qcmp_any _ _ _ _ 64 85 w ⟨_, _, _, _, rfl, h2⟩ ⟨_, _, _, _, rfl, h5⟩ (by decide) (by decide)) rfl ?_
          refine wPr (prEq rfl rfl) rfl ?_
          refine wTrue (by show Value.bool (_ == _) = _; rw [field1]; rfl) ?_
          refine wRat (fun w b ⟨_, _, _, _, _, _, _, _, _, hq, _, hp, _⟩ => qsub_any _ _ x y 21 21 w ⟨_, _, _, _, rfl, hp⟩ ⟨_, _, _, _, rfl, hq⟩ (by decide) (by decide)) (fun _ _ _ _ => ?_)
          refine wRat (fun w b ⟨_, _, _, _, _, _, _, _, _, _, hq, _, hp, _⟩ => qsub_any _ _ y x 21 21 w ⟨_, _, _, _, rfl, hq⟩ ⟨_, _, _, _, rfl, hp⟩ (by decide) (by decide)) (fun _ _ _ _ => ?_)
          refine wRat (fun w b ⟨h7, _⟩ => qneg_any _ _ 43 w ⟨_, _, _, _, rfl, h7⟩ (by decide)) (fun _ _ _ _ => ?_)
          refine wVal (fun w b ⟨h8, _, h6, _⟩ => qcmp_any _ _ _ _ 43 43 w ⟨_, _, _, _, rfl, h6⟩ ⟨_, _, _, _, rfl, h8⟩ (by decide) (by decide)) rfl ?_
          refine wPr (prEq rfl rfl) rfl ?_
          refine wRet fun w b _ => ⟨?_, b⟩
          show Ending.returned (.bool (_ == _)) = _
          rw [field2]; rfl
      · refine wKnown [.bool false, .slice none 0 0, .bool false, .slice none 0 0, .bool false, .slice none 0 0, .slice none 0 0, .bool false] (fun w _ _ => numN c w (Nat.le_trans hc maxLen_le) kc) rfl rfl ?_
        refine wPr (prNot rfl) rfl ?_
        refine wFalse rfl ?_
        refine wPr (prNot rfl) rfl ?_
        refine wFalse rfl ?_
        refine wPr (prNot rfl) rfl ?_
        refine wTrue rfl ?_
        refine wVal (fun w b _ => alive3_any w (hT.below b)) rfl ?_
        exact wRet fun w b _ => ⟨rfl, b⟩
    · refine wKnown [.bool false, .slice none 0 0, .bool false, .slice none 0 0, .bool false, .slice none 0 0, .slice none 0 0, .bool false] (fun w _ _ => numN b w (Nat.le_trans hb maxLen_le) kb) rfl rfl ?_
      by_cases kc : NumQ c
      · refine wBoth (fun w _ _ => numY c w (Nat.le_trans hc maxLen_le) kc) rfl (fun a2 b2 c2 d2 e2 f2 g2 => ?_)
        refine wPr (prNot rfl) rfl ?_
        refine wFalse rfl ?_
        refine wPr (prNot rfl) rfl ?_
        refine wTrue rfl ?_
        refine wVal (fun w b _ => alive3_any w (hT.below b)) rfl ?_
        exact wRet fun w b _ => ⟨rfl, b⟩
      · refine wKnown [.bool false, .slice none 0 0, .bool false, .slice none 0 0, .bool false, .slice none 0 0, .slice none 0 0, .bool false] (fun w _ _ => numN c w (Nat.le_trans hc maxLen_le) kc) rfl rfl ?_
        refine wPr (prNot rfl) rfl ?_
        refine wFalse rfl ?_
        refine wPr (prNot rfl) rfl ?_
        refine wTrue rfl ?_
        refine wVal (fun w b _ => alive3_any w (hT.below b)) rfl ?_
        exact wRet fun w b _ => ⟨rfl, b⟩
  · refine wKnown [.bool false, .slice none 0 0, .bool false, .slice none 0 0, .bool false, .slice none 0 0, .slice none 0 0, .bool false] (fun w _ _ => numN a w (Nat.le_trans ha maxLen_le) ka) rfl rfl ?_
    by_cases kb : NumQ b
    · refine wBoth (fun w _ _ => numY b w (Nat.le_trans hb maxLen_le) kb) rfl (fun a1 b1 c1 d1 e1 f1 g1 => ?_)
      by_cases kc : NumQ c
      · refine wBoth (fun w _ _ => numY c w (Nat.le_trans hc maxLen_le) kc) rfl (fun a2 b2 c2 d2 e2 f2 g2 => ?_)
        refine wPr (prNot rfl) rfl ?_
        refine wTrue rfl ?_
        refine wVal (fun w b _ => alive3_any w (hT.below b)) rfl ?_
        exact wRet fun w b _ => ⟨rfl, b⟩
      · refine wKnown [.bool false, .slice none 0 0, .bool false, .slice none 0 0, .bool false, .slice none 0 0, .slice none 0 0, .bool false] (fun w _ _ => numN c w (Nat.le_trans hc maxLen_le) kc) rfl rfl ?_
        refine wPr (prNot rfl) rfl ?_
        refine wTrue rfl ?_
        refine wVal (fun w b _ => alive3_any w (hT.below b)) rfl ?_
        exact wRet fun w b _ => ⟨rfl, b⟩
    · refine wKnown [.bool false, .slice none 0 0, .bool false, .slice none 0 0, .bool false, .slice none 0 0, .slice none 0 0, .bool false] (fun w _ _ => numN b w (Nat.le_trans hb maxLen_le) kb) rfl rfl ?_
      by_cases kc : NumQ c
      · refine wBoth (fun w _ _ => numY c w (Nat.le_trans hc maxLen_le) kc) rfl (fun a2 b2 c2 d2 e2 f2 g2 => ?_)
        refine wPr (prNot rfl) rfl ?_
        refine wTrue rfl ?_
        refine wVal (fun w b _ => alive3_any w (hT.below b)) rfl ?_
        exact wRet fun w b _ => ⟨rfl, b⟩
      · refine wKnown [.bool false, .slice none 0 0, .bool false, .slice none 0 0, .bool false, .slice none 0 0, .slice none 0 0, .bool false] (fun w _ _ => numN c w (Nat.le_trans hc maxLen_le) kc) rfl rfl ?_
        refine wPr (prNot rfl) rfl ?_
        refine wTrue rfl ?_
        refine wVal (fun w b _ => alive3_any w (hT.below b)) rfl ?_
        exact wRet fun w b _ => ⟨rfl, b⟩

theorem ratS_zero : ratS 0 = ⟨#[48]⟩ := by
  unfold ratS
  rw [if_pos (show Rat.den 0 = 1 from rfl)]
  exact intS_dig (n := 0) (by decide)
theorem zeroQ (w : World) (k : Nat) (hk : 1 ≤ k) : RatB w (.agg #[.bool false, .slice none 0 0, .bool false, .slice none 0 0]) 0 k := ⟨_, _, _, _, rfl, IntB.zero _ _ _, IntB.zero _ _ _, one_lt k hk⟩

set_option maxHeartbeats 4000000 in
/-- The law RatDivides holds of every 2 texts. -/
theorem ratDivides_any (a b : ByteArray) (w : World) (hT : Tabs w) (ha : a.size ≤ maxLen) (hb : b.size ≤ maxLen) :
    Calls Tryz.prog 4 #[.string a, .string b] w fun e w' => e = .returned (.bool true) ∧ Below w.heap.size w w' := by
  refine go (fun _ => True) [[.string a], [.string b]] [none, none] (tr := (.em (.call 17 [.s (.c 0 0)] [some 4, some 3, none]) (.em (.call 17 [.s (.c 1 0)] [some 4, some 3, none]) (.em (.pr (.unOp .not 4 (.tmp 0)) 4 [.s (.c 2 7)]) (.cond (.c 4 0) (.em (.call 9 [] [none]) (.ret (.v (.s (.c 5 0))))) (.em (.pr (.unOp .not 4 (.tmp 0)) 4 [.s (.c 3 7)]) (.cond (.c 5 0) (.em (.call 9 [] [none]) (.ret (.v (.s (.c 6 0))))) (.em (.call 9 [] [none]) (.em (.pr (.unOp .not 4 (.tmp 0)) 4 [.s (.c 6 0)]) (.cond (.c 7 0) (.em (.call 9 [] [none]) (.ret (.v (.s (.c 8 0))))) (.em (.call 18 [.g [.c 2 0, .c 2 1, .c 2 2, .c 2 3], .g [.c 3 0, .c 3 1, .c 3 2, .c 3 3]] [some 4, none]) (.em (.call 19 [.g [.c 2 0, .c 2 1, .c 2 2, .c 2 3]] [some 2]) (.em (.call 20 [.g [.c 9 0, .c 9 1]] [none]) (.em (.call 22 [.g [.c 2 4, .c 2 5, .c 2 6]] [some 2]) (.em (.call 21 [.g [.c 11 0, .c 11 1]] [none]) (.em (.pr (.binOp .neq 9 (.tmp 0) (.tmp 1) 9) 4 [.s (.c 10 0), .s (.c 12 0)]) (.cond (.c 13 0) (.ret (.v (.s (.k (.bool false))))) (.em (.call 13 [.g [.c 3 4, .c 3 5]] [none]) (.em (.pr (.binOp .eql 3 (.tmp 0) (.const (.int .i64 0)) 3) 4 [.s (.c 14 0), .s (.k (.int .i64 0))]) (.cond (.c 15 0) (.em (.pr (.unOp .not 4 (.tmp 0)) 4 [.s (.c 8 4)]) (.cond (.c 16 0) (.em (.call 14 [.g [.c 8 0, .c 8 1, .c 8 2, .c 8 3]] [none]) (.em (.pr (.binOp .eql 9 (.tmp 0) (.const (.string ⟨#[48]⟩)) 9) 4 [.s (.c 17 0), .s (.k (.string ⟨#[48]⟩))]) (.ret (.v (.s (.c 18 0)))))) (.ret (.v (.s (.k (.bool false))))))) (.cond (.c 8 4) (.em (.call 23 [.g [.c 2 4, .c 2 5, .c 2 6], .g [.c 3 4, .c 3 5, .c 3 6]] [some 3]) (.em (.call 15 [.g [.c 8 0, .c 8 1, .c 8 2, .c 8 3], .g [.c 16 0, .c 16 1, .c 16 2]] [none]) (.ret (.v (.s (.c 17 0)))))) (.ret (.v (.s (.k (.bool false)))))))))))))))))))))))))) (by kernel_rfl) (by kernel_rfl) (by kernel_rfl) Mono.true trivial ⟨rfl, rfl, trivial⟩ ?_
  by_cases ka : NumQ a
  · refine wBoth (fun w _ _ => numY a w (Nat.le_trans ha maxLen_le) ka) rfl (fun a0 b0 c0 d0 e0 f0 g0 => ?_)
    by_cases kb : NumQ b
    · refine wBoth (fun w _ _ => numY b w (Nat.le_trans hb maxLen_le) kb) rfl (fun a1 b1 c1 d1 e1 f1 g1 => ?_)
      refine wPr (prNot rfl) rfl ?_
      refine wFalse rfl ?_
      refine wPr (prNot rfl) rfl ?_
      refine wFalse rfl ?_
      refine wVal (fun w b _ => alive3_any w (hT.below b)) rfl ?_
      refine wPr (prNot rfl) rfl ?_
      refine wFalse rfl ?_
      generalize ratVal a = x
      generalize ratVal b = y
      by_cases hy : y.num = 0
      · refine wKnown [.bool false, .slice none 0 0, .bool false, .slice none 0 0, .bool false] (fun w b ⟨hq, _, hp, _⟩ => qdivZero_any _ _ x y 21 21 w ⟨_, _, _, _, rfl, hp⟩ ⟨_, _, _, _, rfl, hq⟩ (by decide) hy) rfl rfl ?_
        refine wInt hU (fun w b ⟨hq, _, hp, _⟩ => qfloor_any _ x 21 w ⟨_, _, _, _, rfl, hp⟩ (by decide)) (fun x1 y1 => ?_)
        refine wVal (fun w b ⟨h1, _⟩ => itext_any _ x.floor 21 w h1 (by decide) (hT.below b)) rfl ?_
        refine wInt hU (fun w b ⟨_, _, _, _, hx, _⟩ => dfloor_any _ x 21 w ⟨_, _, _, rfl, hx⟩ (by decide)) (fun x2 y2 => ?_)
        refine wVal (fun w b ⟨h2, _⟩ => ritext_any _ x.floor 23 w h2 (by decide)) rfl ?_
        refine wPr (prSNe rfl rfl) rfl ?_
        refine wFalse (by show Value.bool (!(_ == _)) = _; rw [beq_self_eq_true]; rfl) ?_
        refine wVal (fun w b ⟨_, _, _, hy, _⟩ => rsign_any _ y.num 21 w hy.1) rfl ?_
        refine wPr (prEq rfl rfl) rfl ?_
        refine wTrue (by show Value.bool (_ == _) = _; rw [hy]; rfl) ?_
        refine wPr (prNot rfl) rfl ?_
        refine wTrue rfl ?_
        refine wVal (fun w b _ => qtext_any _ 0 1 w (zeroQ w 1 (by decide)) (by decide) (hT.below b)) rfl ?_
        refine wPr (prSEq rfl rfl) rfl ?_
        exact wRet fun w b _ => ⟨by show Ending.returned (.bool (_ == _)) = _; rw [ratS_zero, beq_self_eq_true], b⟩
      · refine wRatV (fun w b ⟨hq, _, hp, _⟩ => qdiv_any _ _ x y 21 21 w ⟨_, _, _, _, rfl, hp⟩ ⟨_, _, _, _, rfl, hq⟩ (by decide) (by decide) hy) rfl (fun _ _ _ _ => ?_)
        refine wInt hU (fun w b ⟨_, hq, _, hp, _⟩ => qfloor_any _ x 21 w ⟨_, _, _, _, rfl, hp⟩ (by decide)) (fun x1 y1 => ?_)
        refine wVal (fun w b ⟨h1, _⟩ => itext_any _ x.floor 21 w h1 (by decide) (hT.below b)) rfl ?_
        refine wInt hU (fun w b ⟨_, _, _, _, _, hx, _⟩ => dfloor_any _ x 21 w ⟨_, _, _, rfl, hx⟩ (by decide)) (fun x2 y2 => ?_)
        refine wVal (fun w b ⟨h2, _⟩ => ritext_any _ x.floor 23 w h2 (by decide)) rfl ?_
        refine wPr (prSNe rfl rfl) rfl ?_
        refine wFalse (by show Value.bool (!(_ == _)) = _; rw [beq_self_eq_true]; rfl) ?_
        refine wVal (fun w b ⟨_, _, _, _, hy, _⟩ => rsign_any _ y.num 21 w hy.1) rfl ?_
        refine wPr (prEq rfl rfl) rfl ?_
        refine wFalse (by show Value.bool (_ == _) = _; rw [sgn_zero, decide_eq_false hy]) ?_
        refine wTrue rfl ?_
        refine wDQ (fun w b ⟨_, _, _, _, hy', _, hx, _⟩ => ddiv_any _ _ x y 21 21 w ⟨_, _, _, rfl, hx⟩ ⟨_, _, _, rfl, hy'⟩ (by decide) (by decide) (by decide) hy) (fun _ _ _ => ?_)
        refine wVal (fun w b ⟨h3, _, _, hd, _⟩ => is_any _ _ (x / y) 42 42 w ⟨_, _, _, _, rfl, hd⟩ ⟨_, _, _, rfl, h3⟩ (by decide) (by decide) (hT.below b)) rfl ?_
        exact wRet fun w b _ => ⟨rfl, b⟩
    · refine wKnown [.bool false, .slice none 0 0, .bool false, .slice none 0 0, .bool false, .slice none 0 0, .slice none 0 0, .bool false] (fun w _ _ => numN b w (Nat.le_trans hb maxLen_le) kb) rfl rfl ?_
      refine wPr (prNot rfl) rfl ?_
      refine wFalse rfl ?_
      refine wPr (prNot rfl) rfl ?_
      refine wTrue rfl ?_
      refine wVal (fun w b _ => alive3_any w (hT.below b)) rfl ?_
      exact wRet fun w b _ => ⟨rfl, b⟩
  · refine wKnown [.bool false, .slice none 0 0, .bool false, .slice none 0 0, .bool false, .slice none 0 0, .slice none 0 0, .bool false] (fun w _ _ => numN a w (Nat.le_trans ha maxLen_le) ka) rfl rfl ?_
    by_cases kb : NumQ b
    · refine wBoth (fun w _ _ => numY b w (Nat.le_trans hb maxLen_le) kb) rfl (fun a1 b1 c1 d1 e1 f1 g1 => ?_)
      refine wPr (prNot rfl) rfl ?_
      refine wTrue rfl ?_
      refine wVal (fun w b _ => alive3_any w (hT.below b)) rfl ?_
      exact wRet fun w b _ => ⟨rfl, b⟩
    · refine wKnown [.bool false, .slice none 0 0, .bool false, .slice none 0 0, .bool false, .slice none 0 0, .slice none 0 0, .bool false] (fun w _ _ => numN b w (Nat.le_trans hb maxLen_le) kb) rfl rfl ?_
      refine wPr (prNot rfl) rfl ?_
      refine wTrue rfl ?_
      refine wVal (fun w b _ => alive3_any w (hT.below b)) rfl ?_
      exact wRet fun w b _ => ⟨rfl, b⟩

end Go.Proofs.YtpchnejdbmoicaaGreatDoor
