/- The law SpanTells. -/
import Derived.Test.YtfohgkabmdhhaaaGreatDoorV8
namespace Go.Proofs.YtfohgkabmdhhaaaGreatDoor
open Go.RowKit Cin

set_option maxHeartbeats 8000000 in
/-- The law holds. -/
theorem spanTells_any (s r : ByteArray) (w : World) (hT : Tabs w) (hs : s.size ≤ 9223372036854775807) (hr : r.size ≤ 9223372036854775807) :
    Calls Tryz.prog 3 #[.agg #[.string s, .string r]] w fun e w' => e = .returned (.bool true) ∧ Below w.heap.size w w' := by
  refine go (fun _ => True) [[.string s, .string r]] [some 2] (tr := (.em (.call 12 [] [none]) (.em (.pr (.unOp .not 4 (.tmp 0)) 4 [.s (.c 1 0)]) (.cond (.c 2 0) (.ret (.v (.s (.k (.bool false))))) (.em (.pr (.call (.mk (.builtin .len) #[.tmp 0] #[9])) 3 [.s (.c 0 0)]) (.em (.pr (.binOp .gtr 3 (.tmp 0) (.const (.int .i64 500)) 3) 4 [.s (.c 3 0), .s (.k (.int .i64 500))]) (.cond (.c 4 0) (.ret (.v (.s (.k (.bool true))))) (.em (.pr (.call (.mk (.builtin .len) #[.tmp 0] #[9])) 3 [.s (.c 0 1)]) (.em (.pr (.binOp .gtr 3 (.tmp 0) (.const (.int .i64 500)) 3) 4 [.s (.c 5 0), .s (.k (.int .i64 500))]) (.cond (.c 6 0) (.ret (.v (.s (.k (.bool true))))) (.em (.call 13 [.g [.c 0 0, .c 0 1]] [some 8, none]) (.em (.call 14 [.g [.c 0 0, .c 0 1]] [some 6, none]) (.em (.pr (.binOp .neq 34 (.tmp 0) (.tmp 1) 34) 4 [.s (.c 7 8), .s (.c 8 6)]) (.cond (.c 9 0) (.ret (.v (.s (.k (.bool false))))) (.em (.pr (.binOp .neq 34 (.tmp 0) (.const (.int .i64 0)) 34) 4 [.s (.c 8 6), .s (.k (.int .i64 0))]) (.cond (.c 10 0) (.em (.call 15 [.g [.c 7 0, .c 7 1, .c 7 2, .c 7 3, .c 7 4, .c 7 5, .c 7 6, .c 7 7], .g [.k (.bool false), .k (.slice none 0 0), .k (.slice none 0 0), .k (.bool false), .k (.slice none 0 0), .k (.slice none 0 0)]] [none]) (.ret (.v (.s (.c 11 0))))) (.em (.call 16 [.g [.c 7 0, .c 7 1, .c 7 2, .c 7 3], .g [.c 7 4, .c 7 5, .c 7 6, .c 7 7]] [some 8, none]) (.em (.call 16 [.g [.c 7 4, .c 7 5, .c 7 6, .c 7 7], .g [.c 7 0, .c 7 1, .c 7 2, .c 7 3]] [some 8, none]) (.em (.call 17 [.g [.c 8 0, .c 8 1, .c 8 2], .g [.c 8 3, .c 8 4, .c 8 5]] [none]) (.em (.pr (.binOp .eql 3 (.tmp 0) (.const (.int .i64 0)) 3) 4 [.s (.c 13 0), .s (.k (.int .i64 0))]) (.em (.call 15 [.g [.c 7 0, .c 7 1, .c 7 2, .c 7 3, .c 7 4, .c 7 5, .c 7 6, .c 7 7], .g [.c 8 0, .c 8 1, .c 8 2, .c 8 3, .c 8 4, .c 8 5]] [none]) (.cond (.c 15 0) (.em (.call 18 [.g [.c 7 0, .c 7 1, .c 7 2, .c 7 3, .c 7 4, .c 7 5, .c 7 6, .c 7 7]] [some 2]) (.em (.pr (.binOp .eql 23 (.tmp 0) (.tmp 1) 23) 4 [.g [.c 16 0, .c 16 1], .g [.c 0 0, .c 0 1]]) (.cond (.c 17 0) (.cond (.c 11 8) (.em (.call 19 [.g [.c 7 0, .c 7 1, .c 7 2, .c 7 3, .c 7 4, .c 7 5, .c 7 6, .c 7 7], .g [.c 11 0, .c 11 1, .c 11 2, .c 11 3, .c 11 4, .c 11 5, .c 11 6, .c 11 7]] [none]) (.cond (.c 18 0) (.em (.pr (.binOp .eql 4 (.tmp 0) (.tmp 1) 4) 4 [.s (.c 12 8), .s (.c 14 0)]) (.cond (.c 19 0) (.cond (.c 14 0) (.em (.call 20 [.g [.c 7 0, .c 7 1, .c 7 2, .c 7 3]] [some 8]) (.em (.call 21 [.g [.c 8 0, .c 8 1, .c 8 2]] [some 6]) (.em (.call 15 [.g [.c 20 0, .c 20 1, .c 20 2, .c 20 3, .c 20 4, .c 20 5, .c 20 6, .c 20 7], .g [.c 21 0, .c 21 1, .c 21 2, .c 21 3, .c 21 4, .c 21 5]] [none]) (.ret (.v (.s (.c 22 0))))))) (.em (.call 15 [.g [.c 12 0, .c 12 1, .c 12 2, .c 12 3, .c 12 4, .c 12 5, .c 12 6, .c 12 7], .g [.k (.bool false), .k (.slice none 0 0), .k (.slice none 0 0), .k (.bool false), .k (.slice none 0 0), .k (.slice none 0 0)]] [none]) (.cond (.c 20 0) (.em (.call 20 [.g [.c 7 0, .c 7 1, .c 7 2, .c 7 3]] [some 8]) (.em (.call 21 [.g [.c 8 0, .c 8 1, .c 8 2]] [some 6]) (.em (.call 15 [.g [.c 21 0, .c 21 1, .c 21 2, .c 21 3, .c 21 4, .c 21 5, .c 21 6, .c 21 7], .g [.c 22 0, .c 22 1, .c 22 2, .c 22 3, .c 22 4, .c 22 5]] [none]) (.ret (.v (.s (.c 23 0))))))) (.ret (.v (.s (.k (.bool false)))))))) (.ret (.v (.s (.k (.bool false))))))) (.ret (.v (.s (.k (.bool false))))))) (.ret (.v (.s (.k (.bool false)))))) (.ret (.v (.s (.k (.bool false)))))))) (.ret (.v (.s (.k (.bool false))))))))))))))))))))))))))) (by kernel_rfl) (by kernel_rfl) (by kernel_rfl) Mono.true trivial ⟨rfl, trivial⟩ ?_
  refine wVal (fun w b _ => alive5_any w (hT.below b)) rfl ?_
  refine wPr (prNot rfl) rfl ?_
  refine wFalse rfl ?_
  refine wPr (prLenS hStrT rfl) rfl ?_
  refine wPr (prGt rfl rfl) rfl ?_
  refine wIf _ rfl (fun e => ?_) (fun e => ?_)
  · exact wRet fun w b _ => ⟨rfl, b⟩
  refine wPr (prLenS hStrT rfl) rfl ?_
  refine wPr (prGt rfl rfl) rfl ?_
  refine wIf _ rfl (fun e => ?_) (fun e => ?_)
  · exact wRet fun w b _ => ⟨rfl, b⟩
  by_cases k0 : SpOk s r
  · refine wSpV (fun w b _ => sparseY s r w hs hr k0) rfl (fun a0 b0 c0 d0 e0 f0 g0 h0 => ?_)
    refine wDsV (fun w b _ => dsparseY s r w hs hr k0) rfl (fun i0 j0 k_0 l0 m0 n0 => ?_)
    have l1 := k0.2.2
    have ts := ratS_ratVal k0.1
    have tr := ratS_ratVal k0.2.1
    generalize ratVal s = x at l1 ts ⊢
    generalize ratVal r = y at l1 tr ⊢
    refine wMono (G := fun w => SpQ w a0 b0 c0 d0 e0 f0 g0 h0 x y 500 ∧ DsQ w i0 j0 k_0 l0 m0 n0 x y 500) ((mSp _ _ _ _ _ _ _ _ _ _ _).and (mDs _ _ _ _ _ _ _ _ _)) (fun w ⟨h2, h1, _⟩ => ⟨h1, h2⟩) ?_
    refine wPr (prNe rfl rfl) rfl ?_
    refine wFalse rfl ?_
    refine wPr (prNe rfl rfl) rfl ?_
    refine wFalse rfl ?_
    refine wSpV (fun w b ⟨h, _⟩ => snewY _ _ x y 500 w ⟨_, _, _, _, rfl, h.1⟩ ⟨_, _, _, _, rfl, h.2⟩ (by decide) l1) rfl (fun a1 b1 c1 d1 e1 f1 g1 h1 => ?_)
    by_cases hp : x = y
    · refine wSpV (fun w b ⟨_, h, _⟩ => snewY _ _ y x 500 w ⟨_, _, _, _, rfl, h.2⟩ ⟨_, _, _, _, rfl, h.1⟩ (by decide) (by grind)) rfl (fun a2 b2 c2 d2 e2 f2 g2 h2 => ?_)
      refine wVal (fun w b ⟨_, h1, h, h2⟩ => dcmp_any _ _ x y 500 500 w ⟨_, _, _, rfl, h2.1⟩ ⟨_, _, _, rfl, h2.2⟩ (by decide) (by decide)) rfl ?_
      refine wPr (prEq rfl rfl) rfl ?_
      refine wVal (fun w b ⟨_, h1, h, h2⟩ => is5_any _ _ x y 500 500 w ⟨_, _, _, _, _, _, _, _, rfl, h⟩ ⟨_, _, _, _, _, _, rfl, h2⟩ (by decide) (by decide) (hT.below b)) rfl ?_
      refine wTrue rfl ?_
      refine wKnown [.string (ratS x), .string (ratS y)] (fun w b ⟨_, h1, h, h2⟩ => plain_any _ x y 500 w (hT.below b) ⟨_, _, _, _, _, _, _, _, rfl, h⟩ (by decide)) rfl rfl ?_
      refine wPr (prPairEq rfl rfl) rfl ?_
      refine wTrue (by show Value.bool (_ && _) = _; rw [ts, tr, beq_self_eq_true, beq_self_eq_true]; rfl) ?_
      refine wTrue rfl ?_
      refine wVal (v := .bool true) (fun w b ⟨_, h1, h, h2⟩ => by have := same5_any _ _ x y x y 500 500 w ⟨_, _, _, _, _, _, _, _, rfl, h⟩ ⟨_, _, _, _, _, _, _, _, rfl, h1⟩ (by decide) (by decide); rwa [decide_eq_true rfl, decide_eq_true rfl] at this) rfl ?_
      refine wTrue rfl ?_
      refine wPr (prBEq hBool rfl rfl) rfl ?_
      refine wTrue (by show Value.bool (true == (cmpQ x y == 0)) = _; rw [v_eq, decide_eq_true hp]; rfl) ?_
      refine wTrue (by show Value.bool (cmpQ x y == 0) = _; rw [v_eq, decide_eq_true hp]) ?_
      refine wSp (fun w b ⟨_, _, h, h2⟩ => sof_any _ x 500 w ⟨_, _, _, _, rfl, h.1⟩ (by decide)) (fun _ _ _ _ _ _ _ _ => ?_)
      refine wDs (fun w b ⟨_, _, _, h, h2⟩ => point_any _ x 500 w ⟨_, _, _, rfl, h2.1⟩) (fun _ _ _ _ _ _ => ?_)
      refine wVal (fun w b ⟨g2, g1, _⟩ => is5_any _ _ x x 500 500 w ⟨_, _, _, _, _, _, _, _, rfl, g1⟩ ⟨_, _, _, _, _, _, rfl, g2⟩ (by decide) (by decide) (hT.below b)) rfl ?_
      exact wRet fun w b _ => ⟨rfl, b⟩
    · refine wKnown (ZeroS ++ [.bool false]) (fun w b ⟨_, h, _⟩ => snewN _ _ y x 500 w ⟨_, _, _, _, rfl, h.2⟩ ⟨_, _, _, _, rfl, h.1⟩ (by decide) (by grind)) rfl rfl ?_ (hE := rfl)
      refine wVal (fun w b ⟨h1, h, h2⟩ => dcmp_any _ _ x y 500 500 w ⟨_, _, _, rfl, h2.1⟩ ⟨_, _, _, rfl, h2.2⟩ (by decide) (by decide)) rfl ?_
      refine wPr (prEq rfl rfl) rfl ?_
      refine wVal (fun w b ⟨h1, h, h2⟩ => is5_any _ _ x y 500 500 w ⟨_, _, _, _, _, _, _, _, rfl, h⟩ ⟨_, _, _, _, _, _, rfl, h2⟩ (by decide) (by decide) (hT.below b)) rfl ?_
      refine wTrue rfl ?_
      refine wKnown [.string (ratS x), .string (ratS y)] (fun w b ⟨h1, h, h2⟩ => plain_any _ x y 500 w (hT.below b) ⟨_, _, _, _, _, _, _, _, rfl, h⟩ (by decide)) rfl rfl ?_
      refine wPr (prPairEq rfl rfl) rfl ?_
      refine wTrue (by show Value.bool (_ && _) = _; rw [ts, tr, beq_self_eq_true, beq_self_eq_true]; rfl) ?_
      refine wTrue rfl ?_
      refine wVal (v := .bool true) (fun w b ⟨h1, h, h2⟩ => by have := same5_any _ _ x y x y 500 500 w ⟨_, _, _, _, _, _, _, _, rfl, h⟩ ⟨_, _, _, _, _, _, _, _, rfl, h1⟩ (by decide) (by decide); rwa [decide_eq_true rfl, decide_eq_true rfl] at this) rfl ?_
      refine wTrue rfl ?_
      refine wPr (prBEq hBool rfl rfl) rfl ?_
      refine wTrue (by show Value.bool (false == (cmpQ x y == 0)) = _; rw [v_eq, decide_eq_false hp]; rfl) ?_
      refine wFalse (by show Value.bool (cmpQ x y == 0) = _; rw [v_eq, decide_eq_false hp]) ?_
      refine wVal (fun w b _ => is5_any _ _ 0 0 1 1 w (zeroSp w) (zeroDs w) (by decide) (by decide) (hT.below b)) rfl ?_
      refine wTrue rfl ?_
      refine wSp (fun w b ⟨_, h, h2⟩ => sof_any _ x 500 w ⟨_, _, _, _, rfl, h.1⟩ (by decide)) (fun _ _ _ _ _ _ _ _ => ?_)
      refine wDs (fun w b ⟨_, _, h, h2⟩ => point_any _ x 500 w ⟨_, _, _, rfl, h2.1⟩) (fun _ _ _ _ _ _ => ?_)
      refine wVal (fun w b ⟨g2, g1, _⟩ => is5_any _ _ x x 500 500 w ⟨_, _, _, _, _, _, _, _, rfl, g1⟩ ⟨_, _, _, _, _, _, rfl, g2⟩ (by decide) (by decide) (hT.below b)) rfl ?_
      exact wRet fun w b _ => ⟨rfl, b⟩
  · refine wKnown (ZeroS ++ [.int .i64 (spCode s r)]) (fun w b _ => sparseN s r w hs hr k0) rfl rfl ?_ (hE := rfl)
    refine wKnown (ZeroT ++ [.int .i64 (spCode s r)]) (fun w b _ => dsparseN s r w hs hr k0) rfl rfl ?_ (hE := rfl)
    refine wPr (prNe rfl rfl) rfl ?_
    refine wFalse (by show Value.bool (spCode s r != spCode s r) = _; rw [bne_self_eq_false]) ?_
    refine wPr (prNe rfl rfl) rfl ?_
    refine wTrue (by show Value.bool (spCode s r != 0) = _; rcases spCode_no k0 with e | e <;> rw [e] <;> rfl) ?_
    refine wVal (fun w b _ => is5_any _ _ 0 0 1 1 w (zeroSp w) (zeroDs w) (by decide) (by decide) (hT.below b)) rfl ?_
    exact wRet fun w b _ => ⟨rfl, b⟩

end Go.Proofs.YtfohgkabmdhhaaaGreatDoor
