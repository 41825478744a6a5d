/- The law SpanMore. -/
import Derived.Test.YtfohgkabmdhhaaaGreatDoorYy
namespace Go.Proofs.YtfohgkabmdhhaaaGreatDoor
open Go.RowKit Cin

set_option maxHeartbeats 8000000 in
/-- The law holds. -/
theorem spanMore_any (s r t z : ByteArray) (i k : Int) (w : World) (hT : Tabs w) (hs : s.size ≤ 9223372036854775807) (hr : r.size ≤ 9223372036854775807) (ht : t.size ≤ 9223372036854775807) (hz : z.size ≤ 9223372036854775807) :
    Calls Tryz.prog 10 #[.agg #[.string s, .string r], .agg #[.string t, .string z], .int .i64 i, .int .i64 k] w fun e w' => e = .returned (.bool true) ∧ Below w.heap.size w w' := by
  refine go (fun _ => True) [[.string s, .string r], [.string t, .string z], [.int .i64 i], [.int .i64 k]] [some 2, some 2, none, none] (tr := (.em (.call 22 [.g [.c 0 0, .c 0 1]] [some 8, some 6, none]) (.em (.call 22 [.g [.c 1 0, .c 1 1]] [some 8, some 6, none]) (.em (.pr (.unOp .not 4 (.tmp 0)) 4 [.s (.c 4 14)]) (.cond (.c 6 0) (.em (.call 12 [] [none]) (.ret (.v (.s (.c 7 0))))) (.em (.pr (.unOp .not 4 (.tmp 0)) 4 [.s (.c 5 14)]) (.cond (.c 7 0) (.em (.call 12 [] [none]) (.ret (.v (.s (.c 8 0))))) (.em (.call 12 [] [none]) (.em (.pr (.unOp .not 4 (.tmp 0)) 4 [.s (.c 8 0)]) (.cond (.c 9 0) (.em (.call 12 [] [none]) (.ret (.v (.s (.c 10 0))))) (.em (.call 32 [.s (.c 2 0), .s (.k (.int .i64 0)), .s (.k (.int .i64 8))] [none]) (.em (.call 32 [.s (.c 3 0), .s (.k (.int .i64 0)), .s (.k (.int .i64 8))] [none]) (.em (.pr (.call (.mk (.builtin .min) #[.tmp 0, .tmp 1] #[3, 3])) 3 [.s (.c 10 0), .s (.c 11 0)]) (.em (.call 55 [.g [.c 4 0, .c 4 1, .c 4 2, .c 4 3, .c 4 4, .c 4 5, .c 4 6, .c 4 7], .s (.c 12 0)] [some 4]) (.em (.call 32 [.s (.c 2 0), .s (.k (.int .i64 0)), .s (.k (.int .i64 8))] [none]) (.em (.call 32 [.s (.c 3 0), .s (.k (.int .i64 0)), .s (.k (.int .i64 8))] [none]) (.em (.pr (.call (.mk (.builtin .max) #[.tmp 0, .tmp 1] #[3, 3])) 3 [.s (.c 14 0), .s (.c 15 0)]) (.em (.call 55 [.g [.c 4 0, .c 4 1, .c 4 2, .c 4 3, .c 4 4, .c 4 5, .c 4 6, .c 4 7], .s (.c 16 0)] [some 4]) (.em (.call 16 [.g [.c 13 0, .c 13 1, .c 13 2, .c 13 3], .g [.c 17 0, .c 17 1, .c 17 2, .c 17 3]] [some 8, none]) (.cond (.c 18 8) (.em (.call 40 [.g [.c 18 0, .c 18 1, .c 18 2, .c 18 3, .c 18 4, .c 18 5, .c 18 6, .c 18 7], .g [.c 4 0, .c 4 1, .c 4 2, .c 4 3, .c 4 4, .c 4 5, .c 4 6, .c 4 7]] [none]) (.cond (.c 19 0) (.em (.call 24 [.g [.c 18 0, .c 18 1, .c 18 2, .c 18 3, .c 18 4, .c 18 5, .c 18 6, .c 18 7], .g [.c 5 0, .c 5 1, .c 5 2, .c 5 3, .c 5 4, .c 5 5, .c 5 6, .c 5 7]] [some 8]) (.em (.call 24 [.g [.c 4 0, .c 4 1, .c 4 2, .c 4 3, .c 4 4, .c 4 5, .c 4 6, .c 4 7], .g [.c 5 0, .c 5 1, .c 5 2, .c 5 3, .c 5 4, .c 5 5, .c 5 6, .c 5 7]] [some 8]) (.em (.call 40 [.g [.c 20 0, .c 20 1, .c 20 2, .c 20 3, .c 20 4, .c 20 5, .c 20 6, .c 20 7], .g [.c 21 0, .c 21 1, .c 21 2, .c 21 3, .c 21 4, .c 21 5, .c 21 6, .c 21 7]] [none]) (.cond (.c 22 0) (.em (.call 28 [.g [.c 18 0, .c 18 1, .c 18 2, .c 18 3, .c 18 4, .c 18 5, .c 18 6, .c 18 7], .g [.c 5 0, .c 5 1, .c 5 2, .c 5 3, .c 5 4, .c 5 5, .c 5 6, .c 5 7]] [some 8]) (.em (.call 28 [.g [.c 4 0, .c 4 1, .c 4 2, .c 4 3, .c 4 4, .c 4 5, .c 4 6, .c 4 7], .g [.c 5 0, .c 5 1, .c 5 2, .c 5 3, .c 5 4, .c 5 5, .c 5 6, .c 5 7]] [some 8]) (.em (.call 40 [.g [.c 23 0, .c 23 1, .c 23 2, .c 23 3, .c 23 4, .c 23 5, .c 23 6, .c 23 7], .g [.c 24 0, .c 24 1, .c 24 2, .c 24 3, .c 24 4, .c 24 5, .c 24 6, .c 24 7]] [none]) (.cond (.c 25 0) (.em (.call 33 [.g [.c 18 0, .c 18 1, .c 18 2, .c 18 3, .c 18 4, .c 18 5, .c 18 6, .c 18 7], .s (.k (.int .i64 2))] [some 8]) (.em (.call 33 [.g [.c 4 0, .c 4 1, .c 4 2, .c 4 3, .c 4 4, .c 4 5, .c 4 6, .c 4 7], .s (.k (.int .i64 2))] [some 8]) (.em (.call 40 [.g [.c 26 0, .c 26 1, .c 26 2, .c 26 3, .c 26 4, .c 26 5, .c 26 6, .c 26 7], .g [.c 27 0, .c 27 1, .c 27 2, .c 27 3, .c 27 4, .c 27 5, .c 27 6, .c 27 7]] [none]) (.cond (.c 28 0) (.em (.call 44 [.g [.c 4 0, .c 4 1, .c 4 2, .c 4 3, .c 4 4, .c 4 5, .c 4 6, .c 4 7], .g [.c 5 0, .c 5 1, .c 5 2, .c 5 3, .c 5 4, .c 5 5, .c 5 6, .c 5 7]] [some 8]) (.em (.call 40 [.g [.c 4 0, .c 4 1, .c 4 2, .c 4 3, .c 4 4, .c 4 5, .c 4 6, .c 4 7], .g [.c 29 0, .c 29 1, .c 29 2, .c 29 3, .c 29 4, .c 29 5, .c 29 6, .c 29 7]] [none]) (.ret (.v (.s (.c 30 0)))))) (.ret (.v (.s (.k (.bool false))))))))) (.ret (.v (.s (.k (.bool false))))))))) (.ret (.v (.s (.k (.bool false))))))))) (.ret (.v (.s (.k (.bool false))))))) (.ret (.v (.s (.k (.bool false))))))))))))))))))))))))) (by kernel_rfl) (by kernel_rfl) (by kernel_rfl) Mono.true trivial ⟨rfl, rfl, rfl, rfl, trivial⟩ ?_
  by_cases k0 : OfOk s r
  · refine wBothS (fun w _ _ => ofY s r w hs hr k0) rfl (fun va0 vb0 vc0 vd0 ve0 vf0 vg0 vh0 vi0 vj0 vk0 vl0 vm0 vn0 => ?_)
    by_cases k1 : OfOk t z
    · refine wBothS (fun w _ _ => ofY t z w ht hz k1) rfl (fun va1 vb1 vc1 vd1 ve1 vf1 vg1 vh1 vi1 vj1 vk1 vl1 vm1 vn1 => ?_)
      refine wPr (prNot rfl) rfl ?_
      refine wFalse rfl ?_
      refine wPr (prNot rfl) rfl ?_
      refine wFalse rfl ?_
      have l0 : ratVal s ≤ ratVal r := k0.1.2.2
      generalize ratVal s = x at l0 ⊢
      generalize ratVal r = y at l0 ⊢
      have l1 : ratVal t ≤ ratVal z := k1.1.2.2
      generalize ratVal t = x' at l1 ⊢
      generalize ratVal z = y' at l1 ⊢
      refine wMono (G := fun w => SpQ w va0 vb0 vc0 vd0 ve0 vf0 vg0 vh0 x y 21 ∧ SpQ w va1 vb1 vc1 vd1 ve1 vf1 vg1 vh1 x' y' 21) ((mSp _ _ _ _ _ _ _ _ _ _ _).and (mSp _ _ _ _ _ _ _ _ _ _ _)) (fun w ⟨x1, y1, x0, y0, _⟩ => ⟨x0, x1⟩) ?_
      refine wVal (fun w b _ => alive5_any w (hT.below b)) rfl ?_
      refine wPr (prNot rfl) rfl ?_
      refine wFalse rfl ?_
      have wl := wi_lim i (lo := 0) (hi := 8) (by decide)
      have wk := wi_lim k (lo := 0) (hi := 8) (by decide)
      have hle : wi (min (wi i 0 8) (wi k 0 8)) 0 8 ≤ wi (max (wi i 0 8) (wi k 0 8)) 0 8 := by rw [wi_wi (min (wi i 0 8) (wi k 0 8)) (by omega) rfl, wi_wi (max (wi i 0 8) (wi k 0 8)) (by omega) rfl]; omega
      refine wVal (fun w b _ => wi_any i 0 8 w (by decide) (by decide) (by decide)) rfl ?_
      refine wVal (fun w b _ => wi_any k 0 8 w (by decide) (by decide) (by decide)) rfl ?_
      refine wPr (prMin rfl rfl) rfl ?_
      refine wRat (fun w b ⟨h, _⟩ => inside_any _ x y (min (wi i 0 8) (wi k 0 8)) 21 w ⟨_, _, _, _, _, _, _, _, rfl, h⟩ (by decide)) (fun ua ub uc ud => ?_)
      refine wVal (fun w b _ => wi_any i 0 8 w (by decide) (by decide) (by decide)) rfl ?_
      refine wVal (fun w b _ => wi_any k 0 8 w (by decide) (by decide) (by decide)) rfl ?_
      refine wPr (prMax rfl rfl) rfl ?_
      refine wRat (fun w b ⟨_, h, _⟩ => inside_any _ x y (max (wi i 0 8) (wi k 0 8)) 21 w ⟨_, _, _, _, _, _, _, _, rfl, h⟩ (by decide)) (fun ta tb tc td => ?_)
      have g1 := ins_in l0 (min (wi i 0 8) (wi k 0 8))
      have g2 := ins_in l0 (max (wi i 0 8) (wi k 0 8))
      have g3 := ins_le l0 hle
      generalize insQ x y (min (wi i 0 8) (wi k 0 8)) = u at g1 g3 ⊢
      generalize insQ x y (max (wi i 0 8) (wi k 0 8)) = t at g2 g3 ⊢
      refine wSpV (fun w b ⟨h2, h1, _⟩ => snewY _ _ u t 69 w ⟨_, _, _, _, rfl, h1⟩ ⟨_, _, _, _, rfl, h2⟩ (by decide) g3) rfl (fun ra rb rc rd re rf rg rh => ?_)
      refine wTrue rfl ?_
      refine wMono (G := fun w => SpQ w ra rb rc rd re rf rg rh u t 69 ∧ SpQ w va0 vb0 vc0 vd0 ve0 vf0 vg0 vh0 x y 21 ∧ SpQ w va1 vb1 vc1 vd1 ve1 vf1 vg1 vh1 x' y' 21) ((mSp _ _ _ _ _ _ _ _ _ _ _).and ((mSp _ _ _ _ _ _ _ _ _ _ _).and (mSp _ _ _ _ _ _ _ _ _ _ _))) (fun w ⟨h, _, _, h3, h4⟩ => ⟨h, h3, h4⟩) ?_
      refine wVal (fun w b ⟨h, h', _⟩ => withinY ⟨_, _, _, _, _, _, _, _, rfl, h⟩ ⟨_, _, _, _, _, _, _, _, rfl, h'⟩ (by decide) (by decide) g1.1 g2.2) rfl ?_
      refine wTrue rfl ?_
      refine wSp (fun w b ⟨h, _, h2⟩ => sadd_any _ _ u t x' y' 69 21 w ⟨_, _, _, _, _, _, _, _, rfl, h⟩ ⟨_, _, _, _, _, _, _, _, rfl, h2⟩ (by decide) (by decide)) (fun _ _ _ _ _ _ _ _ => ?_)
      refine wSp (fun w b ⟨_, _, h, h2⟩ => sadd_any _ _ x y x' y' 21 21 w ⟨_, _, _, _, _, _, _, _, rfl, h⟩ ⟨_, _, _, _, _, _, _, _, rfl, h2⟩ (by decide) (by decide)) (fun _ _ _ _ _ _ _ _ => ?_)
      refine wVal (fun w b ⟨h2, h1, _⟩ => withinY ⟨_, _, _, _, _, _, _, _, rfl, h1⟩ ⟨_, _, _, _, _, _, _, _, rfl, h2⟩ (by decide) (by decide) (by grind) (by grind)) rfl ?_
      refine wTrue rfl ?_
      refine wMono (G := fun w => SpQ w ra rb rc rd re rf rg rh u t 69 ∧ SpQ w va0 vb0 vc0 vd0 ve0 vf0 vg0 vh0 x y 21 ∧ SpQ w va1 vb1 vc1 vd1 ve1 vf1 vg1 vh1 x' y' 21) ((mSp _ _ _ _ _ _ _ _ _ _ _).and ((mSp _ _ _ _ _ _ _ _ _ _ _).and (mSp _ _ _ _ _ _ _ _ _ _ _))) (fun w h => h.2.2) ?_
      refine wSp (fun w b ⟨h, _, h2⟩ => smul_any _ _ u t x' y' 69 21 w ⟨_, _, _, _, _, _, _, _, rfl, h⟩ ⟨_, _, _, _, _, _, _, _, rfl, h2⟩ (by decide) (by decide) g3 l1) (fun _ _ _ _ _ _ _ _ => ?_)
      refine wSp (fun w b ⟨_, _, h, h2⟩ => smul_any _ _ x y x' y' 21 21 w ⟨_, _, _, _, _, _, _, _, rfl, h⟩ ⟨_, _, _, _, _, _, _, _, rfl, h2⟩ (by decide) (by decide) l0 l1) (fun _ _ _ _ _ _ _ _ => ?_)
      refine wVal (fun w b ⟨h2, h1, _⟩ => withinY ⟨_, _, _, _, _, _, _, _, rfl, h1⟩ ⟨_, _, _, _, _, _, _, _, rfl, h2⟩ (by decide) (by decide) (mul_more g1.1 g3 g2.2 l1).1 (mul_more g1.1 g3 g2.2 l1).2) rfl ?_
      refine wTrue rfl ?_
      refine wMono (G := fun w => SpQ w ra rb rc rd re rf rg rh u t 69 ∧ SpQ w va0 vb0 vc0 vd0 ve0 vf0 vg0 vh0 x y 21 ∧ SpQ w va1 vb1 vc1 vd1 ve1 vf1 vg1 vh1 x' y' 21) ((mSp _ _ _ _ _ _ _ _ _ _ _).and ((mSp _ _ _ _ _ _ _ _ _ _ _).and (mSp _ _ _ _ _ _ _ _ _ _ _))) (fun w h => h.2.2) ?_
      refine wSp (fun w b ⟨h, _, _⟩ => spow_any _ u t 2 69 w ⟨_, _, _, _, _, _, _, _, rfl, h⟩ (by decide) (by decide) g3) (fun _ _ _ _ _ _ _ _ => ?_)
      refine wSp (fun w b ⟨_, _, h, _⟩ => spow_any _ x y 2 21 w ⟨_, _, _, _, _, _, _, _, rfl, h⟩ (by decide) (by decide) l0) (fun _ _ _ _ _ _ _ _ => ?_)
      refine wVal (fun w b ⟨h2, h1, _⟩ => withinY ⟨_, _, _, _, _, _, _, _, rfl, h1⟩ ⟨_, _, _, _, _, _, _, _, rfl, h2⟩ (by decide) (by decide) (pow_more g1.1 g3 g2.2 _).1 (pow_more g1.1 g3 g2.2 _).2) rfl ?_
      refine wTrue rfl ?_
      refine wMono (G := fun w => SpQ w ra rb rc rd re rf rg rh u t 69 ∧ SpQ w va0 vb0 vc0 vd0 ve0 vf0 vg0 vh0 x y 21 ∧ SpQ w va1 vb1 vc1 vd1 ve1 vf1 vg1 vh1 x' y' 21) ((mSp _ _ _ _ _ _ _ _ _ _ _).and ((mSp _ _ _ _ _ _ _ _ _ _ _).and (mSp _ _ _ _ _ _ _ _ _ _ _))) (fun w h => h.2.2) ?_
      refine wSp (fun w b ⟨_, h, h2⟩ => hull_any _ _ x y x' y' 21 21 w ⟨_, _, _, _, _, _, _, _, rfl, h⟩ ⟨_, _, _, _, _, _, _, _, rfl, h2⟩ (by decide) rfl) (fun _ _ _ _ _ _ _ _ => ?_)
      refine wVal (fun w b ⟨h2, _, h1, _⟩ => withinY ⟨_, _, _, _, _, _, _, _, rfl, h1⟩ ⟨_, _, _, _, _, _, _, _, rfl, h2⟩ (by decide) (by decide) (mn_l _ _) (mx_l _ _)) rfl ?_
      exact wRet fun w b _ => ⟨rfl, b⟩
    · refine wKnown ZeroO (fun w _ _ => ofN t z w ht hz k1) rfl rfl ?_
      refine wPr (prNot rfl) rfl ?_
      refine wFalse rfl ?_
      refine wPr (prNot rfl) rfl ?_
      refine wTrue rfl ?_
      refine wVal (fun w b _ => alive5_any w (hT.below b)) rfl ?_
      exact wRet fun w b _ => ⟨rfl, b⟩
  · refine wKnown ZeroO (fun w _ _ => ofN s r w hs hr k0) rfl rfl ?_
    by_cases k1 : OfOk t z
    · refine wBothS (fun w _ _ => ofY t z w ht hz k1) rfl (fun va1 vb1 vc1 vd1 ve1 vf1 vg1 vh1 vi1 vj1 vk1 vl1 vm1 vn1 => ?_)
      refine wPr (prNot rfl) rfl ?_
      refine wTrue rfl ?_
      refine wVal (fun w b _ => alive5_any w (hT.below b)) rfl ?_
      exact wRet fun w b _ => ⟨rfl, b⟩
    · refine wKnown ZeroO (fun w _ _ => ofN t z w ht hz k1) rfl rfl ?_
      refine wPr (prNot rfl) rfl ?_
      refine wTrue rfl ?_
      refine wVal (fun w b _ => alive5_any w (hT.below b)) rfl ?_
      exact wRet fun w b _ => ⟨rfl, b⟩

end Go.Proofs.YtfohgkabmdhhaaaGreatDoor
