/- The law SpanHas. -/
import Derived.Test.YtfohgkabmdhhaaaGreatDoorYy
namespace Go.Proofs.YtfohgkabmdhhaaaGreatDoor
open Go.RowKit Cin

set_option maxHeartbeats 8000000 in
/-- The law holds. -/
theorem spanHas_any (s r t z : ByteArray) (i k n : Int) (w : World) (hT : Tabs w) (hs : s.size ≤ 9223372036854775807) (hr : r.size ≤ 9223372036854775807) (ht : t.size ≤ 9223372036854775807) (hz : z.size ≤ 9223372036854775807) :
    Calls Tryz.prog 8 #[.agg #[.string s, .string r], .agg #[.string t, .string z], .int .i64 i, .int .i64 k, .int .i64 n] w fun e w' => e = .returned (.bool true) ∧ Below w.heap.size w w' := by
  refine go (fun _ => True) [[.string s, .string r], [.string t, .string z], [.int .i64 i], [.int .i64 k], [.int .i64 n]] [some 2, some 2, none, none, none] (tr := (.em (.call 22 [.g [.c 0 0, .c 0 1]] [some 8, some 6, none]) (.em (.call 22 [.g [.c 1 0, .c 1 1]] [some 8, some 6, none]) (.em (.pr (.unOp .not 4 (.tmp 0)) 4 [.s (.c 5 14)]) (.cond (.c 7 0) (.em (.call 12 [] [none]) (.ret (.v (.s (.c 8 0))))) (.em (.pr (.unOp .not 4 (.tmp 0)) 4 [.s (.c 6 14)]) (.cond (.c 8 0) (.em (.call 12 [] [none]) (.ret (.v (.s (.c 9 0))))) (.em (.call 12 [] [none]) (.em (.pr (.unOp .not 4 (.tmp 0)) 4 [.s (.c 9 0)]) (.cond (.c 10 0) (.em (.call 12 [] [none]) (.ret (.v (.s (.c 11 0))))) (.em (.call 32 [.s (.c 4 0), .s (.k (.int .i64 0)), .s (.k (.int .i64 6))] [none]) (.em (.call 55 [.g [.c 5 0, .c 5 1, .c 5 2, .c 5 3, .c 5 4, .c 5 5, .c 5 6, .c 5 7], .s (.c 2 0)] [some 4]) (.em (.call 55 [.g [.c 6 0, .c 6 1, .c 6 2, .c 6 3, .c 6 4, .c 6 5, .c 6 6, .c 6 7], .s (.c 3 0)] [some 4]) (.em (.call 38 [.g [.c 5 0, .c 5 1, .c 5 2, .c 5 3, .c 5 4, .c 5 5, .c 5 6, .c 5 7], .g [.c 12 0, .c 12 1, .c 12 2, .c 12 3]] [none]) (.cond (.c 14 0) (.em (.call 38 [.g [.c 6 0, .c 6 1, .c 6 2, .c 6 3, .c 6 4, .c 6 5, .c 6 6, .c 6 7], .g [.c 13 0, .c 13 1, .c 13 2, .c 13 3]] [none]) (.cond (.c 15 0) (.em (.call 24 [.g [.c 5 0, .c 5 1, .c 5 2, .c 5 3, .c 5 4, .c 5 5, .c 5 6, .c 5 7], .g [.c 6 0, .c 6 1, .c 6 2, .c 6 3, .c 6 4, .c 6 5, .c 6 6, .c 6 7]] [some 8]) (.em (.call 56 [.g [.c 12 0, .c 12 1, .c 12 2, .c 12 3], .g [.c 13 0, .c 13 1, .c 13 2, .c 13 3]] [some 4]) (.em (.call 38 [.g [.c 16 0, .c 16 1, .c 16 2, .c 16 3, .c 16 4, .c 16 5, .c 16 6, .c 16 7], .g [.c 17 0, .c 17 1, .c 17 2, .c 17 3]] [none]) (.cond (.c 18 0) (.em (.call 26 [.g [.c 5 0, .c 5 1, .c 5 2, .c 5 3, .c 5 4, .c 5 5, .c 5 6, .c 5 7], .g [.c 6 0, .c 6 1, .c 6 2, .c 6 3, .c 6 4, .c 6 5, .c 6 6, .c 6 7]] [some 8]) (.em (.call 57 [.g [.c 12 0, .c 12 1, .c 12 2, .c 12 3], .g [.c 13 0, .c 13 1, .c 13 2, .c 13 3]] [some 4]) (.em (.call 38 [.g [.c 19 0, .c 19 1, .c 19 2, .c 19 3, .c 19 4, .c 19 5, .c 19 6, .c 19 7], .g [.c 20 0, .c 20 1, .c 20 2, .c 20 3]] [none]) (.cond (.c 21 0) (.em (.call 28 [.g [.c 5 0, .c 5 1, .c 5 2, .c 5 3, .c 5 4, .c 5 5, .c 5 6, .c 5 7], .g [.c 6 0, .c 6 1, .c 6 2, .c 6 3, .c 6 4, .c 6 5, .c 6 6, .c 6 7]] [some 8]) (.em (.call 58 [.g [.c 12 0, .c 12 1, .c 12 2, .c 12 3], .g [.c 13 0, .c 13 1, .c 13 2, .c 13 3]] [some 4]) (.em (.call 38 [.g [.c 22 0, .c 22 1, .c 22 2, .c 22 3, .c 22 4, .c 22 5, .c 22 6, .c 22 7], .g [.c 23 0, .c 23 1, .c 23 2, .c 23 3]] [none]) (.cond (.c 24 0) (.em (.call 30 [.g [.c 5 0, .c 5 1, .c 5 2, .c 5 3, .c 5 4, .c 5 5, .c 5 6, .c 5 7], .g [.c 13 0, .c 13 1, .c 13 2, .c 13 3]] [some 8]) (.em (.call 58 [.g [.c 12 0, .c 12 1, .c 12 2, .c 12 3], .g [.c 13 0, .c 13 1, .c 13 2, .c 13 3]] [some 4]) (.em (.call 38 [.g [.c 25 0, .c 25 1, .c 25 2, .c 25 3, .c 25 4, .c 25 5, .c 25 6, .c 25 7], .g [.c 26 0, .c 26 1, .c 26 2, .c 26 3]] [none]) (.cond (.c 27 0) (.em (.call 33 [.g [.c 5 0, .c 5 1, .c 5 2, .c 5 3, .c 5 4, .c 5 5, .c 5 6, .c 5 7], .s (.c 11 0)] [some 8]) (.em (.call 59 [.g [.c 12 0, .c 12 1, .c 12 2, .c 12 3], .s (.c 11 0)] [some 4]) (.em (.call 38 [.g [.c 28 0, .c 28 1, .c 28 2, .c 28 3, .c 28 4, .c 28 5, .c 28 6, .c 28 7], .g [.c 29 0, .c 29 1, .c 29 2, .c 29 3]] [none]) (.ret (.v (.s (.c 30 0))))))) (.ret (.v (.s (.k (.bool false))))))))) (.ret (.v (.s (.k (.bool false))))))))) (.ret (.v (.s (.k (.bool false))))))))) (.ret (.v (.s (.k (.bool false))))))))) (.ret (.v (.s (.k (.bool false))))))) (.ret (.v (.s (.k (.bool false)))))))))))))))))))) (by kernel_rfl) (by kernel_rfl) (by kernel_rfl) Mono.true trivial ⟨rfl, rfl, rfl, rfl, rfl, trivial⟩ ?_
  by_cases k0 : OfOk s r
  · refine wBothS (fun w _ _ => ofY s r w hs hr k0) rfl (fun va0 vb0 vc0 vd0 ve0 vf0 vg0 vh0 vi0 vj0 vk0 vl0 vm0 vn0 => ?_)
    by_cases k1 : OfOk t z
    · refine wBothS (fun w _ _ => ofY t z w ht hz k1) rfl (fun va1 vb1 vc1 vd1 ve1 vf1 vg1 vh1 vi1 vj1 vk1 vl1 vm1 vn1 => ?_)
      refine wPr (prNot rfl) rfl ?_
      refine wFalse rfl ?_
      refine wPr (prNot rfl) rfl ?_
      refine wFalse rfl ?_
      have l0 : ratVal s ≤ ratVal r := k0.1.2.2
      generalize ratVal s = x at l0 ⊢
      generalize ratVal r = y at l0 ⊢
      have l1 : ratVal t ≤ ratVal z := k1.1.2.2
      generalize ratVal t = x' at l1 ⊢
      generalize ratVal z = y' at l1 ⊢
      refine wMono (G := fun w => SpQ w va0 vb0 vc0 vd0 ve0 vf0 vg0 vh0 x y 21 ∧ SpQ w va1 vb1 vc1 vd1 ve1 vf1 vg1 vh1 x' y' 21) ((mSp _ _ _ _ _ _ _ _ _ _ _).and (mSp _ _ _ _ _ _ _ _ _ _ _)) (fun w ⟨x1, y1, x0, y0, _⟩ => ⟨x0, x1⟩) ?_
      refine wVal (fun w b _ => alive5_any w (hT.below b)) rfl ?_
      refine wPr (prNot rfl) rfl ?_
      refine wFalse rfl ?_
      have gi := ins_in l0 i
      have gk := ins_in l1 k
      refine wVal (fun w b _ => wi_any n 0 6 w (by decide) (by decide) (by decide)) rfl ?_
      have wl := wi_lim n (lo := 0) (hi := 6) (by decide)
      refine wRat (fun w b ⟨h, _⟩ => inside_any _ x y i 21 w ⟨_, _, _, _, _, _, _, _, rfl, h⟩ (by decide)) (fun ua ub uc ud => ?_)
      refine wRat (fun w b ⟨_, _, h⟩ => inside_any _ x' y' k 21 w ⟨_, _, _, _, _, _, _, _, rfl, h⟩ (by decide)) (fun ta tb tc td => ?_)
      generalize insQ x y i = u at gi ⊢
      generalize insQ x' y' k = t at gk ⊢
      refine wMono (G := fun w => QB w ua ub uc ud u 69 ∧ QB w ta tb tc td t 69 ∧ SpQ w va0 vb0 vc0 vd0 ve0 vf0 vg0 vh0 x y 21 ∧ SpQ w va1 vb1 vc1 vd1 ve1 vf1 vg1 vh1 x' y' 21) ((mQ _ _ _ _ _ _).and ((mQ _ _ _ _ _ _).and ((mSp _ _ _ _ _ _ _ _ _ _ _).and (mSp _ _ _ _ _ _ _ _ _ _ _)))) (fun w ⟨h2, h1, h3, h4⟩ => ⟨h1, h2, h3, h4⟩) ?_
      refine wVal (fun w b ⟨hu, _, h, _⟩ => hasY ⟨_, _, _, _, _, _, _, _, rfl, h⟩ ⟨_, _, _, _, rfl, hu⟩ (by decide) (by decide) gi.1 gi.2) rfl ?_
      refine wTrue rfl ?_
      refine wVal (fun w b ⟨_, ht, _, h⟩ => hasY ⟨_, _, _, _, _, _, _, _, rfl, h⟩ ⟨_, _, _, _, rfl, ht⟩ (by decide) (by decide) gk.1 gk.2) rfl ?_
      refine wTrue rfl ?_
      refine wSp (fun w b ⟨_, _, h, h2⟩ => sadd_any _ _ x y x' y' 21 21 w ⟨_, _, _, _, _, _, _, _, rfl, h⟩ ⟨_, _, _, _, _, _, _, _, rfl, h2⟩ (by decide) (by decide)) (fun _ _ _ _ _ _ _ _ => ?_)
      refine wRat (fun w b ⟨_, hu, ht, _⟩ => qadd_any _ _ u t 69 69 w ⟨_, _, _, _, rfl, hu⟩ ⟨_, _, _, _, rfl, ht⟩ (by decide) (by decide)) (fun _ _ _ _ => ?_)
      refine wVal (fun w b ⟨hr, h, _⟩ => hasY ⟨_, _, _, _, _, _, _, _, rfl, h⟩ ⟨_, _, _, _, rfl, hr⟩ (by decide) (by decide) (by grind) (by grind)) rfl ?_
      refine wTrue rfl ?_
      refine wMono (G := fun w => QB w ua ub uc ud u 69 ∧ QB w ta tb tc td t 69 ∧ SpQ w va0 vb0 vc0 vd0 ve0 vf0 vg0 vh0 x y 21 ∧ SpQ w va1 vb1 vc1 vd1 ve1 vf1 vg1 vh1 x' y' 21) ((mQ _ _ _ _ _ _).and ((mQ _ _ _ _ _ _).and ((mSp _ _ _ _ _ _ _ _ _ _ _).and (mSp _ _ _ _ _ _ _ _ _ _ _)))) (fun w h => h.2.2) ?_
      refine wSp (fun w b ⟨_, _, h, h2⟩ => ssub_any _ _ x y x' y' 21 21 w ⟨_, _, _, _, _, _, _, _, rfl, h⟩ ⟨_, _, _, _, _, _, _, _, rfl, h2⟩ (by decide) (by decide)) (fun _ _ _ _ _ _ _ _ => ?_)
      refine wRat (fun w b ⟨_, hu, ht, _⟩ => qsub_any _ _ u t 69 69 w ⟨_, _, _, _, rfl, hu⟩ ⟨_, _, _, _, rfl, ht⟩ (by decide) (by decide)) (fun _ _ _ _ => ?_)
      refine wVal (fun w b ⟨hr, h, _⟩ => hasY ⟨_, _, _, _, _, _, _, _, rfl, h⟩ ⟨_, _, _, _, rfl, hr⟩ (by decide) (by decide) (by grind) (by grind)) rfl ?_
      refine wTrue rfl ?_
      refine wMono (G := fun w => QB w ua ub uc ud u 69 ∧ QB w ta tb tc td t 69 ∧ SpQ w va0 vb0 vc0 vd0 ve0 vf0 vg0 vh0 x y 21 ∧ SpQ w va1 vb1 vc1 vd1 ve1 vf1 vg1 vh1 x' y' 21) ((mQ _ _ _ _ _ _).and ((mQ _ _ _ _ _ _).and ((mSp _ _ _ _ _ _ _ _ _ _ _).and (mSp _ _ _ _ _ _ _ _ _ _ _)))) (fun w h => h.2.2) ?_
      refine wSp (fun w b ⟨_, _, h, h2⟩ => smul_any _ _ x y x' y' 21 21 w ⟨_, _, _, _, _, _, _, _, rfl, h⟩ ⟨_, _, _, _, _, _, _, _, rfl, h2⟩ (by decide) (by decide) l0 l1) (fun _ _ _ _ _ _ _ _ => ?_)
      refine wRat (fun w b ⟨_, hu, ht, _⟩ => qmul_any _ _ u t 69 69 w ⟨_, _, _, _, rfl, hu⟩ ⟨_, _, _, _, rfl, ht⟩ (by decide) (by decide)) (fun _ _ _ _ => ?_)
      refine wVal (fun w b ⟨hr, h, _⟩ => hasY ⟨_, _, _, _, _, _, _, _, rfl, h⟩ ⟨_, _, _, _, rfl, hr⟩ (by decide) (by decide) (mul_in gi.1 gi.2 gk.1 gk.2).1 (mul_in gi.1 gi.2 gk.1 gk.2).2) rfl ?_
      refine wTrue rfl ?_
      refine wMono (G := fun w => QB w ua ub uc ud u 69 ∧ QB w ta tb tc td t 69 ∧ SpQ w va0 vb0 vc0 vd0 ve0 vf0 vg0 vh0 x y 21 ∧ SpQ w va1 vb1 vc1 vd1 ve1 vf1 vg1 vh1 x' y' 21) ((mQ _ _ _ _ _ _).and ((mQ _ _ _ _ _ _).and ((mSp _ _ _ _ _ _ _ _ _ _ _).and (mSp _ _ _ _ _ _ _ _ _ _ _)))) (fun w h => h.2.2) ?_
      refine wSp (fun w b ⟨_, ht, h, _⟩ => sscale_any _ _ x y t 21 69 w ⟨_, _, _, _, _, _, _, _, rfl, h⟩ ⟨_, _, _, _, rfl, ht⟩ (by decide) (by decide) l0) (fun _ _ _ _ _ _ _ _ => ?_)
      refine wRat (fun w b ⟨_, hu, ht, _⟩ => qmul_any _ _ u t 69 69 w ⟨_, _, _, _, rfl, hu⟩ ⟨_, _, _, _, rfl, ht⟩ (by decide) (by decide)) (fun _ _ _ _ => ?_)
      refine wVal (fun w b ⟨hr, h, _⟩ => hasY ⟨_, _, _, _, _, _, _, _, rfl, h⟩ ⟨_, _, _, _, rfl, hr⟩ (by decide) (by decide) (mul_in gi.1 gi.2 Rat.le_refl Rat.le_refl).1 (mul_in gi.1 gi.2 Rat.le_refl Rat.le_refl).2) rfl ?_
      refine wTrue rfl ?_
      refine wMono (G := fun w => QB w ua ub uc ud u 69 ∧ QB w ta tb tc td t 69 ∧ SpQ w va0 vb0 vc0 vd0 ve0 vf0 vg0 vh0 x y 21 ∧ SpQ w va1 vb1 vc1 vd1 ve1 vf1 vg1 vh1 x' y' 21) ((mQ _ _ _ _ _ _).and ((mQ _ _ _ _ _ _).and ((mSp _ _ _ _ _ _ _ _ _ _ _).and (mSp _ _ _ _ _ _ _ _ _ _ _)))) (fun w h => h.2.2) ?_
      refine wSp (fun w b ⟨_, _, h, _⟩ => spow_any _ x y (wi n 0 6) 21 w ⟨_, _, _, _, _, _, _, _, rfl, h⟩ (by decide) (by decide) l0) (fun _ _ _ _ _ _ _ _ => ?_)
      refine wRat (fun w b ⟨_, hu, _⟩ => qpow_any _ u (wi n 0 6) 69 w ⟨_, _, _, _, rfl, hu⟩ (by decide) (by decide) (by omega) (by omega)) (fun _ _ _ _ => ?_)
      refine wVal (fun w b ⟨hr, h, _⟩ => hasY ⟨_, _, _, _, _, _, _, _, rfl, h⟩ ⟨_, _, _, _, rfl, hr⟩ (by decide) (by decide) (pow_in gi.1 gi.2 _).1 (pow_in gi.1 gi.2 _).2) rfl ?_
      exact wRet fun w b _ => ⟨rfl, b⟩
    · refine wKnown ZeroO (fun w _ _ => ofN t z w ht hz k1) rfl rfl ?_
      refine wPr (prNot rfl) rfl ?_
      refine wFalse rfl ?_
      refine wPr (prNot rfl) rfl ?_
      refine wTrue rfl ?_
      refine wVal (fun w b _ => alive5_any w (hT.below b)) rfl ?_
      exact wRet fun w b _ => ⟨rfl, b⟩
  · refine wKnown ZeroO (fun w _ _ => ofN s r w hs hr k0) rfl rfl ?_
    by_cases k1 : OfOk t z
    · refine wBothS (fun w _ _ => ofY t z w ht hz k1) rfl (fun va1 vb1 vc1 vd1 ve1 vf1 vg1 vh1 vi1 vj1 vk1 vl1 vm1 vn1 => ?_)
      refine wPr (prNot rfl) rfl ?_
      refine wTrue rfl ?_
      refine wVal (fun w b _ => alive5_any w (hT.below b)) rfl ?_
      exact wRet fun w b _ => ⟨rfl, b⟩
    · refine wKnown ZeroO (fun w _ _ => ofN t z w ht hz k1) rfl rfl ?_
      refine wPr (prNot rfl) rfl ?_
      refine wTrue rfl ?_
      refine wVal (fun w b _ => alive5_any w (hT.below b)) rfl ?_
      exact wRet fun w b _ => ⟨rfl, b⟩

end Go.Proofs.YtfohgkabmdhhaaaGreatDoor
