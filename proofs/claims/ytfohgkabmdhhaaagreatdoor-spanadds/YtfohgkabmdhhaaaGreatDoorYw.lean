/- The law SpanAdds. -/
import Derived.Test.YtfohgkabmdhhaaaGreatDoorYv
import Derived.ChangeSame
import Derived.ChangeMaps5
namespace Go.Proofs.YtfohgkabmdhhaaaGreatDoor
open Go.RowKit Cin
set_option maxHeartbeats 8000000 in
theorem spanAdds_any (s r t z m : ByteArray) (w : World) (hT : Tabs w) (hs : s.size ≤ 9223372036854775807) (hr : r.size ≤ 9223372036854775807) (ht : t.size ≤ 9223372036854775807) (hz : z.size ≤ 9223372036854775807) (hm : m.size ≤ 9223372036854775807) :
    Calls Tryz.prog 4 #[.agg #[.string s, .string r], .agg #[.string t, .string z], .string m] w fun e w' => e = .returned (.bool true) ∧ Below w.heap.size w w' := by
  refine go (fun _ => True) [[.string s, .string r], [.string t, .string z], [.string m]] [some 2, some 2, none] (tr := (.em (.call 22 [.g [.c 0 0, .c 0 1]] [some 8, some 6, none]) (.em (.call 22 [.g [.c 1 0, .c 1 1]] [some 8, some 6, none]) (.em (.call 23 [.s (.c 2 0)] [some 4, some 3, none]) (.em (.pr (.unOp .not 4 (.tmp 0)) 4 [.s (.c 3 14)]) (.cond (.c 6 0) (.em (.call 12 [] [none]) (.ret (.v (.s (.c 7 0))))) (.em (.pr (.unOp .not 4 (.tmp 0)) 4 [.s (.c 4 14)]) (.cond (.c 7 0) (.em (.call 12 [] [none]) (.ret (.v (.s (.c 8 0))))) (.em (.pr (.unOp .not 4 (.tmp 0)) 4 [.s (.c 5 7)]) (.cond (.c 8 0) (.em (.call 12 [] [none]) (.ret (.v (.s (.c 9 0))))) (.em (.call 12 [] [none]) (.em (.pr (.unOp .not 4 (.tmp 0)) 4 [.s (.c 9 0)]) (.cond (.c 10 0) (.em (.call 12 [] [none]) (.ret (.v (.s (.c 11 0))))) (.em (.call 24 [.g [.c 3 0, .c 3 1, .c 3 2, .c 3 3, .c 3 4, .c 3 5, .c 3 6, .c 3 7], .g [.c 4 0, .c 4 1, .c 4 2, .c 4 3, .c 4 4, .c 4 5, .c 4 6, .c 4 7]] [some 8]) (.em (.call 25 [.g [.c 3 8, .c 3 9, .c 3 10, .c 3 11, .c 3 12, .c 3 13], .g [.c 4 8, .c 4 9, .c 4 10, .c 4 11, .c 4 12, .c 4 13]] [some 6]) (.em (.call 15 [.g [.c 11 0, .c 11 1, .c 11 2, .c 11 3, .c 11 4, .c 11 5, .c 11 6, .c 11 7], .g [.c 12 0, .c 12 1, .c 12 2, .c 12 3, .c 12 4, .c 12 5]] [none]) (.cond (.c 13 0) (.em (.call 26 [.g [.c 3 0, .c 3 1, .c 3 2, .c 3 3, .c 3 4, .c 3 5, .c 3 6, .c 3 7], .g [.c 4 0, .c 4 1, .c 4 2, .c 4 3, .c 4 4, .c 4 5, .c 4 6, .c 4 7]] [some 8]) (.em (.call 27 [.g [.c 3 8, .c 3 9, .c 3 10, .c 3 11, .c 3 12, .c 3 13], .g [.c 4 8, .c 4 9, .c 4 10, .c 4 11, .c 4 12, .c 4 13]] [some 6]) (.em (.call 15 [.g [.c 14 0, .c 14 1, .c 14 2, .c 14 3, .c 14 4, .c 14 5, .c 14 6, .c 14 7], .g [.c 15 0, .c 15 1, .c 15 2, .c 15 3, .c 15 4, .c 15 5]] [none]) (.cond (.c 16 0) (.em (.call 28 [.g [.c 3 0, .c 3 1, .c 3 2, .c 3 3, .c 3 4, .c 3 5, .c 3 6, .c 3 7], .g [.c 4 0, .c 4 1, .c 4 2, .c 4 3, .c 4 4, .c 4 5, .c 4 6, .c 4 7]] [some 8]) (.em (.call 29 [.g [.c 3 8, .c 3 9, .c 3 10, .c 3 11, .c 3 12, .c 3 13], .g [.c 4 8, .c 4 9, .c 4 10, .c 4 11, .c 4 12, .c 4 13]] [some 6]) (.em (.call 15 [.g [.c 17 0, .c 17 1, .c 17 2, .c 17 3, .c 17 4, .c 17 5, .c 17 6, .c 17 7], .g [.c 18 0, .c 18 1, .c 18 2, .c 18 3, .c 18 4, .c 18 5]] [none]) (.cond (.c 19 0) (.em (.call 30 [.g [.c 3 0, .c 3 1, .c 3 2, .c 3 3, .c 3 4, .c 3 5, .c 3 6, .c 3 7], .g [.c 5 0, .c 5 1, .c 5 2, .c 5 3]] [some 8]) (.em (.call 31 [.g [.c 3 8, .c 3 9, .c 3 10, .c 3 11, .c 3 12, .c 3 13], .g [.c 5 4, .c 5 5, .c 5 6]] [some 6]) (.em (.call 15 [.g [.c 20 0, .c 20 1, .c 20 2, .c 20 3, .c 20 4, .c 20 5, .c 20 6, .c 20 7], .g [.c 21 0, .c 21 1, .c 21 2, .c 21 3, .c 21 4, .c 21 5]] [none]) (.ret (.v (.s (.c 22 0))))))) (.ret (.v (.s (.k (.bool false))))))))) (.ret (.v (.s (.k (.bool false))))))))) (.ret (.v (.s (.k (.bool false)))))))))))))))))))))) (by kernel_rfl) (by kernel_rfl) (by kernel_rfl) Mono.true trivial ⟨rfl, rfl, rfl, trivial⟩ ?_
  by_cases k0 : OfOk s r
  · refine wBothS (fun w _ _ => ofY s r w hs hr k0) rfl (fun va0 vb0 vc0 vd0 ve0 vf0 vg0 vh0 vi0 vj0 vk0 vl0 vm0 vn0 => ?_)
    by_cases k1 : OfOk t z
    · refine wBothS (fun w _ _ => ofY t z w ht hz k1) rfl (fun va1 vb1 vc1 vd1 ve1 vf1 vg1 vh1 vi1 vj1 vk1 vl1 vm1 vn1 => ?_)
      by_cases k2 : NumQ m
      · refine wBoth (fun w _ _ => numY m w hm k2) rfl (fun vo2 vp2 vq2 vr2 vs2 vt2 vu2 => ?_)
        refine wPr (prNot rfl) rfl ?_
        refine wFalse rfl ?_
        refine wPr (prNot rfl) rfl ?_
        refine wFalse rfl ?_
        refine wPr (prNot rfl) rfl ?_
        refine wFalse rfl ?_
        have l0 : ratVal s ≤ ratVal r := k0.1.2.2
        generalize ratVal s = x at l0 ⊢
        generalize ratVal r = y at l0 ⊢
        have l1 : ratVal t ≤ ratVal z := k1.1.2.2
        generalize ratVal t = x' at l1 ⊢
        generalize ratVal z = y' at l1 ⊢
        generalize ratVal m = q
        refine wMono (G := fun w => SpQ w va0 vb0 vc0 vd0 ve0 vf0 vg0 vh0 x y 21 ∧ DsQ w vi0 vj0 vk0 vl0 vm0 vn0 x y 21 ∧ SpQ w va1 vb1 vc1 vd1 ve1 vf1 vg1 vh1 x' y' 21 ∧ DsQ w vi1 vj1 vk1 vl1 vm1 vn1 x' y' 21 ∧ QB w vo2 vp2 vq2 vr2 q 21 ∧ DQ w vs2 vt2 vu2 q 21) ((mSp _ _ _ _ _ _ _ _ _ _ _).and ((mDs _ _ _ _ _ _ _ _ _).and ((mSp _ _ _ _ _ _ _ _ _ _ _).and ((mDs _ _ _ _ _ _ _ _ _).and ((mQ _ _ _ _ _ _).and (mD _ _ _ _ _)))))) (fun w ⟨x2, y2, x1, y1, x0, y0, _⟩ => ⟨x0, y0, x1, y1, x2, y2⟩) ?_
        refine wVal (fun w b _ => alive5_any w (hT.below b)) rfl ?_
        refine wPr (prNot rfl) rfl ?_
        refine wFalse rfl ?_
        refine wSp (fun w b ⟨h, _, h2, _⟩ => sadd_any _ _ x y x' y' 21 21 w ⟨_, _, _, _, _, _, _, _, rfl, h⟩ ⟨_, _, _, _, _, _, _, _, rfl, h2⟩ (by decide) (by decide)) (fun _ _ _ _ _ _ _ _ => ?_)
        refine wDs (fun w b ⟨_, _, h, _, h2, _⟩ => dsadd_any _ _ x y x' y' 21 21 w ⟨_, _, _, _, _, _, rfl, h⟩ ⟨_, _, _, _, _, _, rfl, h2⟩ (by decide) (by decide)) (fun _ _ _ _ _ _ => ?_)
        refine wVal (fun w b ⟨h2, h1, _⟩ => is5_any _ _ _ _ _ _ w ⟨_, _, _, _, _, _, _, _, rfl, h1⟩ ⟨_, _, _, _, _, _, rfl, h2⟩ (by decide) (by decide) (hT.below b)) rfl ?_
        refine wTrue rfl ?_
        refine wMono (G := fun w => SpQ w va0 vb0 vc0 vd0 ve0 vf0 vg0 vh0 x y 21 ∧ DsQ w vi0 vj0 vk0 vl0 vm0 vn0 x y 21 ∧ SpQ w va1 vb1 vc1 vd1 ve1 vf1 vg1 vh1 x' y' 21 ∧ DsQ w vi1 vj1 vk1 vl1 vm1 vn1 x' y' 21 ∧ QB w vo2 vp2 vq2 vr2 q 21 ∧ DQ w vs2 vt2 vu2 q 21) ((mSp _ _ _ _ _ _ _ _ _ _ _).and ((mDs _ _ _ _ _ _ _ _ _).and ((mSp _ _ _ _ _ _ _ _ _ _ _).and ((mDs _ _ _ _ _ _ _ _ _).and ((mQ _ _ _ _ _ _).and (mD _ _ _ _ _)))))) (fun w h => h.2.2) ?_
        refine wSp (fun w b ⟨h, _, h2, _⟩ => ssub_any _ _ x y x' y' 21 21 w ⟨_, _, _, _, _, _, _, _, rfl, h⟩ ⟨_, _, _, _, _, _, _, _, rfl, h2⟩ (by decide) (by decide)) (fun _ _ _ _ _ _ _ _ => ?_)
        refine wDs (fun w b ⟨_, _, h, _, h2, _⟩ => dssub_any _ _ x y x' y' 21 21 w ⟨_, _, _, _, _, _, rfl, h⟩ ⟨_, _, _, _, _, _, rfl, h2⟩ (by decide) (by decide)) (fun _ _ _ _ _ _ => ?_)
        refine wVal (fun w b ⟨h2, h1, _⟩ => is5_any _ _ _ _ _ _ w ⟨_, _, _, _, _, _, _, _, rfl, h1⟩ ⟨_, _, _, _, _, _, rfl, h2⟩ (by decide) (by decide) (hT.below b)) rfl ?_
        refine wTrue rfl ?_
        refine wMono (G := fun w => SpQ w va0 vb0 vc0 vd0 ve0 vf0 vg0 vh0 x y 21 ∧ DsQ w vi0 vj0 vk0 vl0 vm0 vn0 x y 21 ∧ SpQ w va1 vb1 vc1 vd1 ve1 vf1 vg1 vh1 x' y' 21 ∧ DsQ w vi1 vj1 vk1 vl1 vm1 vn1 x' y' 21 ∧ QB w vo2 vp2 vq2 vr2 q 21 ∧ DQ w vs2 vt2 vu2 q 21) ((mSp _ _ _ _ _ _ _ _ _ _ _).and ((mDs _ _ _ _ _ _ _ _ _).and ((mSp _ _ _ _ _ _ _ _ _ _ _).and ((mDs _ _ _ _ _ _ _ _ _).and ((mQ _ _ _ _ _ _).and (mD _ _ _ _ _)))))) (fun w h => h.2.2) ?_
        refine wSp (fun w b ⟨h, _, h2, _⟩ => smul_any _ _ x y x' y' 21 21 w ⟨_, _, _, _, _, _, _, _, rfl, h⟩ ⟨_, _, _, _, _, _, _, _, rfl, h2⟩ (by decide) (by decide) l0 l1) (fun _ _ _ _ _ _ _ _ => ?_)
        refine wDs (fun w b ⟨_, _, h, _, h2, _⟩ => dsmul_any _ _ x y x' y' 21 21 w ⟨_, _, _, _, _, _, rfl, h⟩ ⟨_, _, _, _, _, _, rfl, h2⟩ (by decide) (by decide) (by decide)) (fun _ _ _ _ _ _ => ?_)
        refine wVal (fun w b ⟨h2, h1, _⟩ => is5_any _ _ _ _ _ _ w ⟨_, _, _, _, _, _, _, _, rfl, h1⟩ ⟨_, _, _, _, _, _, rfl, h2⟩ (by decide) (by decide) (hT.below b)) rfl ?_
        refine wTrue rfl ?_
        refine wMono (G := fun w => SpQ w va0 vb0 vc0 vd0 ve0 vf0 vg0 vh0 x y 21 ∧ DsQ w vi0 vj0 vk0 vl0 vm0 vn0 x y 21 ∧ SpQ w va1 vb1 vc1 vd1 ve1 vf1 vg1 vh1 x' y' 21 ∧ DsQ w vi1 vj1 vk1 vl1 vm1 vn1 x' y' 21 ∧ QB w vo2 vp2 vq2 vr2 q 21 ∧ DQ w vs2 vt2 vu2 q 21) ((mSp _ _ _ _ _ _ _ _ _ _ _).and ((mDs _ _ _ _ _ _ _ _ _).and ((mSp _ _ _ _ _ _ _ _ _ _ _).and ((mDs _ _ _ _ _ _ _ _ _).and ((mQ _ _ _ _ _ _).and (mD _ _ _ _ _)))))) (fun w h => h.2.2) ?_
        refine wSp (fun w b ⟨h, _, _, _, h2, _⟩ => sscale_any _ _ x y q 21 21 w ⟨_, _, _, _, _, _, _, _, rfl, h⟩ ⟨_, _, _, _, rfl, h2⟩ (by decide) (by decide) l0) (fun _ _ _ _ _ _ _ _ => ?_)
        refine wDs (fun w b ⟨_, _, h, _, _, _, h2⟩ => dsscale_any _ _ x y q 21 21 w ⟨_, _, _, _, _, _, rfl, h⟩ ⟨_, _, _, rfl, h2⟩ (by decide) (by decide) (by decide)) (fun _ _ _ _ _ _ => ?_)
        refine wVal (fun w b ⟨h2, h1, _⟩ => is5_any _ _ _ _ _ _ w ⟨_, _, _, _, _, _, _, _, rfl, h1⟩ ⟨_, _, _, _, _, _, rfl, h2⟩ (by decide) (by decide) (hT.below b)) rfl ?_
        exact wRet fun w b _ => ⟨rfl, b⟩
      · refine wKnown [.bool false, .slice none 0 0, .bool false, .slice none 0 0, .bool false, .slice none 0 0, .slice none 0 0, .bool false] (fun w _ _ => numN m w hm k2) rfl rfl ?_
        refine wPr (prNot rfl) rfl ?_
        refine wFalse rfl ?_
        refine wPr (prNot rfl) rfl ?_
        refine wFalse rfl ?_
        refine wPr (prNot rfl) rfl ?_
        refine wTrue rfl ?_
        refine wVal (fun w b _ => alive5_any w (hT.below b)) rfl ?_
        exact wRet fun w b _ => ⟨rfl, b⟩
    · refine wKnown ZeroO (fun w _ _ => ofN t z w ht hz k1) rfl rfl ?_
      by_cases k2 : NumQ m
      · refine wBoth (fun w _ _ => numY m w hm k2) rfl (fun vo2 vp2 vq2 vr2 vs2 vt2 vu2 => ?_)
        refine wPr (prNot rfl) rfl ?_
        refine wFalse rfl ?_
        refine wPr (prNot rfl) rfl ?_
        refine wTrue rfl ?_
        refine wVal (fun w b _ => alive5_any w (hT.below b)) rfl ?_
        exact wRet fun w b _ => ⟨rfl, b⟩
      · refine wKnown [.bool false, .slice none 0 0, .bool false, .slice none 0 0, .bool false, .slice none 0 0, .slice none 0 0, .bool false] (fun w _ _ => numN m w hm k2) rfl rfl ?_
        refine wPr (prNot rfl) rfl ?_
        refine wFalse rfl ?_
        refine wPr (prNot rfl) rfl ?_
        refine wTrue rfl ?_
        refine wVal (fun w b _ => alive5_any w (hT.below b)) rfl ?_
        exact wRet fun w b _ => ⟨rfl, b⟩
  · refine wKnown ZeroO (fun w _ _ => ofN s r w hs hr k0) rfl rfl ?_
    by_cases k1 : OfOk t z
    · refine wBothS (fun w _ _ => ofY t z w ht hz k1) rfl (fun va1 vb1 vc1 vd1 ve1 vf1 vg1 vh1 vi1 vj1 vk1 vl1 vm1 vn1 => ?_)
      by_cases k2 : NumQ m
      · refine wBoth (fun w _ _ => numY m w hm k2) rfl (fun vo2 vp2 vq2 vr2 vs2 vt2 vu2 => ?_)
        refine wPr (prNot rfl) rfl ?_
        refine wTrue rfl ?_
        refine wVal (fun w b _ => alive5_any w (hT.below b)) rfl ?_
        exact wRet fun w b _ => ⟨rfl, b⟩
      · refine wKnown [.bool false, .slice none 0 0, .bool false, .slice none 0 0, .bool false, .slice none 0 0, .slice none 0 0, .bool false] (fun w _ _ => numN m w hm k2) rfl rfl ?_
        refine wPr (prNot rfl) rfl ?_
        refine wTrue rfl ?_
        refine wVal (fun w b _ => alive5_any w (hT.below b)) rfl ?_
        exact wRet fun w b _ => ⟨rfl, b⟩
    · refine wKnown ZeroO (fun w _ _ => ofN t z w ht hz k1) rfl rfl ?_
      by_cases k2 : NumQ m
      · refine wBoth (fun w _ _ => numY m w hm k2) rfl (fun vo2 vp2 vq2 vr2 vs2 vt2 vu2 => ?_)
        refine wPr (prNot rfl) rfl ?_
        refine wTrue rfl ?_
        refine wVal (fun w b _ => alive5_any w (hT.below b)) rfl ?_
        exact wRet fun w b _ => ⟨rfl, b⟩
      · refine wKnown [.bool false, .slice none 0 0, .bool false, .slice none 0 0, .bool false, .slice none 0 0, .slice none 0 0, .bool false] (fun w _ _ => numN m w hm k2) rfl rfl ?_
        refine wPr (prNot rfl) rfl ?_
        refine wTrue rfl ?_
        refine wVal (fun w b _ => alive5_any w (hT.below b)) rfl ?_
        exact wRet fun w b _ => ⟨rfl, b⟩
end Go.Proofs.YtfohgkabmdhhaaaGreatDoor

namespace Cin
open Go Go.ChangeShapes Go.WideShapes
section
variable {H : Type} {enc : TypeId × Value → H} {P : Program} {w : World} {base : Nat} {spare : Nat → Bool} {held : Bool}
theorem open_pair {r : Reach} {b0 : Nat} {t s : TypeId} {f0 f1 : Field} {v : Value} {d : DataW H} {ps : List MemPlace} (ht : P.underlying t = some (.struct #[f0, f1])) (hs : P.underlying s = some .string) (hf : f0.type = s ∧ f1.type = s ∧ f0.offset = 0 ∧ f1.offset = 1) (ce : P.cellsOf t = 2) (cs : P.cellsOf s = 1)
    (hval : Value.okWide P w r b0 t v) (hd : DataW.Trod enc P w base spare held t v d ps) :
    ∃ x y : ByteArray, v = .agg #[.string x, .string y] ∧ d = .agg [.lit (.string x.data.toList), .lit (.string y.data.toList)] ∧ ps = [] ∧ x.size ≤ maxLen ∧ y.size ≤ maxLen := by
  obtain ⟨t0, t1, o0, o1⟩ := hf
  obtain ⟨cells, rfl, hsz⟩ := okWide_struct ht hval
  obtain ⟨fuel, hf⟩ := hd
  obtain ⟨y0, y1, n, hx, hl, h0, h1⟩ := trod_struct2 ht hf
  rw [t0, o0, cs] at h0
  rw [t1, o1, cs] at h1
  obtain ⟨x, e0, rfl, l0⟩ := DataW.trod_string hs h0
  obtain ⟨y, e1, rfl, l1⟩ := DataW.trod_string hs h1
  simp only [Prod.mk.injEq] at hx
  refine ⟨x, y, ?_, hx.1, by rw [hx.2]; rfl, l0, l1⟩
  simp only [Value.cells] at e0 e1
  rw [ce] at hsz
  obtain ⟨l⟩ := cells
  match l, hsz with
  | [a, b], _ =>
    simp at e0 e1
    rw [e0, e1]
theorem shut_pair {t s : TypeId} {f0 f1 : Field} {x y : ByteArray} (ht : P.underlying t = some (.struct #[f0, f1])) (hs : P.underlying s = some .string) (hf : f0.type = s ∧ f1.type = s ∧ f0.offset = 0 ∧ f1.offset = 1) (ce : P.cellsOf t = 2) (cs : P.cellsOf s = 1)
    (l0 : x.size ≤ maxLen) (l1 : y.size ≤ maxLen) : DataW.Trod enc P w base spare held t (.agg #[.string x, .string y]) (.agg [.lit (.string x.data.toList), .lit (.string y.data.toList)]) [] := by
  obtain ⟨t0, t1, o0, o1⟩ := hf
  have g0 : DataW.trod enc P w base spare held 1 s [.string x] = some (.lit (.string x.data.toList), []) := by simp [DataW.trod, hs, l0]
  have g1 : DataW.trod enc P w base spare held 1 s [.string y] = some (.lit (.string y.data.toList), []) := by simp [DataW.trod, hs, l1]
  refine ⟨2, ?_⟩
  have := trod_struct2_mk (enc := enc) (w := w) (base := base) (spare := spare) (held := held) (n := 1) (cs := [.string x, .string y]) ht (by rw [ce]; rfl) (y0 := (.lit (.string x.data.toList), [])) (y1 := (.lit (.string y.data.toList), []))
    (by rw [t0, o0, cs]; exact g0) (by rw [t1, o1, cs]; exact g1)
  exact this
end
end Cin
