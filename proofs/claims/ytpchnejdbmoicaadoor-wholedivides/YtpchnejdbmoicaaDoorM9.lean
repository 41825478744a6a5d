/- The law WholeDivides. -/
import Derived.Test.YtpchnejdbmoicaaDoorYg
import Derived.Test.YtpchnejdbmoicaaDoorYh
import Derived.Test.YtpchnejdbmoicaaDoorYk
import Derived.Test.YtpchnejdbmoicaaDoorYo
import Derived.Test.YtpchnejdbmoicaaDoorYr
namespace Go.Proofs.YtpchnejdbmoicaaDoor
open Go.RowKit Cin

theorem sgnZ_not {y : Int} (h : y ≠ 0) : ∃ S : Int, sgnZ y = S ∧ (S == 0) = false := by
  refine ⟨_, rfl, ?_⟩
  unfold sgnZ
  split
  · rfl
  · rw [if_pos (by omega)]; rfl
theorem intS_zero : intS 0 = ⟨#[48]⟩ := by unfold intS; rw [if_neg (by decide), show (0 : Int).natAbs = 0 from rfl, dec_small (by decide)]; rfl

set_option maxRecDepth 100000 in
set_option maxHeartbeats 16000000 in
/-- The law holds of every two texts. -/
theorem wholeDivides_any (a b : ByteArray) (w : World) (hT : Tabs w) :
    Calls Tryd.prog 7 #[.string a, .string b] w fun e w' => e = .returned (.bool true) ∧ Below w.heap.size w w' := by
  have HTT := Lib.hid hT
  clear hT
  go_enter Tryd.func7, Tryd.ntmps7
  go_wp2_with fail
  refine (num_uni a _).mono ?_
  rintro e w1 ⟨ok1, b1, ad1, l1, c1, d1, ae1, m1, e1, rfl, hI1, hb1⟩
  have hbA1 := bel_alloc2 w1 (Obj.cells #[Value.bool b1, Value.slice ad1 l1 c1] 51) (Obj.cells #[Value.bool d1, Value.slice ae1 m1 e1] 53)
  have HB1 := Lib.hid (bel_on hb1 hbA1)
  have HI1 := Lib.hid (show ok1 = true → IntB 68 ((w1.alloc (Obj.cells #[Value.bool b1, Value.slice ad1 l1 c1] 51)).alloc (Obj.cells #[Value.bool d1, Value.slice ae1 m1 e1] 53)) (.agg #[.bool b1, .slice ad1 l1 c1]) (intVal a) 21 ∧ IntB 68 ((w1.alloc (Obj.cells #[Value.bool b1, Value.slice ad1 l1 c1] 51)).alloc (Obj.cells #[Value.bool d1, Value.slice ae1 m1 e1] 53)) (.agg #[.bool d1, .slice ae1 m1 e1]) (intVal a) 21 from fun h => ⟨(hI1.out h).1.below hbA1, (hI1.out h).2.below hbA1⟩)
  have HC1 := Lib.hid (cell_pair (heldN2 (w := w1) (c0 := #[Value.bool b1, Value.slice ad1 l1 c1]) (t0 := 51) (c1 := #[Value.bool d1, Value.slice ae1 m1 e1]) (t1 := 53)).1)
  have HD1 := Lib.hid (cell_pair (heldN2 (w := w1) (c0 := #[Value.bool b1, Value.slice ad1 l1 c1]) (t0 := 51) (c1 := #[Value.bool d1, Value.slice ae1 m1 e1]) (t1 := 53)).2.1)
  have hs1 := hb1.size
  clear hI1 hb1 hbA1
  go_wp2_with fail
  refine (num_uni b _).mono ?_
  rintro e w2 ⟨ok2, b2, ad2, l2, c2, d2, ae2, m2, e2, rfl, hI2, hb2⟩
  have hbA2 := bel_alloc2 w2 (Obj.cells #[Value.bool b2, Value.slice ad2 l2 c2] 51) (Obj.cells #[Value.bool d2, Value.slice ae2 m2 e2] 53)
  have HB2 := Lib.hid (bel_on (bel_on HB1.out hb2) hbA2)
  have HI2 := Lib.hid (show ok2 = true → IntB 68 ((w2.alloc (Obj.cells #[Value.bool b2, Value.slice ad2 l2 c2] 51)).alloc (Obj.cells #[Value.bool d2, Value.slice ae2 m2 e2] 53)) (.agg #[.bool b2, .slice ad2 l2 c2]) (intVal b) 21 ∧ IntB 68 ((w2.alloc (Obj.cells #[Value.bool b2, Value.slice ad2 l2 c2] 51)).alloc (Obj.cells #[Value.bool d2, Value.slice ae2 m2 e2] 53)) (.agg #[.bool d2, .slice ae2 m2 e2]) (intVal b) 21 from fun h => ⟨(hI2.out h).1.below hbA2, (hI2.out h).2.below hbA2⟩)
  have HC2 := Lib.hid (cell_pair (heldN2 (w := w2) (c0 := #[Value.bool b2, Value.slice ad2 l2 c2]) (t0 := 51) (c1 := #[Value.bool d2, Value.slice ae2 m2 e2]) (t1 := 53)).1)
  have HD2 := Lib.hid (cell_pair (heldN2 (w := w2) (c0 := #[Value.bool b2, Value.slice ad2 l2 c2]) (t0 := 51) (c1 := #[Value.bool d2, Value.slice ae2 m2 e2]) (t1 := 53)).2.1)
  have hs2 := hb2.size
  replace HI1 := Lib.hid (show ok1 = true → _ ∧ _ from fun h => ⟨((HI1.out h).1.below hb2).below hbA2, ((HI1.out h).2.below hb2).below hbA2⟩)
  replace HC1 := Lib.hid (And.intro (cell_below (cell_below HC1.out.1 hb2) hbA2) (cell_below (cell_below HC1.out.2 hb2) hbA2))
  replace HD1 := Lib.hid (And.intro (cell_below (cell_below HD1.out.1 hb2) hbA2) (cell_below (cell_below HD1.out.2 hb2) hbA2))
  clear hI2 hb2 hbA2
  cases ok1
  ·
    go_wp2_with fail
    refine (alive2_any _).mono ?_
    rintro e w4 ⟨rfl, hb4⟩
    have HB4 := Lib.hid (bel_on HB2.out hb4)
    clear hb4
    go_wp2
    go_ret
    exact ⟨rfl, HB4.out⟩
  · cases ok2
    ·
      go_wp2_with fail
      refine (alive2_any _).mono ?_
      rintro e w4 ⟨rfl, hb4⟩
      have HB4 := Lib.hid (bel_on HB2.out hb4)
      clear hb4
      go_wp2
      go_ret
      exact ⟨rfl, HB4.out⟩
    · have HP := Lib.hid (HI1.out rfl).1
      have HX := Lib.hid (HI1.out rfl).2
      have HQ := Lib.hid (HI2.out rfl).1
      have HY := Lib.hid (HI2.out rfl).2
      obtain ⟨hp0, hp1⟩ := HC1.out
      obtain ⟨hx0, hx1⟩ := HD1.out
      obtain ⟨hq0, hq1⟩ := HC2.out
      obtain ⟨hy0, hy1⟩ := HD2.out
      clear HI1 HI2 HC1 HC2 HD1 HD2
      go_wp2_with fail
      generalize (w2.alloc (Obj.cells #[Value.bool b2, Value.slice ad2 l2 c2] 51)).alloc (Obj.cells #[Value.bool d2, Value.slice ae2 m2 e2] 53) = X at *
      refine (alive2_any _).mono ?_
      rintro e w4 ⟨rfl, hb4⟩
      replace hp0 := cell_below hp0 hb4
      replace hp1 := cell_below hp1 hb4
      replace hx0 := cell_below hx0 hb4
      replace hx1 := cell_below hx1 hb4
      replace hq0 := cell_below hq0 hb4
      replace hq1 := cell_below hq1 hb4
      replace hy0 := cell_below hy0 hb4
      replace hy1 := cell_below hy1 hb4
      replace HP := Lib.hid (HP.out.below hb4)
      replace HX := Lib.hid (HX.out.below hb4)
      replace HQ := Lib.hid (HQ.out.below hb4)
      replace HY := Lib.hid (HY.out.below hb4)
      have HB := Lib.hid (bel_on HB2.out hb4)
      clear hb4
      generalize intVal a = x at *
      generalize intVal b = y at *
      by_cases hy : y = 0
      · have HYZ := Lib.hid hy
        clear hy
        go_wp2_with fail
        refine (idivZero_any (.agg #[.bool b1, .slice ad1 l1 c1]) (.agg #[.bool b2, .slice ad2 l2 c2]) x 21 21 _ HP.out (by have h := HQ.out; rw [HYZ.out] at h; exact h)).mono ?_
        rintro e w5 ⟨rfl, hb⟩
        replace hy0 := cell_below hy0 hb
        replace hy1 := cell_below hy1 hb
        replace HY := Lib.hid (HY.out.below hb)
        replace HB := Lib.hid (bel_on HB.out hb)
        have hbA := bel_alloc2 w5 (Obj.cells #[Value.bool false, Value.slice none 0 0] 51) (Obj.cells #[Value.bool false, Value.slice none 0 0] 51)
        have hh := heldN2 (w := w5) (c0 := #[Value.bool false, Value.slice none 0 0]) (t0 := 51) (c1 := #[Value.bool false, Value.slice none 0 0]) (t1 := 51)
        obtain ⟨hd0, hd1⟩ := cell_pair hh.1
        obtain ⟨hr0, hr1⟩ := cell_pair hh.2.1
        replace hy0 := cell_below hy0 hbA
        replace hy1 := cell_below hy1 hbA
        replace HY := Lib.hid (HY.out.below hbA)
        replace HB := Lib.hid (bel_on HB.out hbA)
        clear hb hbA hh hp0 hp1 hx0 hx1 hq0 hq1 HP HX HQ
        go_wp2_with fail
        generalize (w5.alloc (Obj.cells #[Value.bool false, Value.slice none 0 0] 51)).alloc (Obj.cells #[Value.bool false, Value.slice none 0 0] 51) = Z at *
        refine (rsign_any (.agg #[.bool d2, .slice ae2 m2 e2]) y 21 _ HY.out).mono ?_
        rintro e w6 ⟨rfl, hb⟩
        rw [show sgnZ y = 0 by rw [HYZ.out]; rfl]
        replace hd0 := cell_below hd0 hb
        replace hd1 := cell_below hd1 hb
        replace hr0 := cell_below hr0 hb
        replace hr1 := cell_below hr1 hb
        replace HB := Lib.hid (bel_on HB.out hb)
        clear hb hy0 hy1 HY
        go_wp2_with fail
        refine (itext_any (.agg #[.bool false, .slice none 0 0]) 0 0 _ (IntB.zero _ _ _) (by decide) (HTT.out.below HB.out)).mono ?_
        rintro e w7 ⟨rfl, hb⟩
        rw [show intS 0 = ⟨#[48]⟩ from intS_zero]
        replace hr0 := cell_below hr0 hb
        replace hr1 := cell_below hr1 hb
        replace HB := Lib.hid (bel_on HB.out hb)
        clear hb
        go_wp2_with fail
        refine (itext_any (.agg #[.bool false, .slice none 0 0]) 0 0 _ (IntB.zero _ _ _) (by decide) (HTT.out.below HB.out)).mono ?_
        rintro e w8 ⟨rfl, hb⟩
        rw [show intS 0 = ⟨#[48]⟩ from intS_zero]
        replace HB := Lib.hid (bel_on HB.out hb)
        clear hb
        go_wp2_with fail
        go_ret
        exact ⟨rfl, HB.out⟩
      · obtain ⟨S, hS, hS0⟩ := sgnZ_not hy
        obtain ⟨D, hD⟩ : ∃ D, divQ x y = D := ⟨_, rfl⟩
        obtain ⟨R, hR⟩ : ∃ R, divR x y = R := ⟨_, rfl⟩
        go_wp2_with fail
        refine (idiv_of (.agg #[.bool b1, .slice ad1 l1 c1]) (.agg #[.bool b2, .slice ad2 l2 c2]) x y 21 21 _ HP.out HQ.out (by decide) (by decide) (divTells _ _ 21 21 (by decide) (by decide) (by omega)) hy).mono ?_
        rintro e w5 ⟨vd, vr, rfl, hn, hm, hb⟩
        rw [hD] at hn
        rw [hR] at hm
        obtain ⟨b5, ad5, l5, c5, rfl, _⟩ := hn.shape2
        obtain ⟨b6, ad6, l6, c6, rfl, _⟩ := hm.shape2
        replace hx0 := cell_below hx0 hb
        replace hx1 := cell_below hx1 hb
        replace hy0 := cell_below hy0 hb
        replace hy1 := cell_below hy1 hb
        replace HX := Lib.hid (HX.out.below hb)
        replace HY := Lib.hid (HY.out.below hb)
        replace HB := Lib.hid (bel_on HB.out hb)
        have hbA := bel_alloc2 w5 (Obj.cells #[Value.bool b5, Value.slice ad5 l5 c5] 51) (Obj.cells #[Value.bool b6, Value.slice ad6 l6 c6] 51)
        have hh := heldN2 (w := w5) (c0 := #[Value.bool b5, Value.slice ad5 l5 c5]) (t0 := 51) (c1 := #[Value.bool b6, Value.slice ad6 l6 c6]) (t1 := 51)
        obtain ⟨hd0, hd1⟩ := cell_pair hh.1
        obtain ⟨hr0, hr1⟩ := cell_pair hh.2.1
        replace hx0 := cell_below hx0 hbA
        replace hx1 := cell_below hx1 hbA
        replace hy0 := cell_below hy0 hbA
        replace hy1 := cell_below hy1 hbA
        replace HX := Lib.hid (HX.out.below hbA)
        replace HY := Lib.hid (HY.out.below hbA)
        replace HB := Lib.hid (bel_on HB.out hbA)
        have HD := Lib.hid (hn.below hbA)
        have HR := Lib.hid (hm.below hbA)
        clear hn hm hb hbA hh hp0 hp1 hq0 hq1 HP HQ
        go_wp2_with fail
        generalize (w5.alloc (Obj.cells #[Value.bool b5, Value.slice ad5 l5 c5] 51)).alloc (Obj.cells #[Value.bool b6, Value.slice ad6 l6 c6] 51) = Z at *
        refine (rsign_any (.agg #[.bool d2, .slice ae2 m2 e2]) y 21 _ HY.out).mono ?_
        rintro e w6 ⟨rfl, hb⟩
        rw [hS]
        replace hx0 := cell_below hx0 hb
        replace hx1 := cell_below hx1 hb
        replace hy0 := cell_below hy0 hb
        replace hy1 := cell_below hy1 hb
        replace hd0 := cell_below hd0 hb
        replace hd1 := cell_below hd1 hb
        replace hr0 := cell_below hr0 hb
        replace hr1 := cell_below hr1 hb
        replace HX := Lib.hid (HX.out.below hb)
        replace HY := Lib.hid (HY.out.below hb)
        replace HD := Lib.hid (HD.out.below hb)
        replace HR := Lib.hid (HR.out.below hb)
        replace HB := Lib.hid (bel_on HB.out hb)
        clear hb
        go_wp2_with fail
        refine (rdivInt_any (.agg #[.bool d1, .slice ae1 m1 e1]) (.agg #[.bool d2, .slice ae2 m2 e2]) x y 21 21 _ HX.out HY.out (by decide) (by decide) hy).mono ?_
        rintro e w7 ⟨vu, vv, rfl, hn, hm, hb⟩
        rw [hD] at hn
        rw [hR] at hm
        obtain ⟨b7, ad7, l7, c7, rfl, _⟩ := hn.shape2
        obtain ⟨b8, ad8, l8, c8, rfl, _⟩ := hm.shape2
        replace hd0 := cell_below hd0 hb
        replace hd1 := cell_below hd1 hb
        replace hr0 := cell_below hr0 hb
        replace hr1 := cell_below hr1 hb
        replace HD := Lib.hid (HD.out.below hb)
        replace HR := Lib.hid (HR.out.below hb)
        replace HB := Lib.hid (bel_on HB.out hb)
        have hbA := bel_alloc2 w7 (Obj.cells #[Value.bool b7, Value.slice ad7 l7 c7] 53) (Obj.cells #[Value.bool b8, Value.slice ad8 l8 c8] 53)
        have hh := heldN2 (w := w7) (c0 := #[Value.bool b7, Value.slice ad7 l7 c7]) (t0 := 53) (c1 := #[Value.bool b8, Value.slice ad8 l8 c8]) (t1 := 53)
        obtain ⟨hu0, hu1⟩ := cell_pair hh.1
        obtain ⟨hv0, hv1⟩ := cell_pair hh.2.1
        replace hd0 := cell_below hd0 hbA
        replace hd1 := cell_below hd1 hbA
        replace hr0 := cell_below hr0 hbA
        replace hr1 := cell_below hr1 hbA
        replace HD := Lib.hid (HD.out.below hbA)
        replace HR := Lib.hid (HR.out.below hbA)
        replace HB := Lib.hid (bel_on HB.out hbA)
        have HU := Lib.hid (hn.below hbA)
        have HV := Lib.hid (hm.below hbA)
        clear hn hm hb hbA hh hx0 hx1 hy0 hy1 HX HY hD hR hS
        go_wp2_with fail
        generalize (w7.alloc (Obj.cells #[Value.bool b7, Value.slice ad7 l7 c7] 53)).alloc (Obj.cells #[Value.bool b8, Value.slice ad8 l8 c8] 53) = Z2 at *
        replace HD := Lib.hid (HD.out.below (Below.refl _ Z2).drew)
        replace HR := Lib.hid (HR.out.below (Below.refl _ Z2).drew)
        replace HU := Lib.hid (HU.out.below (Below.refl _ Z2).drew)
        replace HV := Lib.hid (HV.out.below (Below.refl _ Z2).drew)
        refine wp_region_sched (fun w' => w'.cell? ⟨w5.heap.size, 0, none⟩ = some (.bool b5) ∧ w'.cell? ⟨w5.heap.size, 1, none⟩ = some (.slice ad5 l5 c5) ∧ w'.cell? ⟨w5.heap.size + 1, 0, none⟩ = some (.bool b6) ∧ w'.cell? ⟨w5.heap.size + 1, 1, none⟩ = some (.slice ad6 l6 c6) ∧ w'.cell? ⟨w7.heap.size, 0, none⟩ = some (.bool b7) ∧ w'.cell? ⟨w7.heap.size, 1, none⟩ = some (.slice ad7 l7 c7) ∧ w'.cell? ⟨w7.heap.size + 1, 0, none⟩ = some (.bool b8) ∧ w'.cell? ⟨w7.heap.size + 1, 1, none⟩ = some (.slice ad8 l8 c8) ∧ Below w.heap.size w w') [(0, true), (1, true), (2, true), (4, true), (3, false), (5, false), (6, true), (7, true), (8, true), (9, true), (11, true), (10, false), (12, false), (13, true), (14, true), (15, true)] (by kernel_rfl) (by kernel_rfl) ?_ (fun hHeld => ?_)
        · (try dsimp only)
          exact ⟨hd0, hd1, hr0, hr1, hu0, hu1, hv0, hv1, HB.out.drew⟩
        try dsimp only at hHeld
        repeat (refine wpSched_at (by simp only [List.getElem?_toArray, List.getElem?_cons_zero, List.getElem?_cons_succ]; rfl) ?_; (first | (apply wpAt_take rfl; (intro wx hSx; (try dsimp only at hSx); go_simp; (try with_reducible rfl)); simp only [Act.put, List.setIfInBounds_toArray, List.set_cons_zero, List.set_cons_succ]) | (refine wpAt_skip rfl ?_; simp only [Act.put, List.setIfInBounds_toArray, List.set_cons_zero, List.set_cons_succ]) | (refine wpAt_pass rfl hHeld ?_; simp only [Act.put, List.setIfInBounds_toArray, List.set_cons_zero, List.set_cons_succ]) | (refine wpAt_eff rfl (fun K hK => ?_); (skip); go_simp; (first | (go_at_call 36; (with_reducible refine (itext_any (.agg #[.bool b5, .slice ad5 l5 c5]) D 24 _ ?_ (by decide) ?_).mono ?_); (exact HD.out); (exact HTT.out.below hHeld.2.2.2.2.2.2.2.2); rintro e w' ⟨rfl, hb⟩; (try replace HD := Lib.hid (HD.out.below hb)); (try replace HR := Lib.hid (HR.out.below hb)); (try replace HU := Lib.hid (HU.out.below hb)); (try replace HV := Lib.hid (HV.out.below hb)); have hS := And.intro trivial (And.intro (cell_below hHeld.1 hb) (And.intro (cell_below hHeld.2.1 hb) (And.intro (cell_below hHeld.2.2.1 hb) (And.intro (cell_below hHeld.2.2.2.1 hb) (And.intro (cell_below hHeld.2.2.2.2.1 hb) (And.intro (cell_below hHeld.2.2.2.2.2.1 hb) (And.intro (cell_below hHeld.2.2.2.2.2.2.1 hb) (And.intro (cell_below hHeld.2.2.2.2.2.2.2.1 hb) (bel_on hHeld.2.2.2.2.2.2.2.2 hb))))))))); clear hb hHeld) | (go_at_call 38; (with_reducible refine (ritext_any (.agg #[.bool b7, .slice ad7 l7 c7]) D 23 _ ?_ (by decide)).mono ?_); (exact HU.out); rintro e w' ⟨rfl, hb⟩; (try replace HD := Lib.hid (HD.out.below hb)); (try replace HR := Lib.hid (HR.out.below hb)); (try replace HU := Lib.hid (HU.out.below hb)); (try replace HV := Lib.hid (HV.out.below hb)); have hS := And.intro trivial (And.intro (cell_below hHeld.1 hb) (And.intro (cell_below hHeld.2.1 hb) (And.intro (cell_below hHeld.2.2.1 hb) (And.intro (cell_below hHeld.2.2.2.1 hb) (And.intro (cell_below hHeld.2.2.2.2.1 hb) (And.intro (cell_below hHeld.2.2.2.2.2.1 hb) (And.intro (cell_below hHeld.2.2.2.2.2.2.1 hb) (And.intro (cell_below hHeld.2.2.2.2.2.2.2.1 hb) (bel_on hHeld.2.2.2.2.2.2.2.2 hb))))))))); clear hb hHeld) | (go_at_call 36; (with_reducible refine (itext_any (.agg #[.bool b6, .slice ad6 l6 c6]) R 21 _ ?_ (by decide) ?_).mono ?_); (exact HR.out); (exact HTT.out.below hHeld.2.2.2.2.2.2.2.2); rintro e w' ⟨rfl, hb⟩; (try replace HD := Lib.hid (HD.out.below hb)); (try replace HR := Lib.hid (HR.out.below hb)); (try replace HU := Lib.hid (HU.out.below hb)); (try replace HV := Lib.hid (HV.out.below hb)); have hS := And.intro trivial (And.intro (cell_below hHeld.1 hb) (And.intro (cell_below hHeld.2.1 hb) (And.intro (cell_below hHeld.2.2.1 hb) (And.intro (cell_below hHeld.2.2.2.1 hb) (And.intro (cell_below hHeld.2.2.2.2.1 hb) (And.intro (cell_below hHeld.2.2.2.2.2.1 hb) (And.intro (cell_below hHeld.2.2.2.2.2.2.1 hb) (And.intro (cell_below hHeld.2.2.2.2.2.2.2.1 hb) (bel_on hHeld.2.2.2.2.2.2.2.2 hb))))))))); clear hb hHeld) | (go_at_call 38; (with_reducible refine (ritext_any (.agg #[.bool b8, .slice ad8 l8 c8]) R 21 _ ?_ (by decide)).mono ?_); (exact HV.out); rintro e w' ⟨rfl, hb⟩; (try replace HD := Lib.hid (HD.out.below hb)); (try replace HR := Lib.hid (HR.out.below hb)); (try replace HU := Lib.hid (HU.out.below hb)); (try replace HV := Lib.hid (HV.out.below hb)); have hS := And.intro trivial (And.intro (cell_below hHeld.1 hb) (And.intro (cell_below hHeld.2.1 hb) (And.intro (cell_below hHeld.2.2.1 hb) (And.intro (cell_below hHeld.2.2.2.1 hb) (And.intro (cell_below hHeld.2.2.2.2.1 hb) (And.intro (cell_below hHeld.2.2.2.2.2.1 hb) (And.intro (cell_below hHeld.2.2.2.2.2.2.1 hb) (And.intro (cell_below hHeld.2.2.2.2.2.2.2.1 hb) (bel_on hHeld.2.2.2.2.2.2.2.2 hb))))))))); clear hb hHeld)); (refine hK.out _ _ ?_ (fun hHeld => ?_)); ((try dsimp only); ((try simp only [cell_drew, slot_drew, below_drew]); refine ⟨?_, ?_, ?_, ?_, ?_, ?_, ?_, ?_, ?_⟩; (first | exact hS.2.1 | with_reducible exact cell_set hHeld.1 (by omega) | with_reducible exact cell_set (cell_set hHeld.1 (by omega)) (by omega)); (first | exact hS.2.2.1 | with_reducible exact cell_set hHeld.2.1 (by omega) | with_reducible exact cell_set (cell_set hHeld.2.1 (by omega)) (by omega)); (first | exact hS.2.2.2.1 | with_reducible exact cell_set hHeld.2.2.1 (by omega) | with_reducible exact cell_set (cell_set hHeld.2.2.1 (by omega)) (by omega)); (first | exact hS.2.2.2.2.1 | with_reducible exact cell_set hHeld.2.2.2.1 (by omega) | with_reducible exact cell_set (cell_set hHeld.2.2.2.1 (by omega)) (by omega)); (first | exact hS.2.2.2.2.2.1 | with_reducible exact cell_set hHeld.2.2.2.2.1 (by omega) | with_reducible exact cell_set (cell_set hHeld.2.2.2.2.1 (by omega)) (by omega)); (first | exact hS.2.2.2.2.2.2.1 | with_reducible exact cell_set hHeld.2.2.2.2.2.1 (by omega) | with_reducible exact cell_set (cell_set hHeld.2.2.2.2.2.1 (by omega)) (by omega)); (first | exact hS.2.2.2.2.2.2.2.1 | with_reducible exact cell_set hHeld.2.2.2.2.2.2.1 (by omega) | with_reducible exact cell_set (cell_set hHeld.2.2.2.2.2.2.1 (by omega)) (by omega)); (first | exact hS.2.2.2.2.2.2.2.2.1 | with_reducible exact cell_set hHeld.2.2.2.2.2.2.2.1 (by omega) | with_reducible exact cell_set (cell_set hHeld.2.2.2.2.2.2.2.1 (by omega)) (by omega)); (first | exact hS.2.2.2.2.2.2.2.2.2 | with_reducible exact bel_set1 hHeld.2.2.2.2.2.2.2.2 (by omega) | with_reducible exact bel_set2 hHeld.2.2.2.2.2.2.2.2 (by omega) (by omega)))); clear hK K; (try clear hS); (try clear hfx0 hx0 x0); (try clear hfy0 hy0 y0); (try clear hfx1 hx1 x1); (try clear hfy1 hy1 y1); (try dsimp only at hHeld))))
        refine wpSched_nil ?_
        have HE := Lib.hid hHeld.2.2.2.2.2.2.2.2
        clear hHeld
        go_wp2_with fail
        go_ret
        exact ⟨rfl, HE.out⟩

end Go.Proofs.YtpchnejdbmoicaaDoor
