/- The law NatAdds. -/
import Derived.Test.YtfhilapjpabeeaaDoorT6
import Derived.Test.YtfhilapjpabeeaaDoorW8
import Derived.Test.YtfhilapjpabeeaaDoorWU
namespace Go.Proofs.YtfhilapjpabeeaaDoor
open Go.RowKit Cin

set_option maxRecDepth 100000 in
set_option maxHeartbeats 8000000 in
/-- The law holds of every two texts. -/
theorem natAdds_any (a b : ByteArray) (w : World) (hT : Tabs w) :
    Calls Tryd.prog 5 #[.string a, .string b] w fun e w' => e = .returned (.bool true) ∧ Below w.heap.size w w' := by
  have HTT := Lib.hid hT
  clear hT
  go_enter Tryd.func5, Tryd.ntmps5
  go_wp2_with fail
  refine (alive_any _ HTT.out).mono ?_
  rintro e w1 ⟨rfl, hb1⟩
  have HB1 := Lib.hid hb1
  clear hb1
  go_wp2_with fail
  refine (pair_any a b _).mono ?_
  rintro e w2 (⟨hok, p, q, xv, yv, rfl, hp, hq, hx, hy, hb2⟩ | ⟨hno, rfl, hb2⟩)
  · obtain ⟨adp, lp, cp, xsp, rfl, rp⟩ := hp.shape
    obtain ⟨adq, lq, cq, xsq, rfl, rq⟩ := hq.shape
    obtain ⟨adx, lx, cx, xsx, rfl, rx⟩ := hx.shape
    obtain ⟨ady, ly, cy, xsy, rfl, ry⟩ := hy.shape
    have hbX := bel_alloc2 w2 (Obj.cells #[Value.slice adp lp cp] 25) (Obj.cells #[Value.slice adq lq cq] 25)
    have hxl := decL_lt_pw hok.1.2.2.2 (by rw [byts_length]; exact hok.2.2.1)
    have hyl := decL_lt_pw hok.2.1.2.2.2 (by rw [byts_length]; exact hok.2.2.2)
    have HP := Lib.hid (NatB.below (⟨⟨_, rfl, hp⟩, hxl⟩ : NatB 80 w2 (.agg #[.slice adp lp cp]) (decL (byts a)) 21) hbX)
    have HQ := Lib.hid (NatB.below (⟨⟨_, rfl, hq⟩, hyl⟩ : NatB 80 w2 (.agg #[.slice adq lq cq]) (decL (byts b)) 21) hbX)
    have HX := Lib.hid (RefB.below (⟨hx, hxl⟩ : RefB w2 (.slice adx lx cx) (decL (byts a)) 21) hbX)
    have HY := Lib.hid (RefB.below (⟨hy, hyl⟩ : RefB w2 (.slice ady ly cy) (decL (byts b)) 21) hbX)
    have HB := Lib.hid (bel_on (bel_on HB1.out hb2) hbX)
    have hh := heldN2 (w := w2) (c0 := #[Value.slice adp lp cp]) (t0 := 25) (c1 := #[Value.slice adq lq cq]) (t1 := 25)
    have hc0 := cell0 hh.1
    have hc1 := cell0 hh.2.1
    clear hok hp hq hx hy hb2 rp rq rx ry hh hbX hxl hyl HB1
    go_wp2_with fail
    generalize (w2.alloc (Obj.cells #[Value.slice adp lp cp] 25)).alloc (Obj.cells #[Value.slice adq lq cq] 25) = X at *
    generalize decL (byts a) = x at *
    generalize decL (byts b) = y at *
    by_cases hle : y ≤ x
    · obtain ⟨C, hC, hC0⟩ : ∃ C : Int, cmpI x y = C ∧ decide (0 ≤ C) = true := by
        refine ⟨_, rfl, ?_⟩
        unfold cmpI
        rw [if_neg (by omega)]
        split <;> rfl
      refine (subB (.agg #[.slice adp lp cp]) (.agg #[.slice adq lq cq]) x y 21 21 _ HP.out HQ.out (by decide) (by decide) hle).mono ?_
      rintro e w4 ⟨vd, rfl, hn, hb⟩
      replace hc0 := cell_below hc0 hb
      replace hc1 := cell_below hc1 hb
      replace HP := Lib.hid (HP.out.below hb)
      replace HQ := Lib.hid (HQ.out.below hb)
      replace HX := Lib.hid (HX.out.below hb)
      replace HY := Lib.hid (HY.out.below hb)
      have ND := Lib.hid hn
      replace HB := Lib.hid (bel_on HB.out hb)
      clear hb hn
      obtain ⟨add, ld, cd, rfl⟩ := ND.out.shape2
      have hb := bel_alloc w4 (Obj.cells #[Value.slice add ld cd] 25)
      have hcd := cell0 (heldN1 (w := w4) (c0 := #[Value.slice add ld cd]) (t0 := 25)).1
      replace hc0 := cell_below hc0 hb
      replace hc1 := cell_below hc1 hb
      replace HP := Lib.hid (HP.out.below hb)
      replace HQ := Lib.hid (HQ.out.below hb)
      replace HX := Lib.hid (HX.out.below hb)
      replace HY := Lib.hid (HY.out.below hb)
      replace ND := Lib.hid (ND.out.below hb)
      replace HB := Lib.hid (bel_on HB.out hb)
      clear hb
      go_wp2_with fail
      generalize w4.alloc (Obj.cells #[Value.slice add ld cd] 25) = Z at *
      refine (rcmpB (.slice adx lx cx) (.slice ady ly cy) x y 21 21 _ HX.out HY.out (by decide) (by decide)).mono ?_
      rintro e w5 ⟨rfl, hb⟩
      replace hc0 := cell_below hc0 hb
      replace hc1 := cell_below hc1 hb
      replace hcd := cell_below hcd hb
      replace HP := Lib.hid (HP.out.below hb)
      replace HQ := Lib.hid (HQ.out.below hb)
      replace HX := Lib.hid (HX.out.below hb)
      replace HY := Lib.hid (HY.out.below hb)
      replace ND := Lib.hid (ND.out.below hb)
      replace HB := Lib.hid (bel_on HB.out hb)
      clear hb
      rw [hC]
      go_wp2_with fail
      refine (cmpB (.agg #[.slice adp lp cp]) (.agg #[.slice adq lq cq]) x y 21 21 _ HP.out HQ.out (by decide) (by decide)).mono ?_
      rintro e w6 ⟨rfl, hb⟩
      replace hc0 := cell_below hc0 hb
      replace hc1 := cell_below hc1 hb
      replace hcd := cell_below hcd hb
      replace HP := Lib.hid (HP.out.below hb)
      replace HQ := Lib.hid (HQ.out.below hb)
      replace HX := Lib.hid (HX.out.below hb)
      replace HY := Lib.hid (HY.out.below hb)
      replace ND := Lib.hid (ND.out.below hb)
      replace HB := Lib.hid (bel_on HB.out hb)
      clear hb
      rw [hC]
      go_wp2_with fail
      refine (rcmpB (.slice adx lx cx) (.slice ady ly cy) x y 21 21 _ HX.out HY.out (by decide) (by decide)).mono ?_
      rintro e w7 ⟨rfl, hb⟩
      replace hc0 := cell_below hc0 hb
      replace hc1 := cell_below hc1 hb
      replace hcd := cell_below hcd hb
      replace HP := Lib.hid (HP.out.below hb)
      replace HQ := Lib.hid (HQ.out.below hb)
      replace HX := Lib.hid (HX.out.below hb)
      replace HY := Lib.hid (HY.out.below hb)
      replace ND := Lib.hid (ND.out.below hb)
      replace HB := Lib.hid (bel_on HB.out hb)
      clear hb
      rw [hC]
      go_wp2_with fail
      refine (text_any (.agg #[.slice add ld cd]) (x - y) 21 _ ND.out (by decide) (HTT.out.below HB.out)).mono ?_
      rintro e w8 ⟨rfl, hb⟩
      replace hc0 := cell_below hc0 hb
      replace hc1 := cell_below hc1 hb
      replace hcd := cell_below hcd hb
      replace HP := Lib.hid (HP.out.below hb)
      replace HQ := Lib.hid (HQ.out.below hb)
      replace HX := Lib.hid (HX.out.below hb)
      replace HY := Lib.hid (HY.out.below hb)
      replace ND := Lib.hid (ND.out.below hb)
      replace HB := Lib.hid (bel_on HB.out hb)
      clear hb
      go_wp2_with fail
      refine (rsubB (.slice adx lx cx) (.slice ady ly cy) x y 21 21 _ HX.out HY.out (by decide) (by decide) hle).mono ?_
      rintro e w9 ⟨vs, rfl, hn, hb⟩
      replace hc0 := cell_below hc0 hb
      replace hc1 := cell_below hc1 hb
      replace hcd := cell_below hcd hb
      replace HP := Lib.hid (HP.out.below hb)
      replace HQ := Lib.hid (HQ.out.below hb)
      replace HX := Lib.hid (HX.out.below hb)
      replace HY := Lib.hid (HY.out.below hb)
      replace ND := Lib.hid (ND.out.below hb)
      have NS := Lib.hid hn
      replace HB := Lib.hid (bel_on HB.out hb)
      clear hb hn
      go_wp2_with fail
      refine (rtextB vs (x - y) 21 _ NS.out (by decide)).mono ?_
      rintro e w10 ⟨rfl, hb⟩
      replace hc0 := cell_below hc0 hb
      replace hc1 := cell_below hc1 hb
      replace hcd := cell_below hcd hb
      replace HP := Lib.hid (HP.out.below hb)
      replace HQ := Lib.hid (HQ.out.below hb)
      replace HX := Lib.hid (HX.out.below hb)
      replace HY := Lib.hid (HY.out.below hb)
      replace ND := Lib.hid (ND.out.below hb)
      replace NS := Lib.hid (NS.out.below hb)
      replace HB := Lib.hid (bel_on HB.out hb)
      clear hb
      clear ND NS
      clear hcd hC
      go_wp2_with fail
      refine (addB (.agg #[.slice adp lp cp]) (.agg #[.slice adq lq cq]) x y 21 21 _ HP.out HQ.out (by decide) (by decide)).mono ?_
      rintro e w11 ⟨va, rfl, hn, hb⟩
      replace hc0 := cell_below hc0 hb
      replace hc1 := cell_below hc1 hb
      replace HP := Lib.hid (HP.out.below hb)
      replace HQ := Lib.hid (HQ.out.below hb)
      replace HX := Lib.hid (HX.out.below hb)
      replace HY := Lib.hid (HY.out.below hb)
      have NA := Lib.hid hn
      replace HB := Lib.hid (bel_on HB.out hb)
      clear hb hn
      go_wp2_with fail
      refine (text_any va (x + y) (21 + 21 + 1) _ NA.out (by decide) (HTT.out.below HB.out)).mono ?_
      rintro e w12 ⟨rfl, hb⟩
      replace hc0 := cell_below hc0 hb
      replace hc1 := cell_below hc1 hb
      replace HP := Lib.hid (HP.out.below hb)
      replace HQ := Lib.hid (HQ.out.below hb)
      replace HX := Lib.hid (HX.out.below hb)
      replace HY := Lib.hid (HY.out.below hb)
      replace NA := Lib.hid (NA.out.below hb)
      replace HB := Lib.hid (bel_on HB.out hb)
      clear hb
      go_wp2_with fail
      refine (raddB (.slice adx lx cx) (.slice ady ly cy) x y 21 21 _ HX.out HY.out (by decide) (by decide)).mono ?_
      rintro e w13 ⟨vb, rfl, hn, hb⟩
      replace hc0 := cell_below hc0 hb
      replace hc1 := cell_below hc1 hb
      replace HP := Lib.hid (HP.out.below hb)
      replace HQ := Lib.hid (HQ.out.below hb)
      replace HX := Lib.hid (HX.out.below hb)
      replace HY := Lib.hid (HY.out.below hb)
      replace NA := Lib.hid (NA.out.below hb)
      have NB := Lib.hid hn
      replace HB := Lib.hid (bel_on HB.out hb)
      clear hb hn
      go_wp2_with fail
      refine (rtextB vb (x + y) (21 + 21 + 1) _ NB.out (by decide)).mono ?_
      rintro e w14 ⟨rfl, hb⟩
      replace hc0 := cell_below hc0 hb
      replace hc1 := cell_below hc1 hb
      replace HP := Lib.hid (HP.out.below hb)
      replace HQ := Lib.hid (HQ.out.below hb)
      replace HX := Lib.hid (HX.out.below hb)
      replace HY := Lib.hid (HY.out.below hb)
      replace NA := Lib.hid (NA.out.below hb)
      replace NB := Lib.hid (NB.out.below hb)
      replace HB := Lib.hid (bel_on HB.out hb)
      clear hb
      clear NA NB
      go_wp2_with fail
      refine (mulB (.agg #[.slice adp lp cp]) (.agg #[.slice adq lq cq]) x y 21 21 _ HP.out HQ.out (by decide) (by decide)).mono ?_
      rintro e w15 ⟨vm, rfl, hn, hb⟩
      replace hc0 := cell_below hc0 hb
      replace hc1 := cell_below hc1 hb
      replace HP := Lib.hid (HP.out.below hb)
      replace HQ := Lib.hid (HQ.out.below hb)
      replace HX := Lib.hid (HX.out.below hb)
      replace HY := Lib.hid (HY.out.below hb)
      have NM := Lib.hid hn
      replace HB := Lib.hid (bel_on HB.out hb)
      clear hb hn
      go_wp2_with fail
      refine (text_any vm (x * y) (21 + 21) _ NM.out (by decide) (HTT.out.below HB.out)).mono ?_
      rintro e w16 ⟨rfl, hb⟩
      replace hc0 := cell_below hc0 hb
      replace hc1 := cell_below hc1 hb
      replace HP := Lib.hid (HP.out.below hb)
      replace HQ := Lib.hid (HQ.out.below hb)
      replace HX := Lib.hid (HX.out.below hb)
      replace HY := Lib.hid (HY.out.below hb)
      replace NM := Lib.hid (NM.out.below hb)
      replace HB := Lib.hid (bel_on HB.out hb)
      clear hb
      go_wp2_with fail
      refine (rmulB (.slice adx lx cx) (.slice ady ly cy) x y 21 21 _ HX.out HY.out (by decide) (by decide)).mono ?_
      rintro e w17 ⟨vn, rfl, hn, hb⟩
      replace hc0 := cell_below hc0 hb
      replace hc1 := cell_below hc1 hb
      replace HP := Lib.hid (HP.out.below hb)
      replace HQ := Lib.hid (HQ.out.below hb)
      replace HX := Lib.hid (HX.out.below hb)
      replace HY := Lib.hid (HY.out.below hb)
      replace NM := Lib.hid (NM.out.below hb)
      have NN := Lib.hid hn
      replace HB := Lib.hid (bel_on HB.out hb)
      clear hb hn
      go_wp2_with fail
      refine (rtextB vn (x * y) (21 + 21) _ NN.out (by decide)).mono ?_
      rintro e w18 ⟨rfl, hb⟩
      replace hc0 := cell_below hc0 hb
      replace hc1 := cell_below hc1 hb
      replace HP := Lib.hid (HP.out.below hb)
      replace HQ := Lib.hid (HQ.out.below hb)
      replace HX := Lib.hid (HX.out.below hb)
      replace HY := Lib.hid (HY.out.below hb)
      replace NM := Lib.hid (NM.out.below hb)
      replace NN := Lib.hid (NN.out.below hb)
      replace HB := Lib.hid (bel_on HB.out hb)
      clear hb
      go_wp2_with fail
      go_ret
      exact ⟨rfl, HB.out⟩
    · have hlt : x < y := by omega
      have hC : cmpI x y = -1 := by unfold cmpI; rw [if_pos hlt]
      clear hle
      refine (subLessB (.agg #[.slice adp lp cp]) (.agg #[.slice adq lq cq]) x y 21 21 _ HP.out HQ.out (by decide) (by decide) hlt).mono ?_
      rintro e w4 ⟨rfl, hb⟩
      replace hc0 := cell_below hc0 hb
      replace hc1 := cell_below hc1 hb
      replace HP := Lib.hid (HP.out.below hb)
      replace HQ := Lib.hid (HQ.out.below hb)
      replace HX := Lib.hid (HX.out.below hb)
      replace HY := Lib.hid (HY.out.below hb)
      replace HB := Lib.hid (bel_on HB.out hb)
      clear hb
      have hb := bel_alloc w4 (Obj.cells #[Value.slice none 0 0] 25)
      have hcd := cell0 (heldN1 (w := w4) (c0 := #[Value.slice none 0 0]) (t0 := 25)).1
      replace hc0 := cell_below hc0 hb
      replace hc1 := cell_below hc1 hb
      replace HP := Lib.hid (HP.out.below hb)
      replace HQ := Lib.hid (HQ.out.below hb)
      replace HX := Lib.hid (HX.out.below hb)
      replace HY := Lib.hid (HY.out.below hb)
      replace HB := Lib.hid (bel_on HB.out hb)
      clear hb
      go_wp2_with fail
      generalize w4.alloc (Obj.cells #[Value.slice none 0 0] 25) = Z at *
      refine (rcmpB (.slice adx lx cx) (.slice ady ly cy) x y 21 21 _ HX.out HY.out (by decide) (by decide)).mono ?_
      rintro e w5 ⟨rfl, hb⟩
      replace hc0 := cell_below hc0 hb
      replace hc1 := cell_below hc1 hb
      replace hcd := cell_below hcd hb
      replace HP := Lib.hid (HP.out.below hb)
      replace HQ := Lib.hid (HQ.out.below hb)
      replace HX := Lib.hid (HX.out.below hb)
      replace HY := Lib.hid (HY.out.below hb)
      replace HB := Lib.hid (bel_on HB.out hb)
      clear hb
      rw [hC]
      go_wp2_with fail
      refine (cmpB (.agg #[.slice adp lp cp]) (.agg #[.slice adq lq cq]) x y 21 21 _ HP.out HQ.out (by decide) (by decide)).mono ?_
      rintro e w6 ⟨rfl, hb⟩
      replace hc0 := cell_below hc0 hb
      replace hc1 := cell_below hc1 hb
      replace hcd := cell_below hcd hb
      replace HP := Lib.hid (HP.out.below hb)
      replace HQ := Lib.hid (HQ.out.below hb)
      replace HX := Lib.hid (HX.out.below hb)
      replace HY := Lib.hid (HY.out.below hb)
      replace HB := Lib.hid (bel_on HB.out hb)
      clear hb
      rw [hC]
      go_wp2_with fail
      refine (rcmpB (.slice adx lx cx) (.slice ady ly cy) x y 21 21 _ HX.out HY.out (by decide) (by decide)).mono ?_
      rintro e w7 ⟨rfl, hb⟩
      replace hc0 := cell_below hc0 hb
      replace hc1 := cell_below hc1 hb
      replace hcd := cell_below hcd hb
      replace HP := Lib.hid (HP.out.below hb)
      replace HQ := Lib.hid (HQ.out.below hb)
      replace HX := Lib.hid (HX.out.below hb)
      replace HY := Lib.hid (HY.out.below hb)
      replace HB := Lib.hid (bel_on HB.out hb)
      clear hb
      rw [hC]
      go_wp2_with fail
      refine (text_any (.agg #[.slice none 0 0]) 0 0 _ ⟨NatV.zero _ _, by decide⟩ (by decide) (HTT.out.below HB.out)).mono ?_
      rintro e w8 ⟨rfl, hb⟩
      replace hc0 := cell_below hc0 hb
      replace hc1 := cell_below hc1 hb
      replace hcd := cell_below hcd hb
      replace HP := Lib.hid (HP.out.below hb)
      replace HQ := Lib.hid (HQ.out.below hb)
      replace HX := Lib.hid (HX.out.below hb)
      replace HY := Lib.hid (HY.out.below hb)
      replace HB := Lib.hid (bel_on HB.out hb)
      clear hb
      rw [decS_zero]
      clear hcd hC
      go_wp2_with fail
      refine (addB (.agg #[.slice adp lp cp]) (.agg #[.slice adq lq cq]) x y 21 21 _ HP.out HQ.out (by decide) (by decide)).mono ?_
      rintro e w9 ⟨va, rfl, hn, hb⟩
      replace hc0 := cell_below hc0 hb
      replace hc1 := cell_below hc1 hb
      replace HP := Lib.hid (HP.out.below hb)
      replace HQ := Lib.hid (HQ.out.below hb)
      replace HX := Lib.hid (HX.out.below hb)
      replace HY := Lib.hid (HY.out.below hb)
      have NA := Lib.hid hn
      replace HB := Lib.hid (bel_on HB.out hb)
      clear hb hn
      go_wp2_with fail
      refine (text_any va (x + y) (21 + 21 + 1) _ NA.out (by decide) (HTT.out.below HB.out)).mono ?_
      rintro e w10 ⟨rfl, hb⟩
      replace hc0 := cell_below hc0 hb
      replace hc1 := cell_below hc1 hb
      replace HP := Lib.hid (HP.out.below hb)
      replace HQ := Lib.hid (HQ.out.below hb)
      replace HX := Lib.hid (HX.out.below hb)
      replace HY := Lib.hid (HY.out.below hb)
      replace NA := Lib.hid (NA.out.below hb)
      replace HB := Lib.hid (bel_on HB.out hb)
      clear hb
      go_wp2_with fail
      refine (raddB (.slice adx lx cx) (.slice ady ly cy) x y 21 21 _ HX.out HY.out (by decide) (by decide)).mono ?_
      rintro e w11 ⟨vb, rfl, hn, hb⟩
      replace hc0 := cell_below hc0 hb
      replace hc1 := cell_below hc1 hb
      replace HP := Lib.hid (HP.out.below hb)
      replace HQ := Lib.hid (HQ.out.below hb)
      replace HX := Lib.hid (HX.out.below hb)
      replace HY := Lib.hid (HY.out.below hb)
      replace NA := Lib.hid (NA.out.below hb)
      have NB := Lib.hid hn
      replace HB := Lib.hid (bel_on HB.out hb)
      clear hb hn
      go_wp2_with fail
      refine (rtextB vb (x + y) (21 + 21 + 1) _ NB.out (by decide)).mono ?_
      rintro e w12 ⟨rfl, hb⟩
      replace hc0 := cell_below hc0 hb
      replace hc1 := cell_below hc1 hb
      replace HP := Lib.hid (HP.out.below hb)
      replace HQ := Lib.hid (HQ.out.below hb)
      replace HX := Lib.hid (HX.out.below hb)
      replace HY := Lib.hid (HY.out.below hb)
      replace NA := Lib.hid (NA.out.below hb)
      replace NB := Lib.hid (NB.out.below hb)
      replace HB := Lib.hid (bel_on HB.out hb)
      clear hb
      clear NA NB
      go_wp2_with fail
      refine (mulB (.agg #[.slice adp lp cp]) (.agg #[.slice adq lq cq]) x y 21 21 _ HP.out HQ.out (by decide) (by decide)).mono ?_
      rintro e w13 ⟨vm, rfl, hn, hb⟩
      replace hc0 := cell_below hc0 hb
      replace hc1 := cell_below hc1 hb
      replace HP := Lib.hid (HP.out.below hb)
      replace HQ := Lib.hid (HQ.out.below hb)
      replace HX := Lib.hid (HX.out.below hb)
      replace HY := Lib.hid (HY.out.below hb)
      have NM := Lib.hid hn
      replace HB := Lib.hid (bel_on HB.out hb)
      clear hb hn
      go_wp2_with fail
      refine (text_any vm (x * y) (21 + 21) _ NM.out (by decide) (HTT.out.below HB.out)).mono ?_
      rintro e w14 ⟨rfl, hb⟩
      replace hc0 := cell_below hc0 hb
      replace hc1 := cell_below hc1 hb
      replace HP := Lib.hid (HP.out.below hb)
      replace HQ := Lib.hid (HQ.out.below hb)
      replace HX := Lib.hid (HX.out.below hb)
      replace HY := Lib.hid (HY.out.below hb)
      replace NM := Lib.hid (NM.out.below hb)
      replace HB := Lib.hid (bel_on HB.out hb)
      clear hb
      go_wp2_with fail
      refine (rmulB (.slice adx lx cx) (.slice ady ly cy) x y 21 21 _ HX.out HY.out (by decide) (by decide)).mono ?_
      rintro e w15 ⟨vn, rfl, hn, hb⟩
      replace hc0 := cell_below hc0 hb
      replace hc1 := cell_below hc1 hb
      replace HP := Lib.hid (HP.out.below hb)
      replace HQ := Lib.hid (HQ.out.below hb)
      replace HX := Lib.hid (HX.out.below hb)
      replace HY := Lib.hid (HY.out.below hb)
      replace NM := Lib.hid (NM.out.below hb)
      have NN := Lib.hid hn
      replace HB := Lib.hid (bel_on HB.out hb)
      clear hb hn
      go_wp2_with fail
      refine (rtextB vn (x * y) (21 + 21) _ NN.out (by decide)).mono ?_
      rintro e w16 ⟨rfl, hb⟩
      replace hc0 := cell_below hc0 hb
      replace hc1 := cell_below hc1 hb
      replace HP := Lib.hid (HP.out.below hb)
      replace HQ := Lib.hid (HQ.out.below hb)
      replace HX := Lib.hid (HX.out.below hb)
      replace HY := Lib.hid (HY.out.below hb)
      replace NM := Lib.hid (NM.out.below hb)
      replace NN := Lib.hid (NN.out.below hb)
      replace HB := Lib.hid (bel_on HB.out hb)
      clear hb
      go_wp2_with fail
      go_ret
      exact ⟨rfl, HB.out⟩
  · have HB2 := Lib.hid (bel_on HB1.out hb2)
    clear hno hb2 HB1
    go_wp2_with fail
    go_ret
    exact ⟨rfl, bel_on HB2.out (bel_alloc2 _ _ _)⟩

end Go.Proofs.YtfhilapjpabeeaaDoor
