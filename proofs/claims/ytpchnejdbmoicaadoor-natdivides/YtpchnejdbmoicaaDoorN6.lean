/- The law NatDivides. -/
import Derived.Test.YtpchnejdbmoicaaDoorYk
import Derived.Test.YtpchnejdbmoicaaDoorYc
import Derived.Test.YtpchnejdbmoicaaDoorYe
import Derived.Test.YtpchnejdbmoicaaDoorYp
import Derived.Test.YtpchnejdbmoicaaDoorYr
namespace Go.Proofs.YtpchnejdbmoicaaDoor
open Go.RowKit Cin

set_option maxRecDepth 100000 in
set_option maxHeartbeats 8000000 in
/-- The law holds of every two texts. -/
theorem natDivides_any (a b : ByteArray) (w : World) (hT : Tabs w) :
    Calls Tryd.prog 5 #[.string a, .string b] w fun e w' => e = .returned (.bool true) ∧ Below w.heap.size w w' := by
  have HTT := Lib.hid hT
  clear hT
  go_enter Tryd.func5, Tryd.ntmps5
  go_wp2_with fail
  refine (alive_any _ HTT.out).mono ?_
  rintro e w1 ⟨rfl, hb1⟩
  have HB1 := Lib.hid hb1
  clear hb1
  go_wp2_with fail
  refine (pair_any a b _).mono ?_
  rintro e w2 (⟨hok, p, q, xv, yv, rfl, hp, hq, hx, hy, hb2⟩ | ⟨hno, rfl, hb2⟩)
  · obtain ⟨adp, lp, cp, xsp, rfl, rp⟩ := hp.shape
    obtain ⟨adq, lq, cq, xsq, rfl, rq⟩ := hq.shape
    obtain ⟨adx, lx, cx, xsx, rfl, rx⟩ := hx.shape
    obtain ⟨ady, ly, cy, xsy, rfl, ry⟩ := hy.shape
    have hbX := bel_alloc2 w2 (Obj.cells #[Value.slice adp lp cp] 25) (Obj.cells #[Value.slice adq lq cq] 25)
    have hxl := decL_lt_pw hok.1.2.2.2 (by rw [byts_length]; exact hok.2.2.1)
    have hyl := decL_lt_pw hok.2.1.2.2.2 (by rw [byts_length]; exact hok.2.2.2)
    have HP := Lib.hid (NatB.below (⟨⟨_, rfl, hp⟩, hxl⟩ : NatB 68 w2 (.agg #[.slice adp lp cp]) (decL (byts a)) 21) hbX)
    have HQ := Lib.hid (NatB.below (⟨⟨_, rfl, hq⟩, hyl⟩ : NatB 68 w2 (.agg #[.slice adq lq cq]) (decL (byts b)) 21) hbX)
    have HX := Lib.hid (RefB.below (⟨hx, hxl⟩ : RefB w2 (.slice adx lx cx) (decL (byts a)) 21) hbX)
    have HY := Lib.hid (RefB.below (⟨hy, hyl⟩ : RefB w2 (.slice ady ly cy) (decL (byts b)) 21) hbX)
    have HB := Lib.hid (bel_on (bel_on HB1.out hb2) hbX)
    have hh := heldN2 (w := w2) (c0 := #[Value.slice adp lp cp]) (t0 := 25) (c1 := #[Value.slice adq lq cq]) (t1 := 25)
    have hc0 := cell0 hh.1
    have hc1 := cell0 hh.2.1
    have hlen := refB_len HY.out
    clear hok hp hq hx hy hb2 rp rq rx ry hh hbX hxl hyl HB1
    generalize decL (byts a) = x at *
    generalize decL (byts b) = y at *
    by_cases hy : y = 0
    · obtain rfl : ly = 0 := hlen.2 hy
      have HYZ := Lib.hid hy
      clear hlen hy
      go_wp2_with fail
      generalize (w2.alloc (Obj.cells #[Value.slice adp lp cp] 25)).alloc (Obj.cells #[Value.slice adq lq cq] 25) = X at *
      refine (divZero_any (.agg #[.slice adp lp cp]) (.agg #[.slice adq lq cq]) x 21 21 _ HP.out (by have h := HQ.out; rw [HYZ.out] at h; exact h)).mono ?_
      rintro e w4 ⟨rfl, hb⟩
      replace hc0 := cell_below hc0 hb
      replace hc1 := cell_below hc1 hb
      replace HP := Lib.hid (HP.out.below hb)
      replace HQ := Lib.hid (HQ.out.below hb)
      replace HX := Lib.hid (HX.out.below hb)
      replace HY := Lib.hid (HY.out.below hb)
      replace HB := Lib.hid (bel_on HB.out hb)
      clear hb
      have hb := bel_alloc2 w4 (Obj.cells #[Value.slice none 0 0] 25) (Obj.cells #[Value.slice none 0 0] 25)
      have hh := heldN2 (w := w4) (c0 := #[Value.slice none 0 0]) (t0 := 25) (c1 := #[Value.slice none 0 0]) (t1 := 25)
      have hd0 := cell0 hh.1
      have hd1 := cell0 hh.2.1
      replace hc0 := cell_below hc0 hb
      replace hc1 := cell_below hc1 hb
      replace HP := Lib.hid (HP.out.below hb)
      replace HQ := Lib.hid (HQ.out.below hb)
      replace HX := Lib.hid (HX.out.below hb)
      replace HY := Lib.hid (HY.out.below hb)
      replace HB := Lib.hid (bel_on HB.out hb)
      have hsz4 := HB.out.size
      clear hb hh
      go_wp2_with fail
      generalize (w4.alloc (Obj.cells #[Value.slice none 0 0] 25)).alloc (Obj.cells #[Value.slice none 0 0] 25) = Z at *
      refine (gcd_any (.agg #[.slice adp lp cp]) (.agg #[.slice adq lq cq]) x y 21 _ HP.out HQ.out (by decide)).mono ?_
      rintro e w5 ⟨vg, rfl, hn, hb⟩
      replace hc0 := cell_below hc0 hb
      replace hc1 := cell_below hc1 hb
      replace hd0 := cell_below hd0 hb
      replace hd1 := cell_below hd1 hb
      replace HP := Lib.hid (HP.out.below hb)
      replace HQ := Lib.hid (HQ.out.below hb)
      replace HX := Lib.hid (HX.out.below hb)
      replace HY := Lib.hid (HY.out.below hb)
      have NG := Lib.hid hn
      replace HB := Lib.hid (bel_on HB.out hb)
      clear hb hn
      go_wp2_with fail
      refine (text_any vg (Nat.gcd x y) 21 _ NG.out (by decide) (HTT.out.below HB.out)).mono ?_
      rintro e w6 ⟨rfl, hb⟩
      replace hc0 := cell_below hc0 hb
      replace hc1 := cell_below hc1 hb
      replace hd0 := cell_below hd0 hb
      replace hd1 := cell_below hd1 hb
      replace HP := Lib.hid (HP.out.below hb)
      replace HQ := Lib.hid (HQ.out.below hb)
      replace HX := Lib.hid (HX.out.below hb)
      replace HY := Lib.hid (HY.out.below hb)
      replace NG := Lib.hid (NG.out.below hb)
      replace HB := Lib.hid (bel_on HB.out hb)
      clear hb
      go_wp2_with fail
      refine (rgcd_any (.slice adx lx cx) (.slice ady 0 cy) x y 21 21 _ HX.out HY.out (by decide) (by decide)).mono ?_
      rintro e w7 ⟨vh, rfl, hn, hb⟩
      replace hc0 := cell_below hc0 hb
      replace hc1 := cell_below hc1 hb
      replace hd0 := cell_below hd0 hb
      replace hd1 := cell_below hd1 hb
      replace HP := Lib.hid (HP.out.below hb)
      replace HQ := Lib.hid (HQ.out.below hb)
      replace HX := Lib.hid (HX.out.below hb)
      replace HY := Lib.hid (HY.out.below hb)
      replace NG := Lib.hid (NG.out.below hb)
      have NH := Lib.hid hn
      replace HB := Lib.hid (bel_on HB.out hb)
      clear hb hn
      go_wp2_with fail
      refine (rtextB vh (Nat.gcd x y) (21 + 21) _ NH.out (by decide)).mono ?_
      rintro e w8 ⟨rfl, hb⟩
      replace hc0 := cell_below hc0 hb
      replace hc1 := cell_below hc1 hb
      replace hd0 := cell_below hd0 hb
      replace hd1 := cell_below hd1 hb
      replace HP := Lib.hid (HP.out.below hb)
      replace HQ := Lib.hid (HQ.out.below hb)
      replace HX := Lib.hid (HX.out.below hb)
      replace HY := Lib.hid (HY.out.below hb)
      replace NG := Lib.hid (NG.out.below hb)
      replace NH := Lib.hid (NH.out.below hb)
      replace HB := Lib.hid (bel_on HB.out hb)
      clear hb
      clear NG NH
      go_wp2_with fail
      refine (text_any (.agg #[.slice none 0 0]) 0 0 _ ⟨NatV.zero _ _, by decide⟩ (by decide) (HTT.out.below HB.out)).mono ?_
      rintro e w9 ⟨rfl, hb⟩
      replace hc0 := cell_below hc0 hb
      replace hc1 := cell_below hc1 hb
      replace hd0 := cell_below hd0 hb
      replace hd1 := cell_below hd1 hb
      replace HP := Lib.hid (HP.out.below hb)
      replace HQ := Lib.hid (HQ.out.below hb)
      replace HX := Lib.hid (HX.out.below hb)
      replace HY := Lib.hid (HY.out.below hb)
      replace HB := Lib.hid (bel_on HB.out hb)
      clear hb
      rw [decS_zero]
      go_wp2_with fail
      refine (text_any (.agg #[.slice none 0 0]) 0 0 _ ⟨NatV.zero _ _, by decide⟩ (by decide) (HTT.out.below HB.out)).mono ?_
      rintro e w10 ⟨rfl, hb⟩
      replace hc0 := cell_below hc0 hb
      replace hc1 := cell_below hc1 hb
      replace hd0 := cell_below hd0 hb
      replace hd1 := cell_below hd1 hb
      replace HP := Lib.hid (HP.out.below hb)
      replace HQ := Lib.hid (HQ.out.below hb)
      replace HX := Lib.hid (HX.out.below hb)
      replace HY := Lib.hid (HY.out.below hb)
      replace HB := Lib.hid (bel_on HB.out hb)
      clear hb
      rw [decS_zero]
      go_wp2_with fail
      go_ret
      exact ⟨rfl, HB.out⟩
    · have hl0 : ((ly : Int) == 0) = false := by simp; exact fun e => hy (hlen.1 e)
      clear hlen
      go_wp2_with fail
      generalize (w2.alloc (Obj.cells #[Value.slice adp lp cp] 25)).alloc (Obj.cells #[Value.slice adq lq cq] 25) = X at *
      refine (divTells x y 21 21 (by decide) (by decide) hy _ _ _ HP.out HQ.out).mono ?_
      rintro e w4 ⟨vD, uD, rfl, hn, hm, hb⟩
      replace hc0 := cell_below hc0 hb
      replace hc1 := cell_below hc1 hb
      replace HP := Lib.hid (HP.out.below hb)
      replace HQ := Lib.hid (HQ.out.below hb)
      replace HX := Lib.hid (HX.out.below hb)
      replace HY := Lib.hid (HY.out.below hb)
      have ND := Lib.hid hn
      replace HB := Lib.hid (bel_on HB.out hb)
      clear hb hn
      have MD := Lib.hid hm
      clear hm
      obtain ⟨aD, lD, cD, rfl⟩ := ND.out.shape2
      obtain ⟨dD, mD, eD, rfl⟩ := MD.out.shape2
      have hb := bel_alloc2 w4 (Obj.cells #[Value.slice aD lD cD] 25) (Obj.cells #[Value.slice dD mD eD] 25)
      have hh := heldN2 (w := w4) (c0 := #[Value.slice aD lD cD]) (t0 := 25) (c1 := #[Value.slice dD mD eD]) (t1 := 25)
      have hd0 := cell0 hh.1
      have hd1 := cell0 hh.2.1
      replace hc0 := cell_below hc0 hb
      replace hc1 := cell_below hc1 hb
      replace HP := Lib.hid (HP.out.below hb)
      replace HQ := Lib.hid (HQ.out.below hb)
      replace HX := Lib.hid (HX.out.below hb)
      replace HY := Lib.hid (HY.out.below hb)
      replace ND := Lib.hid (ND.out.below hb)
      replace MD := Lib.hid (MD.out.below hb)
      replace HB := Lib.hid (bel_on HB.out hb)
      have hsz4 := HB.out.size
      clear hb hh
      go_wp2_with fail
      generalize (w4.alloc (Obj.cells #[Value.slice aD lD cD] 25)).alloc (Obj.cells #[Value.slice dD mD eD] 25) = Z at *
      refine (gcd_any (.agg #[.slice adp lp cp]) (.agg #[.slice adq lq cq]) x y 21 _ HP.out HQ.out (by decide)).mono ?_
      rintro e w5 ⟨vg, rfl, hn, hb⟩
      replace hc0 := cell_below hc0 hb
      replace hc1 := cell_below hc1 hb
      replace hd0 := cell_below hd0 hb
      replace hd1 := cell_below hd1 hb
      replace HP := Lib.hid (HP.out.below hb)
      replace HQ := Lib.hid (HQ.out.below hb)
      replace HX := Lib.hid (HX.out.below hb)
      replace HY := Lib.hid (HY.out.below hb)
      replace ND := Lib.hid (ND.out.below hb)
      replace MD := Lib.hid (MD.out.below hb)
      have NG := Lib.hid hn
      replace HB := Lib.hid (bel_on HB.out hb)
      clear hb hn
      go_wp2_with fail
      refine (text_any vg (Nat.gcd x y) 21 _ NG.out (by decide) (HTT.out.below HB.out)).mono ?_
      rintro e w6 ⟨rfl, hb⟩
      replace hc0 := cell_below hc0 hb
      replace hc1 := cell_below hc1 hb
      replace hd0 := cell_below hd0 hb
      replace hd1 := cell_below hd1 hb
      replace HP := Lib.hid (HP.out.below hb)
      replace HQ := Lib.hid (HQ.out.below hb)
      replace HX := Lib.hid (HX.out.below hb)
      replace HY := Lib.hid (HY.out.below hb)
      replace ND := Lib.hid (ND.out.below hb)
      replace MD := Lib.hid (MD.out.below hb)
      replace NG := Lib.hid (NG.out.below hb)
      replace HB := Lib.hid (bel_on HB.out hb)
      clear hb
      go_wp2_with fail
      refine (rgcd_any (.slice adx lx cx) (.slice ady ly cy) x y 21 21 _ HX.out HY.out (by decide) (by decide)).mono ?_
      rintro e w7 ⟨vh, rfl, hn, hb⟩
      replace hc0 := cell_below hc0 hb
      replace hc1 := cell_below hc1 hb
      replace hd0 := cell_below hd0 hb
      replace hd1 := cell_below hd1 hb
      replace HP := Lib.hid (HP.out.below hb)
      replace HQ := Lib.hid (HQ.out.below hb)
      replace HX := Lib.hid (HX.out.below hb)
      replace HY := Lib.hid (HY.out.below hb)
      replace ND := Lib.hid (ND.out.below hb)
      replace MD := Lib.hid (MD.out.below hb)
      replace NG := Lib.hid (NG.out.below hb)
      have NH := Lib.hid hn
      replace HB := Lib.hid (bel_on HB.out hb)
      clear hb hn
      go_wp2_with fail
      refine (rtextB vh (Nat.gcd x y) (21 + 21) _ NH.out (by decide)).mono ?_
      rintro e w8 ⟨rfl, hb⟩
      replace hc0 := cell_below hc0 hb
      replace hc1 := cell_below hc1 hb
      replace hd0 := cell_below hd0 hb
      replace hd1 := cell_below hd1 hb
      replace HP := Lib.hid (HP.out.below hb)
      replace HQ := Lib.hid (HQ.out.below hb)
      replace HX := Lib.hid (HX.out.below hb)
      replace HY := Lib.hid (HY.out.below hb)
      replace ND := Lib.hid (ND.out.below hb)
      replace MD := Lib.hid (MD.out.below hb)
      replace NG := Lib.hid (NG.out.below hb)
      replace NH := Lib.hid (NH.out.below hb)
      replace HB := Lib.hid (bel_on HB.out hb)
      clear hb
      clear NG NH
      go_wp2_with fail
      refine (rdiv_any (.slice adx lx cx) (.slice ady ly cy) x y 21 21 _ HX.out HY.out (by decide) (by decide) hy).mono ?_
      rintro e w9 ⟨vu, vv, rfl, hn, hm, hb⟩
      replace hc0 := cell_below hc0 hb
      replace hc1 := cell_below hc1 hb
      replace hd0 := cell_below hd0 hb
      replace hd1 := cell_below hd1 hb
      replace HP := Lib.hid (HP.out.below hb)
      replace HQ := Lib.hid (HQ.out.below hb)
      replace HX := Lib.hid (HX.out.below hb)
      replace HY := Lib.hid (HY.out.below hb)
      replace ND := Lib.hid (ND.out.below hb)
      replace MD := Lib.hid (MD.out.below hb)
      have NU := Lib.hid hn
      replace HB := Lib.hid (bel_on HB.out hb)
      clear hb hn
      have NV := Lib.hid hm
      clear hm
      go_wp2_with fail
      refine (text_any (.agg #[.slice aD lD cD]) (x / y) 21 _ ND.out (by decide) (HTT.out.below HB.out)).mono ?_
      rintro e w10 ⟨rfl, hb⟩
      replace hc0 := cell_below hc0 hb
      replace hc1 := cell_below hc1 hb
      replace hd0 := cell_below hd0 hb
      replace hd1 := cell_below hd1 hb
      replace HP := Lib.hid (HP.out.below hb)
      replace HQ := Lib.hid (HQ.out.below hb)
      replace HX := Lib.hid (HX.out.below hb)
      replace HY := Lib.hid (HY.out.below hb)
      replace ND := Lib.hid (ND.out.below hb)
      replace MD := Lib.hid (MD.out.below hb)
      replace NU := Lib.hid (NU.out.below hb)
      replace NV := Lib.hid (NV.out.below hb)
      replace HB := Lib.hid (bel_on HB.out hb)
      clear hb
      go_wp2_with fail
      refine (rtextB vu (x / y) 21 _ NU.out (by decide)).mono ?_
      rintro e w11 ⟨rfl, hb⟩
      replace hc0 := cell_below hc0 hb
      replace hc1 := cell_below hc1 hb
      replace hd0 := cell_below hd0 hb
      replace hd1 := cell_below hd1 hb
      replace HP := Lib.hid (HP.out.below hb)
      replace HQ := Lib.hid (HQ.out.below hb)
      replace HX := Lib.hid (HX.out.below hb)
      replace HY := Lib.hid (HY.out.below hb)
      replace ND := Lib.hid (ND.out.below hb)
      replace MD := Lib.hid (MD.out.below hb)
      replace NU := Lib.hid (NU.out.below hb)
      replace NV := Lib.hid (NV.out.below hb)
      replace HB := Lib.hid (bel_on HB.out hb)
      clear hb
      go_wp2_with fail
      refine (text_any (.agg #[.slice dD mD eD]) (x % y) 21 _ MD.out (by decide) (HTT.out.below HB.out)).mono ?_
      rintro e w12 ⟨rfl, hb⟩
      replace hc0 := cell_below hc0 hb
      replace hc1 := cell_below hc1 hb
      replace hd0 := cell_below hd0 hb
      replace hd1 := cell_below hd1 hb
      replace HP := Lib.hid (HP.out.below hb)
      replace HQ := Lib.hid (HQ.out.below hb)
      replace HX := Lib.hid (HX.out.below hb)
      replace HY := Lib.hid (HY.out.below hb)
      replace ND := Lib.hid (ND.out.below hb)
      replace MD := Lib.hid (MD.out.below hb)
      replace NU := Lib.hid (NU.out.below hb)
      replace NV := Lib.hid (NV.out.below hb)
      replace HB := Lib.hid (bel_on HB.out hb)
      clear hb
      go_wp2_with fail
      refine (rtextB vv (x % y) 21 _ NV.out (by decide)).mono ?_
      rintro e w13 ⟨rfl, hb⟩
      replace hc0 := cell_below hc0 hb
      replace hc1 := cell_below hc1 hb
      replace hd0 := cell_below hd0 hb
      replace hd1 := cell_below hd1 hb
      replace HP := Lib.hid (HP.out.below hb)
      replace HQ := Lib.hid (HQ.out.below hb)
      replace HX := Lib.hid (HX.out.below hb)
      replace HY := Lib.hid (HY.out.below hb)
      replace ND := Lib.hid (ND.out.below hb)
      replace MD := Lib.hid (MD.out.below hb)
      replace NU := Lib.hid (NU.out.below hb)
      replace NV := Lib.hid (NV.out.below hb)
      replace HB := Lib.hid (bel_on HB.out hb)
      clear hb
      go_wp2_with fail
      go_ret
      exact ⟨rfl, HB.out⟩
  · have HB2 := Lib.hid (bel_on HB1.out hb2)
    clear hno hb2 HB1
    go_wp2_with fail
    go_ret
    exact ⟨rfl, bel_on HB2.out (bel_alloc2 _ _ _)⟩

end Go.Proofs.YtpchnejdbmoicaaDoor
