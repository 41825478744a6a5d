/- The law NatBack. -/
import Derived.Test.YtpchnejdbmoicaaDoorYk
import Derived.Test.YtpchnejdbmoicaaDoorYc
import Derived.Test.YtpchnejdbmoicaaDoorYe
import Derived.Test.YtpchnejdbmoicaaDoorYp
import Derived.Test.YtpchnejdbmoicaaDoorYr
namespace Go.Proofs.YtpchnejdbmoicaaDoor
open Go.RowKit Cin

set_option maxRecDepth 100000 in
set_option maxHeartbeats 8000000 in
/-- The law holds of every two texts. -/
theorem natBack_any (a b : ByteArray) (w : World) (hT : Tabs w) :
    Calls Tryd.prog 6 #[.string a, .string b] w fun e w' => e = .returned (.bool true) ∧ Below w.heap.size w w' := by
  have HTT := Lib.hid hT
  clear hT
  go_enter Tryd.func6, Tryd.ntmps6
  go_wp2_with fail
  refine (alive_any _ HTT.out).mono ?_
  rintro e w1 ⟨rfl, hb1⟩
  have HB1 := Lib.hid hb1
  clear hb1
  go_wp2_with fail
  refine (pair_any a b _).mono ?_
  rintro e w2 (⟨hok, p, q, xv, yv, rfl, hp, hq, hx, hy, hb2⟩ | ⟨hno, rfl, hb2⟩)
  · obtain ⟨adp, lp, cp, xsp, rfl, rp⟩ := hp.shape
    obtain ⟨adq, lq, cq, xsq, rfl, rq⟩ := hq.shape
    obtain ⟨adx, lx, cx, xsx, rfl, rx⟩ := hx.shape
    obtain ⟨ady, ly, cy, xsy, rfl, ry⟩ := hy.shape
    have hbX := bel_alloc2 w2 (Obj.cells #[Value.slice adp lp cp] 25) (Obj.cells #[Value.slice adq lq cq] 25)
    have hxl := decL_lt_pw hok.1.2.2.2 (by rw [byts_length]; exact hok.2.2.1)
    have hyl := decL_lt_pw hok.2.1.2.2.2 (by rw [byts_length]; exact hok.2.2.2)
    have HP := Lib.hid (NatB.below (⟨⟨_, rfl, hp⟩, hxl⟩ : NatB 68 w2 (.agg #[.slice adp lp cp]) (decL (byts a)) 21) hbX)
    have HQ := Lib.hid (NatB.below (⟨⟨_, rfl, hq⟩, hyl⟩ : NatB 68 w2 (.agg #[.slice adq lq cq]) (decL (byts b)) 21) hbX)
    have HX := Lib.hid (RefB.below (⟨hx, hxl⟩ : RefB w2 (.slice adx lx cx) (decL (byts a)) 21) hbX)
    have HY := Lib.hid (RefB.below (⟨hy, hyl⟩ : RefB w2 (.slice ady ly cy) (decL (byts b)) 21) hbX)
    have HB := Lib.hid (bel_on (bel_on HB1.out hb2) hbX)
    have hh := heldN2 (w := w2) (c0 := #[Value.slice adp lp cp]) (t0 := 25) (c1 := #[Value.slice adq lq cq]) (t1 := 25)
    have hc0 := cell0 hh.1
    have hc1 := cell0 hh.2.1
    have hlen := refB_len HY.out
    clear hok hp hq hx hy hb2 rp rq rx ry hh hbX hxl hyl HB1
    generalize decL (byts a) = x at *
    generalize decL (byts b) = y at *
    by_cases hy : y = 0
    · subst hy
      obtain rfl : ly = 0 := hlen.2 rfl
      clear hlen
      go_wp2_with fail
      go_ret
      exact ⟨rfl, HB.out⟩
    · have hl0 : ((ly : Int) == 0) = false := by simp; exact fun e => hy (hlen.1 e)
      clear hlen HX HY
      go_wp2_with fail
      generalize (w2.alloc (Obj.cells #[Value.slice adp lp cp] 25)).alloc (Obj.cells #[Value.slice adq lq cq] 25) = X at *
      refine (divTells x y 21 21 (by decide) (by decide) hy _ _ _ HP.out HQ.out).mono ?_
      rintro e w4 ⟨vD, uD, rfl, hn, hm, hb⟩
      replace hc0 := cell_below hc0 hb
      replace hc1 := cell_below hc1 hb
      replace HP := Lib.hid (HP.out.below hb)
      replace HQ := Lib.hid (HQ.out.below hb)
      have ND := Lib.hid hn
      replace HB := Lib.hid (bel_on HB.out hb)
      clear hb hn
      have MD := Lib.hid hm
      clear hm
      obtain ⟨aD, lD, cD, rfl⟩ := ND.out.shape2
      obtain ⟨dD, mD, eD, rfl⟩ := MD.out.shape2
      have hb := bel_alloc2 w4 (Obj.cells #[Value.slice aD lD cD] 25) (Obj.cells #[Value.slice dD mD eD] 25)
      have hh := heldN2 (w := w4) (c0 := #[Value.slice aD lD cD]) (t0 := 25) (c1 := #[Value.slice dD mD eD]) (t1 := 25)
      have hd0 := cell0 hh.1
      have hd1 := cell0 hh.2.1
      replace hc0 := cell_below hc0 hb
      replace hc1 := cell_below hc1 hb
      replace HP := Lib.hid (HP.out.below hb)
      replace HQ := Lib.hid (HQ.out.below hb)
      replace ND := Lib.hid (ND.out.below hb)
      replace MD := Lib.hid (MD.out.below hb)
      replace HB := Lib.hid (bel_on HB.out hb)
      have hsz4 := HB.out.size
      clear hb hh
      go_wp2_with fail
      generalize (w4.alloc (Obj.cells #[Value.slice aD lD cD] 25)).alloc (Obj.cells #[Value.slice dD mD eD] 25) = Z1 at *
      refine (gcd_any (.agg #[.slice adp lp cp]) (.agg #[.slice adq lq cq]) x y 21 _ HP.out HQ.out (by decide)).mono ?_
      rintro e w5 ⟨vg, rfl, hn, hb⟩
      replace hc0 := cell_below hc0 hb
      replace hc1 := cell_below hc1 hb
      replace hd0 := cell_below hd0 hb
      replace hd1 := cell_below hd1 hb
      replace HP := Lib.hid (HP.out.below hb)
      replace HQ := Lib.hid (HQ.out.below hb)
      replace ND := Lib.hid (ND.out.below hb)
      replace MD := Lib.hid (MD.out.below hb)
      have NG := Lib.hid hn
      replace HB := Lib.hid (bel_on HB.out hb)
      clear hb hn
      obtain ⟨aG, lG, cG, rfl⟩ := NG.out.shape2
      have hb := bel_alloc w5 (Obj.cells #[Value.slice aG lG cG] 25)
      have hh := heldN1 (w := w5) (c0 := #[Value.slice aG lG cG]) (t0 := 25)
      have hg0 := cell0 hh.1
      replace hc0 := cell_below hc0 hb
      replace hc1 := cell_below hc1 hb
      replace hd0 := cell_below hd0 hb
      replace hd1 := cell_below hd1 hb
      replace HP := Lib.hid (HP.out.below hb)
      replace HQ := Lib.hid (HQ.out.below hb)
      replace ND := Lib.hid (ND.out.below hb)
      replace MD := Lib.hid (MD.out.below hb)
      replace NG := Lib.hid (NG.out.below hb)
      replace HB := Lib.hid (bel_on HB.out hb)
      have hsz5 := HB.out.size
      clear hb hh
      go_wp2_with fail
      generalize w5.alloc (Obj.cells #[Value.slice aG lG cG] 25) = Z2 at *
      refine (divTells x (Nat.gcd x y) 21 21 (by decide) (by decide) (gcd_ne hy) _ _ _ HP.out NG.out).mono ?_
      rintro e w6 ⟨vU, uU, rfl, hn, hm, hb⟩
      replace hc0 := cell_below hc0 hb
      replace hc1 := cell_below hc1 hb
      replace hd0 := cell_below hd0 hb
      replace hd1 := cell_below hd1 hb
      replace hg0 := cell_below hg0 hb
      replace HP := Lib.hid (HP.out.below hb)
      replace HQ := Lib.hid (HQ.out.below hb)
      replace ND := Lib.hid (ND.out.below hb)
      replace MD := Lib.hid (MD.out.below hb)
      replace NG := Lib.hid (NG.out.below hb)
      have NU := Lib.hid hn
      replace HB := Lib.hid (bel_on HB.out hb)
      clear hb hn
      have MU := Lib.hid hm
      clear hm
      obtain ⟨aU, lU, cU, rfl⟩ := NU.out.shape2
      obtain ⟨dU, mU, eU, rfl⟩ := MU.out.shape2
      rw [gcd_mod_left] at MU
      have hb := bel_alloc2 w6 (Obj.cells #[Value.slice aU lU cU] 25) (Obj.cells #[Value.slice dU mU eU] 25)
      have hh := heldN2 (w := w6) (c0 := #[Value.slice aU lU cU]) (t0 := 25) (c1 := #[Value.slice dU mU eU]) (t1 := 25)
      have hu0 := cell0 hh.1
      have hu1 := cell0 hh.2.1
      replace hc0 := cell_below hc0 hb
      replace hc1 := cell_below hc1 hb
      replace hd0 := cell_below hd0 hb
      replace hd1 := cell_below hd1 hb
      replace hg0 := cell_below hg0 hb
      replace HP := Lib.hid (HP.out.below hb)
      replace HQ := Lib.hid (HQ.out.below hb)
      replace ND := Lib.hid (ND.out.below hb)
      replace MD := Lib.hid (MD.out.below hb)
      replace NG := Lib.hid (NG.out.below hb)
      replace NU := Lib.hid (NU.out.below hb)
      replace MU := Lib.hid (MU.out.below hb)
      replace HB := Lib.hid (bel_on HB.out hb)
      have hsz6 := HB.out.size
      clear hb hh
      go_wp2_with fail
      generalize (w6.alloc (Obj.cells #[Value.slice aU lU cU] 25)).alloc (Obj.cells #[Value.slice dU mU eU] 25) = Z3 at *
      refine (divTells y (Nat.gcd x y) 21 21 (by decide) (by decide) (gcd_ne hy) _ _ _ HQ.out NG.out).mono ?_
      rintro e w7 ⟨vV, uV, rfl, hn, hm, hb⟩
      replace hc0 := cell_below hc0 hb
      replace hc1 := cell_below hc1 hb
      replace hd0 := cell_below hd0 hb
      replace hd1 := cell_below hd1 hb
      replace hg0 := cell_below hg0 hb
      replace hu0 := cell_below hu0 hb
      replace hu1 := cell_below hu1 hb
      replace HP := Lib.hid (HP.out.below hb)
      replace HQ := Lib.hid (HQ.out.below hb)
      replace ND := Lib.hid (ND.out.below hb)
      replace MD := Lib.hid (MD.out.below hb)
      replace NG := Lib.hid (NG.out.below hb)
      replace NU := Lib.hid (NU.out.below hb)
      replace MU := Lib.hid (MU.out.below hb)
      have NV := Lib.hid hn
      replace HB := Lib.hid (bel_on HB.out hb)
      clear hb hn
      have MV := Lib.hid hm
      clear hm
      obtain ⟨aV, lV, cV, rfl⟩ := NV.out.shape2
      obtain ⟨dV, mV, eV, rfl⟩ := MV.out.shape2
      rw [gcd_mod_right] at MV
      have hb := bel_alloc2 w7 (Obj.cells #[Value.slice aV lV cV] 25) (Obj.cells #[Value.slice dV mV eV] 25)
      have hh := heldN2 (w := w7) (c0 := #[Value.slice aV lV cV]) (t0 := 25) (c1 := #[Value.slice dV mV eV]) (t1 := 25)
      have hv0 := cell0 hh.1
      have hv1 := cell0 hh.2.1
      replace hc0 := cell_below hc0 hb
      replace hc1 := cell_below hc1 hb
      replace hd0 := cell_below hd0 hb
      replace hd1 := cell_below hd1 hb
      replace hg0 := cell_below hg0 hb
      replace hu0 := cell_below hu0 hb
      replace hu1 := cell_below hu1 hb
      replace HP := Lib.hid (HP.out.below hb)
      replace HQ := Lib.hid (HQ.out.below hb)
      replace ND := Lib.hid (ND.out.below hb)
      replace MD := Lib.hid (MD.out.below hb)
      replace NG := Lib.hid (NG.out.below hb)
      replace NU := Lib.hid (NU.out.below hb)
      replace MU := Lib.hid (MU.out.below hb)
      replace NV := Lib.hid (NV.out.below hb)
      replace MV := Lib.hid (MV.out.below hb)
      replace HB := Lib.hid (bel_on HB.out hb)
      have hsz7 := HB.out.size
      clear hb hh
      go_wp2_with fail
      generalize (w7.alloc (Obj.cells #[Value.slice aV lV cV] 25)).alloc (Obj.cells #[Value.slice dV mV eV] 25) = Z4 at *
      replace HP := Lib.hid (HP.out.below (Below.refl _ Z4).drew)
      replace HQ := Lib.hid (HQ.out.below (Below.refl _ Z4).drew)
      replace ND := Lib.hid (ND.out.below (Below.refl _ Z4).drew)
      replace MD := Lib.hid (MD.out.below (Below.refl _ Z4).drew)
      replace NG := Lib.hid (NG.out.below (Below.refl _ Z4).drew)
      replace NU := Lib.hid (NU.out.below (Below.refl _ Z4).drew)
      replace MU := Lib.hid (MU.out.below (Below.refl _ Z4).drew)
      replace NV := Lib.hid (NV.out.below (Below.refl _ Z4).drew)
      replace MV := Lib.hid (MV.out.below (Below.refl _ Z4).drew)
      have E1 := Lib.hid (show cmpI (x / y * y + x % y) x = 0 by rw [Nat.mul_comm, Nat.div_add_mod]; exact cmpI_self x)
      have E2 := Lib.hid (show cmpI (x % y) y = -1 by unfold cmpI; rw [if_pos (Nat.mod_lt _ (Nat.pos_of_ne_zero hy))])
      refine wp_region_sched (fun w' => w'.cell? ⟨w2.heap.size, 0, none⟩ = some (.slice adp lp cp) ∧ w'.cell? ⟨w2.heap.size + 1, 0, none⟩ = some (.slice adq lq cq) ∧ w'.cell? ⟨w4.heap.size, 0, none⟩ = some (.slice aD lD cD) ∧ w'.cell? ⟨w4.heap.size + 1, 0, none⟩ = some (.slice dD mD eD) ∧ w'.cell? ⟨w6.heap.size + 1, 0, none⟩ = some (.slice dU mU eU) ∧ w'.cell? ⟨w7.heap.size + 1, 0, none⟩ = some (.slice dV mV eV) ∧ Below w.heap.size w w') [(0, true), (1, true), (2, true), (3, true), (4, true), (5, true), (6, true), (7, true), (8, true), (9, true), (11, true), (13, true), (10, false), (12, false), (14, false), (15, true), (16, true), (17, true), (18, true), (19, true), (20, false), (21, true), (22, true), (23, true), (24, true), (25, false), (26, true), (27, true), (28, true), (29, true), (30, false), (31, true), (32, true), (33, true)] (by kernel_rfl) (by kernel_rfl) ?_ (fun hHeld => ?_)
      · (try dsimp only)
        exact ⟨hc0, hc1, hd0, hd1, hu1, hv1, HB.out.drew⟩
      try dsimp only at hHeld
      repeat (refine wpSched_at (by simp only [List.getElem?_toArray, List.getElem?_cons_zero, List.getElem?_cons_succ]; rfl) ?_; (first | (apply wpAt_take rfl; (intro wx hSx; (try dsimp only at hSx); go_simp; (try with_reducible rfl)); simp only [Act.put, List.setIfInBounds_toArray, List.set_cons_zero, List.set_cons_succ]) | (refine wpAt_skip rfl ?_; simp only [Act.put, List.setIfInBounds_toArray, List.set_cons_zero, List.set_cons_succ]) | (refine wpAt_pass rfl hHeld ?_; simp only [Act.put, List.setIfInBounds_toArray, List.set_cons_zero, List.set_cons_succ]) | (refine wpAt_eff rfl (fun K hK => ?_); (skip); go_simp; (first | (go_at_call 31; (with_reducible refine (mulB (.agg #[.slice aD lD cD]) (.agg #[.slice adq lq cq]) (x / y) y 21 21 _ ?_ ?_ (by decide) (by decide)).mono ?_); (exact ND.out); (exact HQ.out); rintro e w' ⟨vm, rfl, hn, hb⟩; (try replace HP := Lib.hid (HP.out.below hb)); (try replace HQ := Lib.hid (HQ.out.below hb)); (try replace ND := Lib.hid (ND.out.below hb)); (try replace MD := Lib.hid (MD.out.below hb)); (try replace MU := Lib.hid (MU.out.below hb)); (try replace MV := Lib.hid (MV.out.below hb)); (try replace NM := Lib.hid (NM.out.below hb)); (try replace NA := Lib.hid (NA.out.below hb)); have NM := Lib.hid hn; have hS := And.intro trivial (And.intro (cell_below hHeld.1 hb) (And.intro (cell_below hHeld.2.1 hb) (And.intro (cell_below hHeld.2.2.1 hb) (And.intro (cell_below hHeld.2.2.2.1 hb) (And.intro (cell_below hHeld.2.2.2.2.1 hb) (And.intro (cell_below hHeld.2.2.2.2.2.1 hb) (bel_on hHeld.2.2.2.2.2.2 hb))))))); clear hb hHeld hn) | (go_at_call 30; (with_reducible refine (addB vm (.agg #[.slice dD mD eD]) (x / y * y) (x % y) (21 + 21) 21 _ ?_ ?_ (by decide) (by decide)).mono ?_); (exact NM.out); (exact MD.out); rintro e w' ⟨va, rfl, hn, hb⟩; (try replace HP := Lib.hid (HP.out.below hb)); (try replace HQ := Lib.hid (HQ.out.below hb)); (try replace ND := Lib.hid (ND.out.below hb)); (try replace MD := Lib.hid (MD.out.below hb)); (try replace MU := Lib.hid (MU.out.below hb)); (try replace MV := Lib.hid (MV.out.below hb)); (try replace NM := Lib.hid (NM.out.below hb)); (try replace NA := Lib.hid (NA.out.below hb)); have NA := Lib.hid hn; have hS := And.intro trivial (And.intro (cell_below hHeld.1 hb) (And.intro (cell_below hHeld.2.1 hb) (And.intro (cell_below hHeld.2.2.1 hb) (And.intro (cell_below hHeld.2.2.2.1 hb) (And.intro (cell_below hHeld.2.2.2.2.1 hb) (And.intro (cell_below hHeld.2.2.2.2.2.1 hb) (bel_on hHeld.2.2.2.2.2.2 hb))))))); clear hb hHeld hn) | (go_at_call 29; (with_reducible refine (cmpB va (.agg #[.slice adp lp cp]) (x / y * y + x % y) x (21 + 21 + 21 + 1) 21 _ ?_ ?_ (by decide) (by decide)).mono ?_); (exact NA.out); (exact HP.out); rintro e w' ⟨rfl, hb⟩; (try replace HP := Lib.hid (HP.out.below hb)); (try replace HQ := Lib.hid (HQ.out.below hb)); (try replace ND := Lib.hid (ND.out.below hb)); (try replace MD := Lib.hid (MD.out.below hb)); (try replace MU := Lib.hid (MU.out.below hb)); (try replace MV := Lib.hid (MV.out.below hb)); (try replace NM := Lib.hid (NM.out.below hb)); (try replace NA := Lib.hid (NA.out.below hb)); rw [E1.out]; have hS := And.intro trivial (And.intro (cell_below hHeld.1 hb) (And.intro (cell_below hHeld.2.1 hb) (And.intro (cell_below hHeld.2.2.1 hb) (And.intro (cell_below hHeld.2.2.2.1 hb) (And.intro (cell_below hHeld.2.2.2.2.1 hb) (And.intro (cell_below hHeld.2.2.2.2.2.1 hb) (bel_on hHeld.2.2.2.2.2.2 hb))))))); clear hb hHeld) | (go_at_call 29; (with_reducible refine (cmpB (.agg #[.slice dD mD eD]) (.agg #[.slice adq lq cq]) (x % y) y 21 21 _ ?_ ?_ (by decide) (by decide)).mono ?_); (exact MD.out); (exact HQ.out); rintro e w' ⟨rfl, hb⟩; (try replace HP := Lib.hid (HP.out.below hb)); (try replace HQ := Lib.hid (HQ.out.below hb)); (try replace ND := Lib.hid (ND.out.below hb)); (try replace MD := Lib.hid (MD.out.below hb)); (try replace MU := Lib.hid (MU.out.below hb)); (try replace MV := Lib.hid (MV.out.below hb)); (try replace NM := Lib.hid (NM.out.below hb)); (try replace NA := Lib.hid (NA.out.below hb)); rw [E2.out]; have hS := And.intro trivial (And.intro (cell_below hHeld.1 hb) (And.intro (cell_below hHeld.2.1 hb) (And.intro (cell_below hHeld.2.2.1 hb) (And.intro (cell_below hHeld.2.2.2.1 hb) (And.intro (cell_below hHeld.2.2.2.2.1 hb) (And.intro (cell_below hHeld.2.2.2.2.2.1 hb) (bel_on hHeld.2.2.2.2.2.2 hb))))))); clear hb hHeld) | (go_at_call 15; (with_reducible refine (bitsZero (.agg #[.slice dU mU eU]) 21 _ ?_).mono ?_); (exact MU.out); rintro e w' ⟨rfl, hb⟩; (try replace HP := Lib.hid (HP.out.below hb)); (try replace HQ := Lib.hid (HQ.out.below hb)); (try replace ND := Lib.hid (ND.out.below hb)); (try replace MD := Lib.hid (MD.out.below hb)); (try replace MU := Lib.hid (MU.out.below hb)); (try replace MV := Lib.hid (MV.out.below hb)); (try replace NM := Lib.hid (NM.out.below hb)); (try replace NA := Lib.hid (NA.out.below hb)); have hS := And.intro trivial (And.intro (cell_below hHeld.1 hb) (And.intro (cell_below hHeld.2.1 hb) (And.intro (cell_below hHeld.2.2.1 hb) (And.intro (cell_below hHeld.2.2.2.1 hb) (And.intro (cell_below hHeld.2.2.2.2.1 hb) (And.intro (cell_below hHeld.2.2.2.2.2.1 hb) (bel_on hHeld.2.2.2.2.2.2 hb))))))); clear hb hHeld) | (go_at_call 15; (with_reducible refine (bitsZero (.agg #[.slice dV mV eV]) 21 _ ?_).mono ?_); (exact MV.out); rintro e w' ⟨rfl, hb⟩; (try replace HP := Lib.hid (HP.out.below hb)); (try replace HQ := Lib.hid (HQ.out.below hb)); (try replace ND := Lib.hid (ND.out.below hb)); (try replace MD := Lib.hid (MD.out.below hb)); (try replace MU := Lib.hid (MU.out.below hb)); (try replace MV := Lib.hid (MV.out.below hb)); (try replace NM := Lib.hid (NM.out.below hb)); (try replace NA := Lib.hid (NA.out.below hb)); have hS := And.intro trivial (And.intro (cell_below hHeld.1 hb) (And.intro (cell_below hHeld.2.1 hb) (And.intro (cell_below hHeld.2.2.1 hb) (And.intro (cell_below hHeld.2.2.2.1 hb) (And.intro (cell_below hHeld.2.2.2.2.1 hb) (And.intro (cell_below hHeld.2.2.2.2.2.1 hb) (bel_on hHeld.2.2.2.2.2.2 hb))))))); clear hb hHeld)); (refine hK.out _ _ ?_ (fun hHeld => ?_)); ((try dsimp only); ((try simp only [cell_drew, slot_drew, below_drew]); refine ⟨?_, ?_, ?_, ?_, ?_, ?_, ?_⟩; (first | exact hS.2.1 | with_reducible exact cell_set hHeld.1 (by omega) | with_reducible exact cell_set (cell_set hHeld.1 (by omega)) (by omega)); (first | exact hS.2.2.1 | with_reducible exact cell_set hHeld.2.1 (by omega) | with_reducible exact cell_set (cell_set hHeld.2.1 (by omega)) (by omega)); (first | exact hS.2.2.2.1 | with_reducible exact cell_set hHeld.2.2.1 (by omega) | with_reducible exact cell_set (cell_set hHeld.2.2.1 (by omega)) (by omega)); (first | exact hS.2.2.2.2.1 | with_reducible exact cell_set hHeld.2.2.2.1 (by omega) | with_reducible exact cell_set (cell_set hHeld.2.2.2.1 (by omega)) (by omega)); (first | exact hS.2.2.2.2.2.1 | with_reducible exact cell_set hHeld.2.2.2.2.1 (by omega) | with_reducible exact cell_set (cell_set hHeld.2.2.2.2.1 (by omega)) (by omega)); (first | exact hS.2.2.2.2.2.2.1 | with_reducible exact cell_set hHeld.2.2.2.2.2.1 (by omega) | with_reducible exact cell_set (cell_set hHeld.2.2.2.2.2.1 (by omega)) (by omega)); (first | exact hS.2.2.2.2.2.2.2 | with_reducible exact bel_set1 hHeld.2.2.2.2.2.2 (by omega) | with_reducible exact bel_set2 hHeld.2.2.2.2.2.2 (by omega) (by omega)))); clear hK K; (try clear hS); (try clear hfx0 hx0 x0); (try clear hfy0 hy0 y0); (try clear hfx1 hx1 x1); (try clear hfy1 hy1 y1); (try dsimp only at hHeld))))
      refine wpSched_nil ?_
      have HE := Lib.hid hHeld.2.2.2.2.2.2
      clear hHeld
      go_wp2_with fail
      go_ret
      exact ⟨rfl, HE.out⟩
  · have HB2 := Lib.hid (bel_on HB1.out hb2)
    clear hno hb2 HB1
    go_wp2_with fail
    go_ret
    exact ⟨rfl, bel_on HB2.out (bel_alloc2 _ _ _)⟩

end Go.Proofs.YtpchnejdbmoicaaDoor
