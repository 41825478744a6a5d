/- The law NatRings. -/
import Derived.Test.YtkcaaicpjcmdbaaDoorW8
import Derived.Test.YtkcaaicpjcmdbaaDoorWS
import Derived.Test.YtkcaaicpjcmdbaaDoorWU
namespace Go.Proofs.YtkcaaicpjcmdbaaDoor
open Go.RowKit Cin

theorem cmpI_eq {a b : Nat} (h : a = b) : cmpI a b = 0 := by rw [h]; exact cmpI_self b
theorem ring_bounds {x y z : Nat} (hx : x < pw 21) (hy : y < pw 21) (hz : z < pw 21) :
    x + y < pw 200 ∧ (x + y) * z < pw 200 ∧ z * x < pw 200 ∧ z * y < pw 200 ∧ z * x + z * y < pw 200 ∧ x + y + z < pw 200 ∧ z + y < pw 200 ∧ x + (z + y) < pw 200 ∧ x * y < pw 200 ∧ x * y * z < pw 200 ∧ x * (z * y) < pw 200 := by
  have a1 := lt_pw_add hx hy
  have a2 := lt_pw_mul a1 (lt_pw_mono hz (show 21 ≤ 22 by decide))
  have a3 := lt_pw_mul hz hx
  have a4 := lt_pw_mul hz hy
  have a5 := lt_pw_add a3 a4
  have a6 := lt_pw_add a1 (lt_pw_mono hz (show 21 ≤ 21 + 1 by decide))
  have a7 := lt_pw_add hz hy
  have a8 := lt_pw_add (lt_pw_mono hx (show 21 ≤ 21 + 1 by decide)) a7
  have a9 := lt_pw_mul hx hy
  have b1 := lt_pw_mul a9 hz
  have b2 := lt_pw_mul hx a4
  exact ⟨lt_pw_mono a1 (by decide), lt_pw_mono a2 (by decide), lt_pw_mono a3 (by decide), lt_pw_mono a4 (by decide), lt_pw_mono a5 (by decide), lt_pw_mono a6 (by decide), lt_pw_mono a7 (by decide), lt_pw_mono a8 (by decide), lt_pw_mono a9 (by decide), lt_pw_mono b1 (by decide), lt_pw_mono b2 (by decide)⟩

set_option maxRecDepth 100000 in
set_option maxHeartbeats 4000000 in
/-- The law holds of every three texts. -/
theorem natRings_any (a b c : ByteArray) (w : World) (hT : Tabs w) :
    Calls Tryd.prog 8 #[.string a, .string b, .string c] w fun e w' => e = .returned (.bool true) ∧ Below w.heap.size w w' := by
  have HTT := Lib.hid hT
  clear hT
  go_enter Tryd.func8, Tryd.ntmps8
  go_wp2_with fail
  refine (alive_any _ HTT.out).mono ?_
  rintro e w1 ⟨rfl, hb1⟩
  have HB1 := Lib.hid hb1
  clear hb1
  go_wp2_with fail
  refine (pair_any a b _).mono ?_
  rintro e w2 (⟨hok, p, q, xv, yv, rfl, hp, hq, hx, hy, hb2⟩ | ⟨hno, rfl, hb2⟩)
  · obtain ⟨adp, lp, cp, xsp, rfl, rp⟩ := hp.shape
    obtain ⟨adq, lq, cq, xsq, rfl, rq⟩ := hq.shape
    obtain ⟨adx, lx, cx, xsx, rfl, rx⟩ := hx.shape
    obtain ⟨ady, ly, cy, xsy, rfl, ry⟩ := hy.shape
    have HP2 := Lib.hid (show NatV 61 w2 (.agg #[.slice adp lp cp]) (decL (byts a)) from ⟨_, rfl, hp⟩)
    have HQ2 := Lib.hid (show NatV 61 w2 (.agg #[.slice adq lq cq]) (decL (byts b)) from ⟨_, rfl, hq⟩)
    have HP := Lib.hid (decL_lt_pw hok.1.2.2.2 (by rw [byts_length]; exact hok.2.2.1))
    have HQ := Lib.hid (decL_lt_pw hok.2.1.2.2.2 (by rw [byts_length]; exact hok.2.2.2))
    have HB2 := Lib.hid (bel_on HB1.out hb2)
    clear hok hp hq hx hy hb2 rp rq rx ry HB1
    go_wp2_with fail
    have hbX := bel_alloc2 w2 (Obj.cells #[Value.slice adp lp cp] 25) (Obj.cells #[Value.slice adq lq cq] 25)
    have hc0 := cell_of (new_block2 w2 (Obj.cells #[Value.slice adp lp cp] 25) (Obj.cells #[Value.slice adq lq cq] 25)) 0
    have hc1 := cell_of (nb21 w2 (Obj.cells #[Value.slice adp lp cp] 25) (Obj.cells #[Value.slice adq lq cq] 25)) 0
    have hsz : w2.heap.size + 1 < ((w2.alloc (Obj.cells #[Value.slice adp lp cp] 25)).alloc (Obj.cells #[Value.slice adq lq cq] 25)).heap.size := by simp
    simp only [List.getElem?_toArray, List.getElem?_cons_zero] at hc0 hc1
    generalize (w2.alloc (Obj.cells #[Value.slice adp lp cp] 25)).alloc (Obj.cells #[Value.slice adq lq cq] 25) = W at *
    have HBW := Lib.hid hbX
    clear hbX
    refine (pair_any c _ _).mono ?_
    rintro e w3 (⟨hok, r, q', xv, yv, rfl, hr, hq, hx, hy, hb3⟩ | ⟨hno, rfl, hb3⟩)
    · obtain ⟨adr, lr, cr, xsr, rfl, rr⟩ := hr.shape
      obtain ⟨adq', lq', cq', xsq', rfl, rq⟩ := hq.shape
      obtain ⟨adx', lx', cx', xsx', rfl, rx⟩ := hx.shape
      obtain ⟨ady', ly', cy', xsy', rfl, ry⟩ := hy.shape
      have HR3 := Lib.hid (show NatV 61 w3 (.agg #[.slice adr lr cr]) (decL (byts c)) from ⟨_, rfl, hr⟩)
      have HR := Lib.hid (decL_lt_pw hok.1.2.2.2 (by rw [byts_length]; exact hok.2.2.1))
      have HB3 := Lib.hid hb3
      have hs3 := hb3.size
      have hd0 := (hb3.cell (p := ⟨w2.heap.size, 0, none⟩) (by show w2.heap.size < _; omega)).trans hc0
      have hd1 := (hb3.cell (p := ⟨w2.heap.size + 1, 0, none⟩) (by show w2.heap.size + 1 < _; omega)).trans hc1
      clear hok hr hq hx hy hb3 rr rq rx ry hc0 hc1
      go_wp2_with fail
      have hbY := bel_alloc2 w3 (Obj.cells #[Value.slice adr lr cr] 25) (Obj.cells #[Value.slice adq' lq' cq'] 25)
      have he0 := (hbY.cell (p := ⟨w2.heap.size, 0, none⟩) (by show w2.heap.size < _; omega)).trans hd0
      have he1 := (hbY.cell (p := ⟨w2.heap.size + 1, 0, none⟩) (by show w2.heap.size + 1 < _; omega)).trans hd1
      have he2 := cell_of (new_block2 w3 (Obj.cells #[Value.slice adr lr cr] 25) (Obj.cells #[Value.slice adq' lq' cq'] 25)) 0
      simp only [List.getElem?_toArray, List.getElem?_cons_zero] at he2
      have hsY : w3.heap.size < ((w3.alloc (Obj.cells #[Value.slice adr lr cr] 25)).alloc (Obj.cells #[Value.slice adq' lq' cq'] 25)).heap.size := by simp; omega
      generalize (w3.alloc (Obj.cells #[Value.slice adr lr cr] 25)).alloc (Obj.cells #[Value.slice adq' lq' cq'] 25) = X at *
      have HXp := Lib.hid (((HP2.out.below HBW.out).below HB3.out).below hbY)
      have HXq := Lib.hid (((HQ2.out.below HBW.out).below HB3.out).below hbY)
      have HXr := Lib.hid (HR3.out.below hbY)
      have HXB := Lib.hid (bel_on (bel_on (bel_on HB2.out HBW.out) HB3.out) hbY)
      have hB0 : w2.heap.size < X.heap.size := by have := hbY.size; omega
      have hB1 : w2.heap.size + 1 < X.heap.size := by have := hbY.size; omega
      have hB2 : w3.heap.size < X.heap.size := hsY
      clear hd0 hd1 hbY HP2 HQ2 HR3 HB2 HB3 HBW hsz hs3
      generalize decL (byts a) = x at *
      generalize decL (byts b) = y at *
      generalize decL (byts c) = z at *
      have HBD := Lib.hid (ring_bounds HP.out HQ.out HR.out)
      have ring1 : cmpI ((x + y) * z) (z * x + z * y) = 0 := cmpI_eq (by rw [Nat.mul_comm, Nat.mul_add])
      have ring2 : cmpI (x + y + z) (x + (z + y)) = 0 := cmpI_eq (by omega)
      have ring3 : cmpI (x * y * z) (x * (z * y)) = 0 := cmpI_eq (by rw [Nat.mul_assoc, Nat.mul_comm y z])
      refine wp_region_sched (fun w' => w'.cell? ⟨w2.heap.size, 0, none⟩ = some (.slice adp lp cp) ∧ w'.cell? ⟨w2.heap.size + 1, 0, none⟩ = some (.slice adq lq cq) ∧ w'.cell? ⟨w3.heap.size, 0, none⟩ = some (.slice adr lr cr) ∧ Below X.heap.size X w') [(0, true), (1, true), (3, true), (5, true), (6, true), (8, true), (9, true), (2, false), (4, false), (7, false), (10, false), (11, false), (12, false), (13, true), (14, true), (15, true), (16, true), (18, true), (20, true), (21, true), (22, true), (17, false), (19, false), (23, false), (24, false), (25, false), (26, true), (27, true), (28, true), (29, true), (30, true), (32, true), (34, true), (35, true), (36, true), (31, false), (33, false), (37, false), (38, false), (39, false), (40, true), (41, true), (42, true)] (by kernel_rfl) (by kernel_rfl) ?_ (fun hHeld => ?_)
      · (try dsimp only)
        exact ⟨he0, he1, he2, (Below.refl _ _).drew⟩
      try dsimp only at hHeld
      repeat (refine wpSched_at (by simp only [List.getElem?_toArray, List.getElem?_cons_zero, List.getElem?_cons_succ]; rfl) ?_; (first | (apply wpAt_take rfl; (intro wx hSx; (try dsimp only at hSx); go_simp; (try with_reducible rfl)); simp only [Act.put, List.setIfInBounds_toArray, List.set_cons_zero, List.set_cons_succ]) | (refine wpAt_skip rfl ?_; simp only [Act.put, List.setIfInBounds_toArray, List.set_cons_zero, List.set_cons_succ]) | (refine wpAt_pass rfl hHeld ?_; simp only [Act.put, List.setIfInBounds_toArray, List.set_cons_zero, List.set_cons_succ]) | (refine wpAt_eff rfl (fun K hK => ?_); go_simp; (first | (go_at_call 33; (with_reducible refine (add_any (.agg #[.slice adp lp cp]) (.agg #[.slice adq lq cq]) (x) (y) 200 _ ?_ ?_ ?_ ?_ (by decide)).mono ?_); exact (HXp.out.below hHeld.2.2.2); exact (HXq.out.below hHeld.2.2.2); exact lt_pw_mono HP.out (by decide); exact lt_pw_mono HQ.out (by decide); rintro e w' ⟨va1, rfl, hn, hb⟩; (try replace NA1 := Lib.hid (NA1.out.below hb)); (try replace NM1 := Lib.hid (NM1.out.below hb)); (try replace NM2 := Lib.hid (NM2.out.below hb)); (try replace NM3 := Lib.hid (NM3.out.below hb)); (try replace NA2 := Lib.hid (NA2.out.below hb)); (try replace NA3 := Lib.hid (NA3.out.below hb)); (try replace NA4 := Lib.hid (NA4.out.below hb)); (try replace NA5 := Lib.hid (NA5.out.below hb)); (try replace NM4 := Lib.hid (NM4.out.below hb)); (try replace NM5 := Lib.hid (NM5.out.below hb)); (try replace NM6 := Lib.hid (NM6.out.below hb)); (try replace NM7 := Lib.hid (NM7.out.below hb)); have NA1 := Lib.hid hn; have hS := held3_step hB0 hB1 hB2 hHeld hb; clear hb hn) | (go_at_call 35; (with_reducible refine (mul_any va1 (.agg #[.slice adr lr cr]) (x + y) (z) 200 _ ?_ ?_ ?_ ?_ (by decide)).mono ?_); exact NA1.out; exact (HXr.out.below hHeld.2.2.2); exact HBD.out.1; exact lt_pw_mono HR.out (by decide); rintro e w' ⟨vm1, rfl, hn, hb⟩; (try replace NA1 := Lib.hid (NA1.out.below hb)); (try replace NM1 := Lib.hid (NM1.out.below hb)); (try replace NM2 := Lib.hid (NM2.out.below hb)); (try replace NM3 := Lib.hid (NM3.out.below hb)); (try replace NA2 := Lib.hid (NA2.out.below hb)); (try replace NA3 := Lib.hid (NA3.out.below hb)); (try replace NA4 := Lib.hid (NA4.out.below hb)); (try replace NA5 := Lib.hid (NA5.out.below hb)); (try replace NM4 := Lib.hid (NM4.out.below hb)); (try replace NM5 := Lib.hid (NM5.out.below hb)); (try replace NM6 := Lib.hid (NM6.out.below hb)); (try replace NM7 := Lib.hid (NM7.out.below hb)); have NM1 := Lib.hid hn; have hS := held3_step hB0 hB1 hB2 hHeld hb; clear hb hn) | (go_at_call 35; (with_reducible refine (mul_any (.agg #[.slice adr lr cr]) (.agg #[.slice adp lp cp]) (z) (x) 200 _ ?_ ?_ ?_ ?_ (by decide)).mono ?_); exact (HXr.out.below hHeld.2.2.2); exact (HXp.out.below hHeld.2.2.2); exact lt_pw_mono HR.out (by decide); exact lt_pw_mono HP.out (by decide); rintro e w' ⟨vm2, rfl, hn, hb⟩; (try replace NA1 := Lib.hid (NA1.out.below hb)); (try replace NM1 := Lib.hid (NM1.out.below hb)); (try replace NM2 := Lib.hid (NM2.out.below hb)); (try replace NM3 := Lib.hid (NM3.out.below hb)); (try replace NA2 := Lib.hid (NA2.out.below hb)); (try replace NA3 := Lib.hid (NA3.out.below hb)); (try replace NA4 := Lib.hid (NA4.out.below hb)); (try replace NA5 := Lib.hid (NA5.out.below hb)); (try replace NM4 := Lib.hid (NM4.out.below hb)); (try replace NM5 := Lib.hid (NM5.out.below hb)); (try replace NM6 := Lib.hid (NM6.out.below hb)); (try replace NM7 := Lib.hid (NM7.out.below hb)); have NM2 := Lib.hid hn; have hS := held3_step hB0 hB1 hB2 hHeld hb; clear hb hn) | (go_at_call 35; (with_reducible refine (mul_any (.agg #[.slice adr lr cr]) (.agg #[.slice adq lq cq]) (z) (y) 200 _ ?_ ?_ ?_ ?_ (by decide)).mono ?_); exact (HXr.out.below hHeld.2.2.2); exact (HXq.out.below hHeld.2.2.2); exact lt_pw_mono HR.out (by decide); exact lt_pw_mono HQ.out (by decide); rintro e w' ⟨vm3, rfl, hn, hb⟩; (try replace NA1 := Lib.hid (NA1.out.below hb)); (try replace NM1 := Lib.hid (NM1.out.below hb)); (try replace NM2 := Lib.hid (NM2.out.below hb)); (try replace NM3 := Lib.hid (NM3.out.below hb)); (try replace NA2 := Lib.hid (NA2.out.below hb)); (try replace NA3 := Lib.hid (NA3.out.below hb)); (try replace NA4 := Lib.hid (NA4.out.below hb)); (try replace NA5 := Lib.hid (NA5.out.below hb)); (try replace NM4 := Lib.hid (NM4.out.below hb)); (try replace NM5 := Lib.hid (NM5.out.below hb)); (try replace NM6 := Lib.hid (NM6.out.below hb)); (try replace NM7 := Lib.hid (NM7.out.below hb)); have NM3 := Lib.hid hn; have hS := held3_step hB0 hB1 hB2 hHeld hb; clear hb hn) | (go_at_call 33; (with_reducible refine (add_any vm2 vm3 (z * x) (z * y) 200 _ ?_ ?_ ?_ ?_ (by decide)).mono ?_); exact NM2.out; exact NM3.out; exact HBD.out.2.2.1; exact HBD.out.2.2.2.1; rintro e w' ⟨va2, rfl, hn, hb⟩; (try replace NA1 := Lib.hid (NA1.out.below hb)); (try replace NM1 := Lib.hid (NM1.out.below hb)); (try replace NM2 := Lib.hid (NM2.out.below hb)); (try replace NM3 := Lib.hid (NM3.out.below hb)); (try replace NA2 := Lib.hid (NA2.out.below hb)); (try replace NA3 := Lib.hid (NA3.out.below hb)); (try replace NA4 := Lib.hid (NA4.out.below hb)); (try replace NA5 := Lib.hid (NA5.out.below hb)); (try replace NM4 := Lib.hid (NM4.out.below hb)); (try replace NM5 := Lib.hid (NM5.out.below hb)); (try replace NM6 := Lib.hid (NM6.out.below hb)); (try replace NM7 := Lib.hid (NM7.out.below hb)); have NA2 := Lib.hid hn; have hS := held3_step hB0 hB1 hB2 hHeld hb; clear hb hn) | (go_at_call 31; (with_reducible refine (cmp_any vm1 va2 ((x + y) * z) (z * x + z * y) 200 _ ?_ ?_ ?_ ?_ (by decide)).mono ?_); exact NM1.out; exact NA2.out; exact HBD.out.2.1; exact HBD.out.2.2.2.2.1; rintro e w' ⟨rfl, hb⟩; rw [ring1]; (try replace NA1 := Lib.hid (NA1.out.below hb)); (try replace NM1 := Lib.hid (NM1.out.below hb)); (try replace NM2 := Lib.hid (NM2.out.below hb)); (try replace NM3 := Lib.hid (NM3.out.below hb)); (try replace NA2 := Lib.hid (NA2.out.below hb)); (try replace NA3 := Lib.hid (NA3.out.below hb)); (try replace NA4 := Lib.hid (NA4.out.below hb)); (try replace NA5 := Lib.hid (NA5.out.below hb)); (try replace NM4 := Lib.hid (NM4.out.below hb)); (try replace NM5 := Lib.hid (NM5.out.below hb)); (try replace NM6 := Lib.hid (NM6.out.below hb)); (try replace NM7 := Lib.hid (NM7.out.below hb)); have hS := held3_step hB0 hB1 hB2 hHeld hb; clear hb) | (go_at_call 33; (with_reducible refine (add_any va1 (.agg #[.slice adr lr cr]) (x + y) (z) 200 _ ?_ ?_ ?_ ?_ (by decide)).mono ?_); exact NA1.out; exact (HXr.out.below hHeld.2.2.2); exact HBD.out.1; exact lt_pw_mono HR.out (by decide); rintro e w' ⟨va3, rfl, hn, hb⟩; (try replace NA1 := Lib.hid (NA1.out.below hb)); (try replace NM1 := Lib.hid (NM1.out.below hb)); (try replace NM2 := Lib.hid (NM2.out.below hb)); (try replace NM3 := Lib.hid (NM3.out.below hb)); (try replace NA2 := Lib.hid (NA2.out.below hb)); (try replace NA3 := Lib.hid (NA3.out.below hb)); (try replace NA4 := Lib.hid (NA4.out.below hb)); (try replace NA5 := Lib.hid (NA5.out.below hb)); (try replace NM4 := Lib.hid (NM4.out.below hb)); (try replace NM5 := Lib.hid (NM5.out.below hb)); (try replace NM6 := Lib.hid (NM6.out.below hb)); (try replace NM7 := Lib.hid (NM7.out.below hb)); have NA3 := Lib.hid hn; have hS := held3_step hB0 hB1 hB2 hHeld hb; clear hb hn) | (go_at_call 33; (with_reducible refine (add_any (.agg #[.slice adr lr cr]) (.agg #[.slice adq lq cq]) (z) (y) 200 _ ?_ ?_ ?_ ?_ (by decide)).mono ?_); exact (HXr.out.below hHeld.2.2.2); exact (HXq.out.below hHeld.2.2.2); exact lt_pw_mono HR.out (by decide); exact lt_pw_mono HQ.out (by decide); rintro e w' ⟨va4, rfl, hn, hb⟩; (try replace NA1 := Lib.hid (NA1.out.below hb)); (try replace NM1 := Lib.hid (NM1.out.below hb)); (try replace NM2 := Lib.hid (NM2.out.below hb)); (try replace NM3 := Lib.hid (NM3.out.below hb)); (try replace NA2 := Lib.hid (NA2.out.below hb)); (try replace NA3 := Lib.hid (NA3.out.below hb)); (try replace NA4 := Lib.hid (NA4.out.below hb)); (try replace NA5 := Lib.hid (NA5.out.below hb)); (try replace NM4 := Lib.hid (NM4.out.below hb)); (try replace NM5 := Lib.hid (NM5.out.below hb)); (try replace NM6 := Lib.hid (NM6.out.below hb)); (try replace NM7 := Lib.hid (NM7.out.below hb)); have NA4 := Lib.hid hn; have hS := held3_step hB0 hB1 hB2 hHeld hb; clear hb hn) | (go_at_call 33; (with_reducible refine (add_any (.agg #[.slice adp lp cp]) va4 (x) (z + y) 200 _ ?_ ?_ ?_ ?_ (by decide)).mono ?_); exact (HXp.out.below hHeld.2.2.2); exact NA4.out; exact lt_pw_mono HP.out (by decide); exact HBD.out.2.2.2.2.2.2.1; rintro e w' ⟨va5, rfl, hn, hb⟩; (try replace NA1 := Lib.hid (NA1.out.below hb)); (try replace NM1 := Lib.hid (NM1.out.below hb)); (try replace NM2 := Lib.hid (NM2.out.below hb)); (try replace NM3 := Lib.hid (NM3.out.below hb)); (try replace NA2 := Lib.hid (NA2.out.below hb)); (try replace NA3 := Lib.hid (NA3.out.below hb)); (try replace NA4 := Lib.hid (NA4.out.below hb)); (try replace NA5 := Lib.hid (NA5.out.below hb)); (try replace NM4 := Lib.hid (NM4.out.below hb)); (try replace NM5 := Lib.hid (NM5.out.below hb)); (try replace NM6 := Lib.hid (NM6.out.below hb)); (try replace NM7 := Lib.hid (NM7.out.below hb)); have NA5 := Lib.hid hn; have hS := held3_step hB0 hB1 hB2 hHeld hb; clear hb hn) | (go_at_call 31; (with_reducible refine (cmp_any va3 va5 (x + y + z) (x + (z + y)) 200 _ ?_ ?_ ?_ ?_ (by decide)).mono ?_); exact NA3.out; exact NA5.out; exact HBD.out.2.2.2.2.2.1; exact HBD.out.2.2.2.2.2.2.2.1; rintro e w' ⟨rfl, hb⟩; rw [ring2]; (try replace NA1 := Lib.hid (NA1.out.below hb)); (try replace NM1 := Lib.hid (NM1.out.below hb)); (try replace NM2 := Lib.hid (NM2.out.below hb)); (try replace NM3 := Lib.hid (NM3.out.below hb)); (try replace NA2 := Lib.hid (NA2.out.below hb)); (try replace NA3 := Lib.hid (NA3.out.below hb)); (try replace NA4 := Lib.hid (NA4.out.below hb)); (try replace NA5 := Lib.hid (NA5.out.below hb)); (try replace NM4 := Lib.hid (NM4.out.below hb)); (try replace NM5 := Lib.hid (NM5.out.below hb)); (try replace NM6 := Lib.hid (NM6.out.below hb)); (try replace NM7 := Lib.hid (NM7.out.below hb)); have hS := held3_step hB0 hB1 hB2 hHeld hb; clear hb) | (go_at_call 35; (with_reducible refine (mul_any (.agg #[.slice adp lp cp]) (.agg #[.slice adq lq cq]) (x) (y) 200 _ ?_ ?_ ?_ ?_ (by decide)).mono ?_); exact (HXp.out.below hHeld.2.2.2); exact (HXq.out.below hHeld.2.2.2); exact lt_pw_mono HP.out (by decide); exact lt_pw_mono HQ.out (by decide); rintro e w' ⟨vm4, rfl, hn, hb⟩; (try replace NA1 := Lib.hid (NA1.out.below hb)); (try replace NM1 := Lib.hid (NM1.out.below hb)); (try replace NM2 := Lib.hid (NM2.out.below hb)); (try replace NM3 := Lib.hid (NM3.out.below hb)); (try replace NA2 := Lib.hid (NA2.out.below hb)); (try replace NA3 := Lib.hid (NA3.out.below hb)); (try replace NA4 := Lib.hid (NA4.out.below hb)); (try replace NA5 := Lib.hid (NA5.out.below hb)); (try replace NM4 := Lib.hid (NM4.out.below hb)); (try replace NM5 := Lib.hid (NM5.out.below hb)); (try replace NM6 := Lib.hid (NM6.out.below hb)); (try replace NM7 := Lib.hid (NM7.out.below hb)); have NM4 := Lib.hid hn; have hS := held3_step hB0 hB1 hB2 hHeld hb; clear hb hn) | (go_at_call 35; (with_reducible refine (mul_any vm4 (.agg #[.slice adr lr cr]) (x * y) (z) 200 _ ?_ ?_ ?_ ?_ (by decide)).mono ?_); exact NM4.out; exact (HXr.out.below hHeld.2.2.2); exact HBD.out.2.2.2.2.2.2.2.2.1; exact lt_pw_mono HR.out (by decide); rintro e w' ⟨vm5, rfl, hn, hb⟩; (try replace NA1 := Lib.hid (NA1.out.below hb)); (try replace NM1 := Lib.hid (NM1.out.below hb)); (try replace NM2 := Lib.hid (NM2.out.below hb)); (try replace NM3 := Lib.hid (NM3.out.below hb)); (try replace NA2 := Lib.hid (NA2.out.below hb)); (try replace NA3 := Lib.hid (NA3.out.below hb)); (try replace NA4 := Lib.hid (NA4.out.below hb)); (try replace NA5 := Lib.hid (NA5.out.below hb)); (try replace NM4 := Lib.hid (NM4.out.below hb)); (try replace NM5 := Lib.hid (NM5.out.below hb)); (try replace NM6 := Lib.hid (NM6.out.below hb)); (try replace NM7 := Lib.hid (NM7.out.below hb)); have NM5 := Lib.hid hn; have hS := held3_step hB0 hB1 hB2 hHeld hb; clear hb hn) | (go_at_call 35; (with_reducible refine (mul_any (.agg #[.slice adp lp cp]) vm3 (x) (z * y) 200 _ ?_ ?_ ?_ ?_ (by decide)).mono ?_); exact (HXp.out.below hHeld.2.2.2); exact NM3.out; exact lt_pw_mono HP.out (by decide); exact HBD.out.2.2.2.1; rintro e w' ⟨vm7, rfl, hn, hb⟩; (try replace NA1 := Lib.hid (NA1.out.below hb)); (try replace NM1 := Lib.hid (NM1.out.below hb)); (try replace NM2 := Lib.hid (NM2.out.below hb)); (try replace NM3 := Lib.hid (NM3.out.below hb)); (try replace NA2 := Lib.hid (NA2.out.below hb)); (try replace NA3 := Lib.hid (NA3.out.below hb)); (try replace NA4 := Lib.hid (NA4.out.below hb)); (try replace NA5 := Lib.hid (NA5.out.below hb)); (try replace NM4 := Lib.hid (NM4.out.below hb)); (try replace NM5 := Lib.hid (NM5.out.below hb)); (try replace NM6 := Lib.hid (NM6.out.below hb)); (try replace NM7 := Lib.hid (NM7.out.below hb)); have NM7 := Lib.hid hn; have hS := held3_step hB0 hB1 hB2 hHeld hb; clear hb hn) | (go_at_call 31; (with_reducible refine (cmp_any vm5 vm7 (x * y * z) (x * (z * y)) 200 _ ?_ ?_ ?_ ?_ (by decide)).mono ?_); exact NM5.out; exact NM7.out; exact HBD.out.2.2.2.2.2.2.2.2.2.1; exact HBD.out.2.2.2.2.2.2.2.2.2.2; rintro e w' ⟨rfl, hb⟩; rw [ring3]; (try replace NA1 := Lib.hid (NA1.out.below hb)); (try replace NM1 := Lib.hid (NM1.out.below hb)); (try replace NM2 := Lib.hid (NM2.out.below hb)); (try replace NM3 := Lib.hid (NM3.out.below hb)); (try replace NA2 := Lib.hid (NA2.out.below hb)); (try replace NA3 := Lib.hid (NA3.out.below hb)); (try replace NA4 := Lib.hid (NA4.out.below hb)); (try replace NA5 := Lib.hid (NA5.out.below hb)); (try replace NM4 := Lib.hid (NM4.out.below hb)); (try replace NM5 := Lib.hid (NM5.out.below hb)); (try replace NM6 := Lib.hid (NM6.out.below hb)); (try replace NM7 := Lib.hid (NM7.out.below hb)); have hS := held3_step hB0 hB1 hB2 hHeld hb; clear hb)); (refine hK.out _ _ ?_ (fun hHeld => ?_)); ((try dsimp only); exact hS); clear hK K; (try clear hS); (try dsimp only at hHeld))))
      refine wpSched_nil ?_
      have HE := Lib.hid hHeld.2.2.2
      clear hHeld
      go_wp2_with fail
      go_ret
      exact ⟨rfl, bel_on HXB.out HE.out⟩
    · have HE := Lib.hid (bel_on (bel_on HB2.out HBW.out) hb3)
      clear hno hb3 hc0 hc1
      go_wp2_with fail
      go_ret
      exact ⟨rfl, bel_on HE.out (bel_alloc2 _ _ _)⟩
  · have HB2 := Lib.hid (bel_on HB1.out hb2)
    clear hno hb2 HB1
    go_wp2_with fail
    refine (pair_any c _ _).mono ?_
    rintro e w3 (⟨hok, r, q', xv, yv, rfl, hr, hq, hx, hy, hb3⟩ | ⟨hno, rfl, hb3⟩)
    · obtain ⟨adr, lr, cr, xsr, rfl, rr⟩ := hr.shape
      obtain ⟨adq', lq', cq', xsq', rfl, rq⟩ := hq.shape
      obtain ⟨adx', lx', cx', xsx', rfl, rx⟩ := hx.shape
      obtain ⟨ady', ly', cy', xsy', rfl, ry⟩ := hy.shape
      have HE := Lib.hid (bel_on (bel_on HB2.out (bel_alloc2 _ _ _)) hb3)
      clear hok hr hq hx hy hb3 rr rq rx ry
      go_wp2_with fail
      go_ret
      exact ⟨rfl, bel_on HE.out (bel_alloc2 _ _ _)⟩
    · have HE := Lib.hid (bel_on (bel_on HB2.out (bel_alloc2 _ _ _)) hb3)
      clear hno hb3
      go_wp2_with fail
      go_ret
      exact ⟨rfl, bel_on HE.out (bel_alloc2 _ _ _)⟩

end Go.Proofs.YtkcaaicpjcmdbaaDoor
