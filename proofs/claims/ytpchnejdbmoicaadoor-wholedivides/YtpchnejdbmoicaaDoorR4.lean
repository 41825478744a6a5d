/- The contract of the document's DivInt; whole's Div by 0. -/
import Derived.Test.YtpchnejdbmoicaaDoorR3
import Derived.Test.YtpchnejdbmoicaaDoorJ1
import Derived.Test.YtpchnejdbmoicaaDoorI6
import Derived.Test.YtpchnejdbmoicaaDoorG5
namespace Go.Proofs.YtpchnejdbmoicaaDoor
open Go.RowKit Cin

set_option maxRecDepth 100000 in
set_option maxHeartbeats 4000000 in
/-- DivInt. -/
theorem rdivInt_any (v u : Value) (x y : Int) (k j : Nat) (w : World) (h : IntB 68 w v x k) (h' : IntB 68 w u y j) (hk : k ≤ 15000) (hj : j ≤ 15000) (hy : y ≠ 0) :
    Calls Tryd.prog 37 #[v, u] w fun e w' => ∃ v' u', e = .returned (.tuple #[v', u']) ∧ IntB 68 w' v' (divQ x y) (k + 2) ∧ IntB 68 w' u' (divR x y) j ∧ Below w.heap.size w w' := by
  obtain ⟨ad, len, cap, rfl, hr⟩ := h.shape
  obtain ⟨ad', len', cap', rfl, hr'⟩ := h'.shape
  have H := Lib.hid (refB_part h)
  have H' := Lib.hid (refB_part h')
  clear h hr h' hr'
  have HM := Lib.hid (Nat.mod_lt x.natAbs (show 0 < y.natAbs by omega))
  have HQV := Lib.hid (show divQ x y = qF (!(decide (x < 0) == decide (y < 0))) (x.natAbs / y.natAbs) (x.natAbs % y.natAbs) from rfl)
  have HRV := Lib.hid (show divR x y = rF (!(decide (x < 0) == decide (y < 0))) (decide (y < 0)) (x.natAbs % y.natAbs) y.natAbs from rfl)
  generalize divQ x y = dq at *
  generalize divR x y = dr at *
  generalize decide (x < 0) = bx at *
  generalize decide (y < 0) = bz at *
  have hy0 : y.natAbs ≠ 0 := by omega
  generalize hyn : y.natAbs = yn at *
  generalize hxn : x.natAbs = xn at *
  generalize hqn : xn / yn = q at *
  generalize hrn : xn % yn = r at *
  clear hyn hxn
  go_enter Tryd.func37, Tryd.ntmps37
  go_wp2_with fail
  refine (rdiv_any _ _ xn yn k j _ (H.out.below (bel_alloc4 _ _ _ _ _)) (H'.out.below (bel_alloc4 _ _ _ _ _)) (by omega) (by omega) hy0).mono ?_
  rintro e w1 ⟨v1, u1, rfl, hn1, hm1, hb1⟩
  rw [hrn] at hm1
  rw [hqn] at hn1
  clear hrn hqn
  obtain ⟨adq, lq, cq, _, rfl, _⟩ := hn1.1.shape
  obtain ⟨adr, lr, cr, _, rfl, _⟩ := hm1.1.shape
  have hlr := refB_len hm1
  have hh := (heldN4 (w := w) (c0 := #[Value.bool bx, Value.slice ad len cap]) (t0 := 53) (c1 := #[Value.bool bz, Value.slice ad' len' cap']) (t1 := 53) (c2 := #[Value.bool false, Value.slice none 0 0]) (t2 := 53) (c3 := #[Value.bool false, Value.slice none 0 0]) (t3 := 53)).below hb1
  have hca := cell0 hh.1
  have hcb0 := cell0 hh.2.1
  have hcb1 := cell1 hh.2.1
  have HS2 := Lib.hid (Slot.of (n := 2) hh.2.2.1 rfl)
  have HS3 := Lib.hid (Slot.of (n := 2) hh.2.2.2.1 rfl)
  have HBX := Lib.hid (bel_on (bel_alloc4 w (Obj.cells #[Value.bool bx, Value.slice ad len cap] 53) (Obj.cells #[Value.bool bz, Value.slice ad' len' cap'] 53) (Obj.cells #[Value.bool false, Value.slice none 0 0] 53) (Obj.cells #[Value.bool false, Value.slice none 0 0] 53)) hb1)
  have HN := Lib.hid hn1
  have HR := Lib.hid hm1
  clear hn1 hm1 hb1 hh
  by_cases hun : (bx == bz) = true
  · have hun' : (!(bx == bz)) = false := by rw [hun]; rfl
    have HQV2 := Lib.hid (show dq = sg false q by have := HQV.out; rw [hun'] at this; simpa [qF] using this)
    have HRV2 := Lib.hid (show dr = sg bz r by have := HRV.out; rw [hun'] at this; simpa [rF] using this)
    clear HQV HRV hlr
    go_wp2_with fail
    clear hun hun' hca hcb1
    have HQX := Lib.hid (HN.out.below (Below.refl _ w1).drew)
    have HRX := Lib.hid (HR.out.below (Below.refl _ w1).drew)
    refine wp_region_sched (fun w' => w'.cell? ⟨w.heap.size + 1, 0, none⟩ = some (.bool bz) ∧ Slot w' (w.heap.size + 1 + 1) 53 2 ∧ Slot w' (w.heap.size + 1 + 1 + 1) 53 2 ∧ Below w.heap.size w w') [(0, true), (2, true), (3, true), (4, true), (1, false), (5, false), (6, false), (7, false)] (by kernel_rfl) (by kernel_rfl) ?_ (fun hHeld => ?_)
    · (try dsimp only)
      exact ⟨hcb0, HS2.out.drew, HS3.out.drew, HBX.out.drew⟩
    try dsimp only at hHeld
    repeat (refine wpSched_at (by simp only [List.getElem?_toArray, List.getElem?_cons_zero, List.getElem?_cons_succ]; rfl) ?_; (first | (apply wpAt_take rfl; (intro wx hSx; (try dsimp only at hSx); go_simp; (try with_reducible rfl)); simp only [Act.put, List.setIfInBounds_toArray, List.set_cons_zero, List.set_cons_succ]) | (refine wpAt_skip rfl ?_; simp only [Act.put, List.setIfInBounds_toArray, List.set_cons_zero, List.set_cons_succ]) | (refine wpAt_pass rfl hHeld ?_; simp only [Act.put, List.setIfInBounds_toArray, List.set_cons_zero, List.set_cons_succ]) | (refine wpAt_eff rfl (fun K hK => ?_); ((obtain ⟨x0, y0, hx0, hy0, hfx0, hfy0⟩ := hHeld.2.1.two); (try simp only [cell_drew, frozen_drew] at hx0 hy0 hfx0 hfy0); (obtain ⟨x1, y1, hx1, hy1, hfx1, hfy1⟩ := hHeld.2.2.1.two); (try simp only [cell_drew, frozen_drew] at hx1 hy1 hfx1 hfy1)); go_simp; (first | (go_at_call 81; (with_reducible refine (rfrom_any false (.slice adq lq cq) q k _ ?_).mono ?_); (exact HQX.out); rintro e w' ⟨vQ, rfl, hn, hb⟩; (try replace NQ := Lib.hid (NQ.out.below hb)); (try replace HQX := Lib.hid (HQX.out.below hb)); (try replace HRX := Lib.hid (HRX.out.below hb)); have NQ := Lib.hid hn; obtain ⟨bbQ, adQ, lenQ, capQ, rfl, hrQ⟩ := NQ.out.shape2; have hS := And.intro trivial (And.intro (cell_below hHeld.1 hb) (And.intro (hHeld.2.1.below hb) (And.intro (hHeld.2.2.1.below hb) (bel_on hHeld.2.2.2 hb)))); clear hb hHeld hn) | (go_at_call 81; (with_reducible refine (rfrom_any bz (.slice adr lr cr) r j _ ?_).mono ?_); (exact HRX.out); rintro e w' ⟨vR, rfl, hn, hb⟩; (try replace NQ := Lib.hid (NQ.out.below hb)); (try replace HQX := Lib.hid (HQX.out.below hb)); (try replace HRX := Lib.hid (HRX.out.below hb)); have NR := Lib.hid hn; obtain ⟨bbR, adR, lenR, capR, rfl, hrR⟩ := NR.out.shape2; have hS := And.intro trivial (And.intro (cell_below hHeld.1 hb) (And.intro (hHeld.2.1.below hb) (And.intro (hHeld.2.2.1.below hb) (bel_on hHeld.2.2.2 hb)))); clear hb hHeld hn) | (try simp only [cell_drew, slot_drew, below_drew] at hHeld)); (refine hK.out _ _ ?_ (fun hHeld => ?_)); ((try dsimp only); ((try simp only [cell_drew, slot_drew, below_drew]); refine ⟨?_, ?_, ?_, ?_⟩; (first | exact hS.2.1 | with_reducible exact cell_set hHeld.1 (by omega) | with_reducible exact cell_set (cell_set hHeld.1 (by omega)) (by omega)); (first | exact hS.2.2.1 | with_reducible exact hHeld.2.1.set _ _ _ | with_reducible exact (hHeld.2.1.set _ _ _).set _ _ _); (first | exact hS.2.2.2.1 | with_reducible exact hHeld.2.2.1.set _ _ _ | with_reducible exact (hHeld.2.2.1.set _ _ _).set _ _ _); (first | exact hS.2.2.2.2 | with_reducible exact bel_set1 hHeld.2.2.2 (by omega) | with_reducible exact bel_set2 hHeld.2.2.2 (by omega) (by omega)))); clear hK K; (try clear hS); (try clear hfx0 hx0 x0); (try clear hfy0 hy0 y0); (try clear hfx1 hx1 x1); (try clear hfy1 hy1 y1); (try dsimp only at hHeld))))
    refine wpSched_nil ?_
    rename_i hOld _
    have HF := Lib.hid (fin_int2 NQ.out NR.out hOld.2.1 hOld.2.2.1 (by decide) (by decide) hOld.2.2.2 (by omega) (by omega) (by omega) rfl)
    clear hHeld hOld
    go_wp2_with fail
    refine bodyPost_ret (v := .tuple #[.agg #[.bool bbQ, .slice adQ lenQ capQ], .agg #[.bool bbR, .slice adR lenR capR]]) (by simp [results, Tryd.results37, go_sem, HF.out.2.2.2.1, HF.out.2.2.2.2.1, HF.out.2.2.2.2.2.1, HF.out.2.2.2.2.2.2]) rfl ⟨_, _, rfl, ?_, ?_, HF.out.2.2.1⟩
    · rw [HQV2.out]; exact HF.out.1.mono (by omega)
    · rw [HRV2.out]; exact HF.out.2.1
  · have hun' : (bx == bz) = false := by simpa using hun
    have hunb : (!(bx == bz)) = true := by rw [hun']; rfl
    by_cases hr0 : r = 0
    · have hr0' : decide (r = 0) = true := decide_eq_true hr0
      have HQV2 := Lib.hid (show dq = sg true q by have := HQV.out; unfold qF at this; rw [hunb, hr0'] at this; simpa using this)
      have HRV2 := Lib.hid (show dr = sg bz r by have := HRV.out; unfold rF at this; rw [hunb, hr0'] at this; simpa using this)
      obtain rfl : lr = 0 := hlr.2 hr0
      clear HQV HRV hlr hr0'
      go_wp2_with fail
      clear hun hun' hunb hca hcb1
      have HQX := Lib.hid (HN.out.below (Below.refl _ w1).drew)
      have HRX := Lib.hid (HR.out.below (Below.refl _ w1).drew)
      refine wp_region_sched (fun w' => w'.cell? ⟨w.heap.size + 1, 0, none⟩ = some (.bool bz) ∧ Slot w' (w.heap.size + 1 + 1) 53 2 ∧ Slot w' (w.heap.size + 1 + 1 + 1) 53 2 ∧ Below w.heap.size w w') [(0, true), (2, true), (3, true), (4, true), (1, false), (5, false), (6, false), (7, false)] (by kernel_rfl) (by kernel_rfl) ?_ (fun hHeld => ?_)
      · (try dsimp only)
        exact ⟨hcb0, HS2.out.drew, HS3.out.drew, HBX.out.drew⟩
      try dsimp only at hHeld
      repeat (refine wpSched_at (by simp only [List.getElem?_toArray, List.getElem?_cons_zero, List.getElem?_cons_succ]; rfl) ?_; (first | (apply wpAt_take rfl; (intro wx hSx; (try dsimp only at hSx); go_simp; (try with_reducible rfl)); simp only [Act.put, List.setIfInBounds_toArray, List.set_cons_zero, List.set_cons_succ]) | (refine wpAt_skip rfl ?_; simp only [Act.put, List.setIfInBounds_toArray, List.set_cons_zero, List.set_cons_succ]) | (refine wpAt_pass rfl hHeld ?_; simp only [Act.put, List.setIfInBounds_toArray, List.set_cons_zero, List.set_cons_succ]) | (refine wpAt_eff rfl (fun K hK => ?_); ((obtain ⟨x0, y0, hx0, hy0, hfx0, hfy0⟩ := hHeld.2.1.two); (try simp only [cell_drew, frozen_drew] at hx0 hy0 hfx0 hfy0); (obtain ⟨x1, y1, hx1, hy1, hfx1, hfy1⟩ := hHeld.2.2.1.two); (try simp only [cell_drew, frozen_drew] at hx1 hy1 hfx1 hfy1)); go_simp; (first | (go_at_call 81; (with_reducible refine (rfrom_any true (.slice adq lq cq) q k _ ?_).mono ?_); (exact HQX.out); rintro e w' ⟨vQ, rfl, hn, hb⟩; (try replace NQ := Lib.hid (NQ.out.below hb)); (try replace HQX := Lib.hid (HQX.out.below hb)); (try replace HRX := Lib.hid (HRX.out.below hb)); have NQ := Lib.hid hn; obtain ⟨bbQ, adQ, lenQ, capQ, rfl, hrQ⟩ := NQ.out.shape2; have hS := And.intro trivial (And.intro (cell_below hHeld.1 hb) (And.intro (hHeld.2.1.below hb) (And.intro (hHeld.2.2.1.below hb) (bel_on hHeld.2.2.2 hb)))); clear hb hHeld hn) | (go_at_call 81; (with_reducible refine (rfrom_any bz (.slice adr 0 cr) r j _ ?_).mono ?_); (exact HRX.out); rintro e w' ⟨vR, rfl, hn, hb⟩; (try replace NQ := Lib.hid (NQ.out.below hb)); (try replace HQX := Lib.hid (HQX.out.below hb)); (try replace HRX := Lib.hid (HRX.out.below hb)); have NR := Lib.hid hn; obtain ⟨bbR, adR, lenR, capR, rfl, hrR⟩ := NR.out.shape2; have hS := And.intro trivial (And.intro (cell_below hHeld.1 hb) (And.intro (hHeld.2.1.below hb) (And.intro (hHeld.2.2.1.below hb) (bel_on hHeld.2.2.2 hb)))); clear hb hHeld hn) | (try simp only [cell_drew, slot_drew, below_drew] at hHeld)); (refine hK.out _ _ ?_ (fun hHeld => ?_)); ((try dsimp only); ((try simp only [cell_drew, slot_drew, below_drew]); refine ⟨?_, ?_, ?_, ?_⟩; (first | exact hS.2.1 | with_reducible exact cell_set hHeld.1 (by omega) | with_reducible exact cell_set (cell_set hHeld.1 (by omega)) (by omega)); (first | exact hS.2.2.1 | with_reducible exact hHeld.2.1.set _ _ _ | with_reducible exact (hHeld.2.1.set _ _ _).set _ _ _); (first | exact hS.2.2.2.1 | with_reducible exact hHeld.2.2.1.set _ _ _ | with_reducible exact (hHeld.2.2.1.set _ _ _).set _ _ _); (first | exact hS.2.2.2.2 | with_reducible exact bel_set1 hHeld.2.2.2 (by omega) | with_reducible exact bel_set2 hHeld.2.2.2 (by omega) (by omega)))); clear hK K; (try clear hS); (try clear hfx0 hx0 x0); (try clear hfy0 hy0 y0); (try clear hfx1 hx1 x1); (try clear hfy1 hy1 y1); (try dsimp only at hHeld))))
      refine wpSched_nil ?_
      rename_i hOld _
      have HF := Lib.hid (fin_int2 NQ.out NR.out hOld.2.1 hOld.2.2.1 (by decide) (by decide) hOld.2.2.2 (by omega) (by omega) (by omega) rfl)
      clear hHeld hOld
      go_wp2_with fail
      refine bodyPost_ret (v := .tuple #[.agg #[.bool bbQ, .slice adQ lenQ capQ], .agg #[.bool bbR, .slice adR lenR capR]]) (by simp [results, Tryd.results37, go_sem, HF.out.2.2.2.1, HF.out.2.2.2.2.1, HF.out.2.2.2.2.2.1, HF.out.2.2.2.2.2.2]) rfl ⟨_, _, rfl, ?_, ?_, HF.out.2.2.1⟩
      · rw [HQV2.out]; exact HF.out.1.mono (by omega)
      · rw [HRV2.out]; exact HF.out.2.1
    · have hr0' : decide (r = 0) = false := decide_eq_false hr0
      have HQV2 := Lib.hid (show dq = sg true (q + 1) by have := HQV.out; unfold qF at this; rw [hunb, hr0'] at this; simpa using this)
      have HRV2 := Lib.hid (show dr = sg bz (yn - r) by have := HRV.out; unfold rF at this; rw [hunb, hr0'] at this; simpa using this)
      have hl0 : 0 < lr := Nat.pos_of_ne_zero fun e => hr0 (hlr.1 e)
      clear HQV HRV hlr hr0'
      go_wp2_with fail
      clear hun hun' hunb hca
      have HQX := Lib.hid (HN.out.below (Below.refl _ w1).drew)
      have HRX := Lib.hid (HR.out.below (Below.refl _ w1).drew)
      have HYX := Lib.hid ((H'.out.below HBX.out).below (Below.refl _ w1).drew)
      refine wp_region_sched (fun w' => w'.cell? ⟨w.heap.size + 1, 0, none⟩ = some (.bool bz) ∧ w'.cell? ⟨w.heap.size + 1, 1, none⟩ = some (.slice ad' len' cap') ∧ Slot w' (w.heap.size + 1 + 1) 53 2 ∧ Slot w' (w.heap.size + 1 + 1 + 1) 53 2 ∧ Below w.heap.size w w') [(0, true), (3, true), (4, true), (5, true), (1, false), (2, false), (6, false), (7, true), (8, true)] (by kernel_rfl) (by kernel_rfl) ?_ (fun hHeld => ?_)
      · (try dsimp only)
        exact ⟨hcb0, hcb1, HS2.out.drew, HS3.out.drew, HBX.out.drew⟩
      try dsimp only at hHeld
      repeat (refine wpSched_at (by simp only [List.getElem?_toArray, List.getElem?_cons_zero, List.getElem?_cons_succ]; rfl) ?_; (first | (apply wpAt_take rfl; (intro wx hSx; (try dsimp only at hSx); go_simp; (try with_reducible rfl)); simp only [Act.put, List.setIfInBounds_toArray, List.set_cons_zero, List.set_cons_succ]) | (refine wpAt_skip rfl ?_; simp only [Act.put, List.setIfInBounds_toArray, List.set_cons_zero, List.set_cons_succ]) | (refine wpAt_pass rfl hHeld ?_; simp only [Act.put, List.setIfInBounds_toArray, List.set_cons_zero, List.set_cons_succ]) | (refine wpAt_eff rfl (fun K hK => ?_); ((obtain ⟨x0, y0, hx0, hy0, hfx0, hfy0⟩ := hHeld.2.2.1.two); (try simp only [cell_drew, frozen_drew] at hx0 hy0 hfx0 hfy0); (obtain ⟨x1, y1, hx1, hy1, hfx1, hfy1⟩ := hHeld.2.2.2.1.two); (try simp only [cell_drew, frozen_drew] at hx1 hy1 hfx1 hfy1)); go_simp; (first | (go_at_call 72; (with_reducible refine (rnatOf_one _).mono ?_); rintro e w' ⟨vo, rfl, hn, hb⟩; (try replace HQX := Lib.hid (HQX.out.below hb)); (try replace HRX := Lib.hid (HRX.out.below hb)); (try replace HYX := Lib.hid (HYX.out.below hb)); (try replace N1 := Lib.hid (N1.out.below hb)); (try replace NA := Lib.hid (NA.out.below hb)); have N1 := Lib.hid hn; have hS := And.intro trivial (And.intro (cell_below hHeld.1 hb) (And.intro (cell_below hHeld.2.1 hb) (And.intro (hHeld.2.2.1.below hb) (And.intro (hHeld.2.2.2.1.below hb) (bel_on hHeld.2.2.2.2 hb))))); clear hb hHeld hn) | (go_at_call 71; (with_reducible refine (raddB (.slice adq lq cq) vo q 1 k 1 _ ?_ ?_ (by omega) (by omega)).mono ?_); (exact HQX.out); (exact N1.out); rintro e w' ⟨va, rfl, hn, hb⟩; (try replace HQX := Lib.hid (HQX.out.below hb)); (try replace HRX := Lib.hid (HRX.out.below hb)); (try replace HYX := Lib.hid (HYX.out.below hb)); (try replace N1 := Lib.hid (N1.out.below hb)); (try replace NA := Lib.hid (NA.out.below hb)); have NA := Lib.hid hn; have hS := And.intro trivial (And.intro (cell_below hHeld.1 hb) (And.intro (cell_below hHeld.2.1 hb) (And.intro (hHeld.2.2.1.below hb) (And.intro (hHeld.2.2.2.1.below hb) (bel_on hHeld.2.2.2.2 hb))))); clear hb hHeld hn) | (go_at_call 70; (with_reducible refine (rsubB (.slice ad' len' cap') (.slice adr lr cr) yn r j j _ ?_ ?_ (by omega) (by omega) (by have := HM.out; omega)).mono ?_); (exact HYX.out); (exact HRX.out); rintro e w' ⟨vs, rfl, hn, hb⟩; (try replace HQX := Lib.hid (HQX.out.below hb)); (try replace HRX := Lib.hid (HRX.out.below hb)); (try replace HYX := Lib.hid (HYX.out.below hb)); (try replace N1 := Lib.hid (N1.out.below hb)); (try replace NA := Lib.hid (NA.out.below hb)); have NS := Lib.hid hn; have hS := And.intro trivial (And.intro (cell_below hHeld.1 hb) (And.intro (cell_below hHeld.2.1 hb) (And.intro (hHeld.2.2.1.below hb) (And.intro (hHeld.2.2.2.1.below hb) (bel_on hHeld.2.2.2.2 hb))))); clear hb hHeld hn) | (try simp only [cell_drew, slot_drew, below_drew] at hHeld)); (refine hK.out _ _ ?_ (fun hHeld => ?_)); ((try dsimp only); ((try simp only [cell_drew, slot_drew, below_drew]); refine ⟨?_, ?_, ?_, ?_, ?_⟩; (first | exact hS.2.1 | with_reducible exact cell_set hHeld.1 (by omega) | with_reducible exact cell_set (cell_set hHeld.1 (by omega)) (by omega)); (first | exact hS.2.2.1 | with_reducible exact cell_set hHeld.2.1 (by omega) | with_reducible exact cell_set (cell_set hHeld.2.1 (by omega)) (by omega)); (first | exact hS.2.2.2.1 | with_reducible exact hHeld.2.2.1.set _ _ _ | with_reducible exact (hHeld.2.2.1.set _ _ _).set _ _ _); (first | exact hS.2.2.2.2.1 | with_reducible exact hHeld.2.2.2.1.set _ _ _ | with_reducible exact (hHeld.2.2.2.1.set _ _ _).set _ _ _); (first | exact hS.2.2.2.2.2 | with_reducible exact bel_set1 hHeld.2.2.2.2 (by omega) | with_reducible exact bel_set2 hHeld.2.2.2.2 (by omega) (by omega)))); clear hK K; (try clear hS); (try clear hfx0 hx0 x0); (try clear hfy0 hy0 y0); (try clear hfx1 hx1 x1); (try clear hfy1 hy1 y1); (try dsimp only at hHeld))))
      refine wpSched_nil ?_
      have hcb0 := hHeld.1
      have HS2 := Lib.hid hHeld.2.2.1
      have HS3 := Lib.hid hHeld.2.2.2.1
      have HBX := Lib.hid hHeld.2.2.2.2
      clear hHeld hcb1
      rename_i wz _ _ _
      go_wp2_with fail
      have HQY := Lib.hid (NA.out.below (Below.refl _ _).drew)
      have HRY := Lib.hid (NS.out.below (Below.refl _ _).drew)
      refine wp_region_sched (fun w' => w'.cell? ⟨w.heap.size + 1, 0, none⟩ = some (.bool bz) ∧ Slot w' (w.heap.size + 1 + 1) 53 2 ∧ Slot w' (w.heap.size + 1 + 1 + 1) 53 2 ∧ Below w.heap.size w w') [(0, true), (2, true), (3, true), (4, true), (1, false), (5, false), (6, false), (7, false)] (by kernel_rfl) (by kernel_rfl) ?_ (fun hHeld => ?_)
      · (try dsimp only)
        exact ⟨hcb0, HS2.out.drew, HS3.out.drew, HBX.out.drew⟩
      try dsimp only at hHeld
      repeat (refine wpSched_at (by simp only [List.getElem?_toArray, List.getElem?_cons_zero, List.getElem?_cons_succ]; rfl) ?_; (first | (apply wpAt_take rfl; (intro wx hSx; (try dsimp only at hSx); go_simp; (try with_reducible rfl)); simp only [Act.put, List.setIfInBounds_toArray, List.set_cons_zero, List.set_cons_succ]) | (refine wpAt_skip rfl ?_; simp only [Act.put, List.setIfInBounds_toArray, List.set_cons_zero, List.set_cons_succ]) | (refine wpAt_pass rfl hHeld ?_; simp only [Act.put, List.setIfInBounds_toArray, List.set_cons_zero, List.set_cons_succ]) | (refine wpAt_eff rfl (fun K hK => ?_); ((obtain ⟨x0, y0, hx0, hy0, hfx0, hfy0⟩ := hHeld.2.1.two); (try simp only [cell_drew, frozen_drew] at hx0 hy0 hfx0 hfy0); (obtain ⟨x1, y1, hx1, hy1, hfx1, hfy1⟩ := hHeld.2.2.1.two); (try simp only [cell_drew, frozen_drew] at hx1 hy1 hfx1 hfy1)); go_simp; (first | (go_at_call 81; (with_reducible refine (rfrom_any true va (q + 1) (k + 1 + 1) _ ?_).mono ?_); (exact HQY.out); rintro e w' ⟨vQ, rfl, hn, hb⟩; (try replace NQ := Lib.hid (NQ.out.below hb)); (try replace HQY := Lib.hid (HQY.out.below hb)); (try replace HRY := Lib.hid (HRY.out.below hb)); have NQ := Lib.hid hn; obtain ⟨bbQ, adQ, lenQ, capQ, rfl, hrQ⟩ := NQ.out.shape2; have hS := And.intro trivial (And.intro (cell_below hHeld.1 hb) (And.intro (hHeld.2.1.below hb) (And.intro (hHeld.2.2.1.below hb) (bel_on hHeld.2.2.2 hb)))); clear hb hHeld hn) | (go_at_call 81; (with_reducible refine (rfrom_any bz vs (yn - r) j _ ?_).mono ?_); (exact HRY.out); rintro e w' ⟨vR, rfl, hn, hb⟩; (try replace NQ := Lib.hid (NQ.out.below hb)); (try replace HQY := Lib.hid (HQY.out.below hb)); (try replace HRY := Lib.hid (HRY.out.below hb)); have NR := Lib.hid hn; obtain ⟨bbR, adR, lenR, capR, rfl, hrR⟩ := NR.out.shape2; have hS := And.intro trivial (And.intro (cell_below hHeld.1 hb) (And.intro (hHeld.2.1.below hb) (And.intro (hHeld.2.2.1.below hb) (bel_on hHeld.2.2.2 hb)))); clear hb hHeld hn) | (try simp only [cell_drew, slot_drew, below_drew] at hHeld)); (refine hK.out _ _ ?_ (fun hHeld => ?_)); ((try dsimp only); ((try simp only [cell_drew, slot_drew, below_drew]); refine ⟨?_, ?_, ?_, ?_⟩; (first | exact hS.2.1 | with_reducible exact cell_set hHeld.1 (by omega) | with_reducible exact cell_set (cell_set hHeld.1 (by omega)) (by omega)); (first | exact hS.2.2.1 | with_reducible exact hHeld.2.1.set _ _ _ | with_reducible exact (hHeld.2.1.set _ _ _).set _ _ _); (first | exact hS.2.2.2.1 | with_reducible exact hHeld.2.2.1.set _ _ _ | with_reducible exact (hHeld.2.2.1.set _ _ _).set _ _ _); (first | exact hS.2.2.2.2 | with_reducible exact bel_set1 hHeld.2.2.2 (by omega) | with_reducible exact bel_set2 hHeld.2.2.2 (by omega) (by omega)))); clear hK K; (try clear hS); (try clear hfx0 hx0 x0); (try clear hfy0 hy0 y0); (try clear hfx1 hx1 x1); (try clear hfy1 hy1 y1); (try dsimp only at hHeld))))
      refine wpSched_nil ?_
      rename_i hOld _
      have HF := Lib.hid (fin_int2 NQ.out NR.out hOld.2.1 hOld.2.2.1 (by decide) (by decide) hOld.2.2.2 (by omega) (by omega) (by omega) rfl)
      clear hHeld hOld
      go_wp2_with fail
      refine bodyPost_ret (v := .tuple #[.agg #[.bool bbQ, .slice adQ lenQ capQ], .agg #[.bool bbR, .slice adR lenR capR]]) (by simp [results, Tryd.results37, go_sem, HF.out.2.2.2.1, HF.out.2.2.2.2.1, HF.out.2.2.2.2.2.1, HF.out.2.2.2.2.2.2]) rfl ⟨_, _, rfl, ?_, ?_, HF.out.2.2.1⟩
      · rw [HQV2.out]; exact HF.out.1.mono (by omega)
      · rw [HRV2.out]; exact HF.out.2.1

set_option maxRecDepth 100000 in
set_option maxHeartbeats 1000000 in
/-- whole's Div by 0. -/
theorem idivZero_any (v u : Value) (x : Int) (k j : Nat) (w : World) (h : IntB 68 w v x k) (h' : IntB 68 w u 0 j) :
    Calls Tryd.prog 34 #[v, u] w fun e w' => e = .returned (.tuple #[.agg #[.bool false, .slice none 0 0], .agg #[.bool false, .slice none 0 0], .bool false]) ∧ Below w.heap.size w w' := by
  obtain ⟨bx, ad, len, cap, rfl, _⟩ := h.shape2
  obtain ⟨bz, ad', len', cap', rfl, _⟩ := h'.shape2
  have H := Lib.hid h.part.1
  have H' := Lib.hid (show NatB 68 w (.agg #[.slice ad' len' cap']) 0 j from h'.part.1)
  clear h h'
  go_enter Tryd.func34, Tryd.ntmps34
  go_wp2_with fail
  refine (divZero_any _ _ x.natAbs k j _ (H.out.below (bel_alloc4 _ _ _ _ _)) (H'.out.below (bel_alloc4 _ _ _ _ _))).mono ?_
  rintro e w1 ⟨rfl, hb1⟩
  have hh := (((heldN4 (w := w)).below hb1).new #[Value.slice none 0 0] 25).new #[Value.slice none 0 0] 25
  have hbX := bel_on (bel_on (bel_alloc4 _ _ _ _ _) hb1) (bel_alloc2 w1 (Obj.cells #[Value.slice none 0 0] 25) (Obj.cells #[Value.slice none 0 0] 25))
  have HS2 := Lib.hid (Slot.of (n := 2) hh.2.2.2.2.1 rfl)
  have HS3 := Lib.hid (Slot.of (n := 2) hh.2.2.2.2.2.1 rfl)
  have HBX := Lib.hid hbX
  clear hh hbX hb1
  obtain ⟨x0, y0, hx0, hy0, hfx0, hfy0⟩ := HS2.out.two
  obtain ⟨x1, y1, hx1, hy1, hfx1, hfy1⟩ := ((HS3.out.set (w.heap.size + 1 + 1) 0 (.bool false)).set (w.heap.size + 1 + 1) 1 (.slice none 0 0)).two
  have HF := Lib.hid (fin_int2 (IntB.zero 68 _ 0) (IntB.zero 68 _ 0) HS2.out HS3.out (by decide) (by decide) HBX.out (by omega) (by omega) (by omega) rfl)
  go_wp2_with fail
  refine bodyPost_ret (v := .tuple #[.agg #[.bool false, .slice none 0 0], .agg #[.bool false, .slice none 0 0], .bool false]) (by simp [results, Tryd.results34, go_sem, HF.out.2.2.2.1, HF.out.2.2.2.2.1, HF.out.2.2.2.2.2.1, HF.out.2.2.2.2.2.2]) rfl ⟨rfl, HF.out.2.2.1⟩

end Go.Proofs.YtpchnejdbmoicaaDoor
