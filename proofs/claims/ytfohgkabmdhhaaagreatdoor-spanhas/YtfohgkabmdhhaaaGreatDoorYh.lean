/- The contract of whole's Div, over what nat's Div tells. -/
import Derived.Test.YtfohgkabmdhhaaaGreatDoorYg
namespace Go.Proofs.YtfohgkabmdhhaaaGreatDoor
open Go.RowKit Cin

def qF (u : Bool) (q r : Nat) : Int := if (u && !decide (r = 0)) = true then sg u (q + 1) else sg u q
def rF (u b : Bool) (r y : Nat) : Int := if (u && !decide (r = 0)) = true then sg b (y - r) else sg b r
/-- How often, downwards; what is left, of the divisor's sign. -/
def divQ (x y : Int) : Int := qF (!(decide (x < 0) == decide (y < 0))) (x.natAbs / y.natAbs) (x.natAbs % y.natAbs)
def divR (x y : Int) : Int := rF (!(decide (x < 0) == decide (y < 0))) (decide (y < 0)) (x.natAbs % y.natAbs) y.natAbs

theorem ofB_one (w : World) : Calls Tryz.prog 141 #[.int .u64 1] w fun e w' => ∃ v', e = .returned v' ∧ NatB 146 w' v' 1 2 ∧ Below w.heap.size w w' := ofB 1 w (by decide)
/-- What nat's Div tells of two numbers. -/
def DivTells (x y k j : Nat) : Prop := ∀ (w : World) (v u : Value), NatB 146 w v x k → NatB 146 w u y j →
  Calls Tryz.prog 152 #[v, u] w fun e w' => ∃ v' u', e = .returned (.tuple #[v', u', .bool true]) ∧ NatB 146 w' v' (x / y) k ∧ NatB 146 w' u' (x % y) j ∧ Below w.heap.size w w'

set_option maxRecDepth 100000 in
set_option maxHeartbeats 4000000 in
/-- Div, b not 0. -/
theorem idiv_of (v u : Value) (x y : Int) (k j : Nat) (w : World) (h : IntB 146 w v x k) (h' : IntB 146 w u y j) (hk : k ≤ 4000000) (hj : j ≤ 4000000) (hD : DivTells x.natAbs y.natAbs k j) (hy : y ≠ 0) :
    Calls Tryz.prog 136 #[v, u] w fun e w' => ∃ v' u', e = .returned (.tuple #[v', u', .bool true]) ∧ IntB 146 w' v' (divQ x y) (k + 3) ∧ IntB 146 w' u' (divR x y) j ∧ Below w.heap.size w w' := by
  obtain ⟨ad, len, cap, rfl, hr⟩ := h.shape
  obtain ⟨ad', len', cap', rfl, hr'⟩ := h'.shape
  have H := Lib.hid h.part.1
  have H' := Lib.hid h'.part.1
  have HD := Lib.hid hD
  clear h hr h' hr' hD
  have HM := Lib.hid (Nat.mod_lt x.natAbs (show 0 < y.natAbs by omega))
  have HQV := Lib.hid (show divQ x y = qF (!(decide (x < 0) == decide (y < 0))) (x.natAbs / y.natAbs) (x.natAbs % y.natAbs) from rfl)
  have HRV := Lib.hid (show divR x y = rF (!(decide (x < 0) == decide (y < 0))) (decide (y < 0)) (x.natAbs % y.natAbs) y.natAbs from rfl)
  generalize divQ x y = dq at *
  generalize divR x y = dr at *
  generalize decide (x < 0) = bx at *
  generalize decide (y < 0) = bz at *
  generalize hyn : y.natAbs = yn at *
  generalize hxn : x.natAbs = xn at *
  generalize hqn : xn / yn = q at *
  generalize hrn : xn % yn = r at *
  clear hyn hxn
  go_enter Tryz.func136, Tryz.ntmps136
  go_wp2_with fail
  refine (HD.out _ _ _ (H.out.below (bel_alloc4 _ _ _ _ _)) (H'.out.below (bel_alloc4 _ _ _ _ _))).mono ?_
  rintro e w1 ⟨v1, u1, rfl, hn1, hm1, hb1⟩
  rw [hrn] at hm1
  rw [hqn] at hn1
  clear hrn hqn
  obtain ⟨adq, lq, cq, rfl⟩ := hn1.shape2
  obtain ⟨adr, lr, cr, rfl⟩ := hm1.shape2
  have hh := (((heldN4 (w := w)).below hb1).new #[Value.slice adq lq cq] 27).new #[Value.slice adr lr cr] 27
  have hbX := bel_on (bel_on (bel_alloc4 _ _ _ _ _) hb1) (bel_alloc2 w1 (Obj.cells #[Value.slice adq lq cq] 27) (Obj.cells #[Value.slice adr lr cr] 27))
  have hnX := hn1.below (bel_alloc2 w1 (Obj.cells #[Value.slice adq lq cq] 27) (Obj.cells #[Value.slice adr lr cr] 27))
  have hmX := hm1.below (bel_alloc2 w1 (Obj.cells #[Value.slice adq lq cq] 27) (Obj.cells #[Value.slice adr lr cr] 27))
  have hs1 := hb1.size
  simp only [World.size_alloc] at hh hs1
  have hcr := cell0 hh.1
  have hcq := cell0 hh.2.1
  have hca := cell0 hh.2.2.1
  have hcb0 := cell0 hh.2.2.2.1
  have hcb1 := cell1 hh.2.2.2.1
  have HS2 := Lib.hid (Slot.of (n := 2) hh.2.2.2.2.1 rfl)
  have HS3 := Lib.hid (Slot.of (n := 2) hh.2.2.2.2.2.1 rfl)
  have HBX := Lib.hid hbX
  have HNX := Lib.hid hnX
  have HMX := Lib.hid hmX
  have HHX := Lib.hid hh
  clear hn1 hm1 hb1 hh hbX hnX hmX
  by_cases hun : (bx == bz) = true
  · have hun' : (!(bx == bz)) = false := by rw [hun]; rfl
    have HQV2 := Lib.hid (show dq = sg false q by have := HQV.out; rw [hun'] at this; simpa [qF] using this)
    have HRV2 := Lib.hid (show dr = sg bz r by have := HRV.out; rw [hun'] at this; simpa [rF] using this)
    clear HQV HRV
    go_wp2_with fail
    generalize (w1.alloc (Obj.cells #[Value.slice adq lq cq] 27)).alloc (Obj.cells #[Value.slice adr lr cr] 27) = X at *
    clear hun hun' hca
    have HQX := Lib.hid (HNX.out.below (Below.refl _ X).drew)
    have HRX := Lib.hid (HMX.out.below (Below.refl _ X).drew)
    refine wp_region_sched (fun w' => w'.cell? ⟨w1.heap.size, 0, none⟩ = some (.slice adq lq cq) ∧ w'.cell? ⟨w1.heap.size + 1, 0, none⟩ = some (.slice adr lr cr) ∧ w'.cell? ⟨w.heap.size + 1, 0, none⟩ = some (.bool bz) ∧ Slot w' (w.heap.size + 1 + 1) 29 2 ∧ Slot w' (w.heap.size + 1 + 1 + 1) 29 2 ∧ Below w.heap.size w w') [(0, true), (1, true), (3, true), (4, true), (5, true), (2, false), (6, false), (7, false), (8, false), (9, true)] (by kernel_rfl) (by kernel_rfl) ?_ (fun hHeld => ?_)
    · (try dsimp only)
      exact ⟨hcq, hcr, hcb0, HS2.out.drew, HS3.out.drew, HBX.out.drew⟩
    try dsimp only at hHeld
    repeat (refine wpSched_at (by simp only [List.getElem?_toArray, List.getElem?_cons_zero, List.getElem?_cons_succ]; rfl) ?_; (first | (apply wpAt_take rfl; (intro wx hSx; (try dsimp only at hSx); go_simp; (try with_reducible rfl)); simp only [Act.put, List.setIfInBounds_toArray, List.set_cons_zero, List.set_cons_succ]) | (refine wpAt_skip rfl ?_; simp only [Act.put, List.setIfInBounds_toArray, List.set_cons_zero, List.set_cons_succ]) | (refine wpAt_pass rfl hHeld ?_; simp only [Act.put, List.setIfInBounds_toArray, List.set_cons_zero, List.set_cons_succ]) | (refine wpAt_eff rfl (fun K hK => ?_); ((obtain ⟨x0, y0, hx0, hy0, hfx0, hfy0⟩ := hHeld.2.2.2.1.two); (try simp only [cell_drew, frozen_drew] at hx0 hy0 hfx0 hfy0); (obtain ⟨x1, y1, hx1, hy1, hfx1, hfy1⟩ := hHeld.2.2.2.2.1.two); (try simp only [cell_drew, frozen_drew] at hx1 hy1 hfx1 hfy1)); go_simp; (first | (go_at_call 138; (with_reducible refine (signed_any false (.agg #[.slice adq lq cq]) (q) (k) _ ?_ (by omega)).mono ?_); (exact HQX.out); rintro e w' ⟨vq, rfl, hn, hb⟩; (try replace NQ := Lib.hid (NQ.out.below hb)); (try replace HQX := Lib.hid (HQX.out.below hb)); (try replace HRX := Lib.hid (HRX.out.below hb)); have NQ := Lib.hid hn; obtain ⟨bbQ, adQ, lenQ, capQ, rfl, hrQ⟩ := NQ.out.shape2; have hS := And.intro trivial (And.intro (cell_below hHeld.1 hb) (And.intro (cell_below hHeld.2.1 hb) (And.intro (cell_below hHeld.2.2.1 hb) (And.intro (hHeld.2.2.2.1.below hb) (And.intro (hHeld.2.2.2.2.1.below hb) (bel_on hHeld.2.2.2.2.2 hb)))))); clear hb hHeld hn) | (go_at_call 138; (with_reducible refine (signed_any bz (.agg #[.slice adr lr cr]) (r) (j) _ ?_ (by omega)).mono ?_); (exact HRX.out); rintro e w' ⟨vr, rfl, hn, hb⟩; (try replace NQ := Lib.hid (NQ.out.below hb)); (try replace HQX := Lib.hid (HQX.out.below hb)); (try replace HRX := Lib.hid (HRX.out.below hb)); have NR := Lib.hid hn; obtain ⟨bbR, adR, lenR, capR, rfl, hrR⟩ := NR.out.shape2; have hS := And.intro trivial (And.intro (cell_below hHeld.1 hb) (And.intro (cell_below hHeld.2.1 hb) (And.intro (cell_below hHeld.2.2.1 hb) (And.intro (hHeld.2.2.2.1.below hb) (And.intro (hHeld.2.2.2.2.1.below hb) (bel_on hHeld.2.2.2.2.2 hb)))))); clear hb hHeld hn) | (try simp only [cell_drew, slot_drew, below_drew] at hHeld)); (refine hK.out _ _ ?_ (fun hHeld => ?_)); ((try dsimp only); ((try simp only [cell_drew, slot_drew, below_drew]); refine ⟨?_, ?_, ?_, ?_, ?_, ?_⟩; (first | exact hS.2.1 | with_reducible exact cell_set hHeld.1 (by omega) | with_reducible exact cell_set (cell_set hHeld.1 (by omega)) (by omega)); (first | exact hS.2.2.1 | with_reducible exact cell_set hHeld.2.1 (by omega) | with_reducible exact cell_set (cell_set hHeld.2.1 (by omega)) (by omega)); (first | exact hS.2.2.2.1 | with_reducible exact cell_set hHeld.2.2.1 (by omega) | with_reducible exact cell_set (cell_set hHeld.2.2.1 (by omega)) (by omega)); (first | exact hS.2.2.2.2.1 | with_reducible exact hHeld.2.2.2.1.set _ _ _ | with_reducible exact (hHeld.2.2.2.1.set _ _ _).set _ _ _); (first | exact hS.2.2.2.2.2.1 | with_reducible exact hHeld.2.2.2.2.1.set _ _ _ | with_reducible exact (hHeld.2.2.2.2.1.set _ _ _).set _ _ _); (first | exact hS.2.2.2.2.2.2 | with_reducible exact bel_set1 hHeld.2.2.2.2.2 (by omega) | with_reducible exact bel_set2 hHeld.2.2.2.2.2 (by omega) (by omega)))); clear hK K; (try clear hS); (try clear hfx0 hx0 x0); (try clear hfy0 hy0 y0); (try clear hfx1 hx1 x1); (try clear hfy1 hy1 y1); (try dsimp only at hHeld))))
    refine wpSched_nil ?_
    rename_i hOld _
    have HF := Lib.hid (fin_int2 NQ.out NR.out hOld.2.2.2.1 hOld.2.2.2.2.1 (by decide) (by decide) hOld.2.2.2.2.2 (by omega) (by omega) (by omega) rfl)
    clear hHeld hOld
    go_wp2_with fail
    refine bodyPost_ret (v := .tuple #[.agg #[.bool bbQ, .slice adQ lenQ capQ], .agg #[.bool bbR, .slice adR lenR capR], .bool true]) (by simp [results, Tryz.results136, go_sem, HF.out.2.2.2.1, HF.out.2.2.2.2.1, HF.out.2.2.2.2.2.1, HF.out.2.2.2.2.2.2]) rfl ⟨_, _, rfl, ?_, ?_, HF.out.2.2.1⟩
    · rw [HQV2.out]; exact HF.out.1.mono (by omega)
    · rw [HRV2.out]; exact HF.out.2.1
  · have hun' : (bx == bz) = false := by simpa using hun
    have hunb : (!(bx == bz)) = true := by rw [hun']; rfl
    go_wp2_with fail
    generalize (w1.alloc (Obj.cells #[Value.slice adq lq cq] 27)).alloc (Obj.cells #[Value.slice adr lr cr] 27) = X at *
    refine (isZero_any _ r j _ HMX.out (by omega)).mono ?_
    rintro e w2 ⟨rfl, hb2⟩
    have hcr2 := cell_below hcr hb2
    have hcq2 := cell_below hcq hb2
    have hca2 := cell_below hca hb2
    have hcb02 := cell_below hcb0 hb2
    have hcb12 := cell_below hcb1 hb2
    have hs2 := hb2.size
    have HB2 := Lib.hid (bel_on HBX.out hb2)
    have HN2 := Lib.hid (HNX.out.below hb2)
    have HM2 := Lib.hid (HMX.out.below hb2)
    have HT2 := Lib.hid (HS2.out.below hb2)
    have HT3 := Lib.hid (HS3.out.below hb2)
    have HQS := Lib.hid (Slot.of (n := 1) (HHX.out.below hb2).2.1 rfl)
    have HRS := Lib.hid (Slot.of (n := 1) (HHX.out.below hb2).1 rfl)
    clear hb2 hcr hcq hca hcb0 hcb1 HBX HNX HMX HS2 HS3 HHX hun
    by_cases hr0 : r = 0
    · have hr0' : decide (r = 0) = true := decide_eq_true hr0
      have HQV2 := Lib.hid (show dq = sg true q by have := HQV.out; unfold qF at this; rw [hunb, hr0'] at this; simpa using this)
      have HRV2 := Lib.hid (show dr = sg bz r by have := HRV.out; unfold rF at this; rw [hunb, hr0'] at this; simpa using this)
      rw [hr0']
      clear HQV HRV
      go_wp2_with fail
      clear hca2 hunb hr0'
      have HQX := Lib.hid (HN2.out.below (Below.refl _ w2).drew)
      have HRX := Lib.hid (HM2.out.below (Below.refl _ w2).drew)
      refine wp_region_sched (fun w' => w'.cell? ⟨w1.heap.size, 0, none⟩ = some (.slice adq lq cq) ∧ w'.cell? ⟨w1.heap.size + 1, 0, none⟩ = some (.slice adr lr cr) ∧ w'.cell? ⟨w.heap.size + 1, 0, none⟩ = some (.bool bz) ∧ Slot w' (w.heap.size + 1 + 1) 29 2 ∧ Slot w' (w.heap.size + 1 + 1 + 1) 29 2 ∧ Below w.heap.size w w') [(0, true), (1, true), (3, true), (4, true), (5, true), (2, false), (6, false), (7, false), (8, false), (9, true)] (by kernel_rfl) (by kernel_rfl) ?_ (fun hHeld => ?_)
      · (try dsimp only)
        exact ⟨hcq2, hcr2, hcb02, HT2.out.drew, HT3.out.drew, HB2.out.drew⟩
      try dsimp only at hHeld
      repeat (refine wpSched_at (by simp only [List.getElem?_toArray, List.getElem?_cons_zero, List.getElem?_cons_succ]; rfl) ?_; (first | (apply wpAt_take rfl; (intro wx hSx; (try dsimp only at hSx); go_simp; (try with_reducible rfl)); simp only [Act.put, List.setIfInBounds_toArray, List.set_cons_zero, List.set_cons_succ]) | (refine wpAt_skip rfl ?_; simp only [Act.put, List.setIfInBounds_toArray, List.set_cons_zero, List.set_cons_succ]) | (refine wpAt_pass rfl hHeld ?_; simp only [Act.put, List.setIfInBounds_toArray, List.set_cons_zero, List.set_cons_succ]) | (refine wpAt_eff rfl (fun K hK => ?_); ((obtain ⟨x0, y0, hx0, hy0, hfx0, hfy0⟩ := hHeld.2.2.2.1.two); (try simp only [cell_drew, frozen_drew] at hx0 hy0 hfx0 hfy0); (obtain ⟨x1, y1, hx1, hy1, hfx1, hfy1⟩ := hHeld.2.2.2.2.1.two); (try simp only [cell_drew, frozen_drew] at hx1 hy1 hfx1 hfy1)); go_simp; (first | (go_at_call 138; (with_reducible refine (signed_any true (.agg #[.slice adq lq cq]) (q) (k) _ ?_ (by omega)).mono ?_); (exact HQX.out); rintro e w' ⟨vq, rfl, hn, hb⟩; (try replace NQ := Lib.hid (NQ.out.below hb)); (try replace HQX := Lib.hid (HQX.out.below hb)); (try replace HRX := Lib.hid (HRX.out.below hb)); have NQ := Lib.hid hn; obtain ⟨bbQ, adQ, lenQ, capQ, rfl, hrQ⟩ := NQ.out.shape2; have hS := And.intro trivial (And.intro (cell_below hHeld.1 hb) (And.intro (cell_below hHeld.2.1 hb) (And.intro (cell_below hHeld.2.2.1 hb) (And.intro (hHeld.2.2.2.1.below hb) (And.intro (hHeld.2.2.2.2.1.below hb) (bel_on hHeld.2.2.2.2.2 hb)))))); clear hb hHeld hn) | (go_at_call 138; (with_reducible refine (signed_any bz (.agg #[.slice adr lr cr]) (r) (j) _ ?_ (by omega)).mono ?_); (exact HRX.out); rintro e w' ⟨vr, rfl, hn, hb⟩; (try replace NQ := Lib.hid (NQ.out.below hb)); (try replace HQX := Lib.hid (HQX.out.below hb)); (try replace HRX := Lib.hid (HRX.out.below hb)); have NR := Lib.hid hn; obtain ⟨bbR, adR, lenR, capR, rfl, hrR⟩ := NR.out.shape2; have hS := And.intro trivial (And.intro (cell_below hHeld.1 hb) (And.intro (cell_below hHeld.2.1 hb) (And.intro (cell_below hHeld.2.2.1 hb) (And.intro (hHeld.2.2.2.1.below hb) (And.intro (hHeld.2.2.2.2.1.below hb) (bel_on hHeld.2.2.2.2.2 hb)))))); clear hb hHeld hn) | (try simp only [cell_drew, slot_drew, below_drew] at hHeld)); (refine hK.out _ _ ?_ (fun hHeld => ?_)); ((try dsimp only); ((try simp only [cell_drew, slot_drew, below_drew]); refine ⟨?_, ?_, ?_, ?_, ?_, ?_⟩; (first | exact hS.2.1 | with_reducible exact cell_set hHeld.1 (by omega) | with_reducible exact cell_set (cell_set hHeld.1 (by omega)) (by omega)); (first | exact hS.2.2.1 | with_reducible exact cell_set hHeld.2.1 (by omega) | with_reducible exact cell_set (cell_set hHeld.2.1 (by omega)) (by omega)); (first | exact hS.2.2.2.1 | with_reducible exact cell_set hHeld.2.2.1 (by omega) | with_reducible exact cell_set (cell_set hHeld.2.2.1 (by omega)) (by omega)); (first | exact hS.2.2.2.2.1 | with_reducible exact hHeld.2.2.2.1.set _ _ _ | with_reducible exact (hHeld.2.2.2.1.set _ _ _).set _ _ _); (first | exact hS.2.2.2.2.2.1 | with_reducible exact hHeld.2.2.2.2.1.set _ _ _ | with_reducible exact (hHeld.2.2.2.2.1.set _ _ _).set _ _ _); (first | exact hS.2.2.2.2.2.2 | with_reducible exact bel_set1 hHeld.2.2.2.2.2 (by omega) | with_reducible exact bel_set2 hHeld.2.2.2.2.2 (by omega) (by omega)))); clear hK K; (try clear hS); (try clear hfx0 hx0 x0); (try clear hfy0 hy0 y0); (try clear hfx1 hx1 x1); (try clear hfy1 hy1 y1); (try dsimp only at hHeld))))
      refine wpSched_nil ?_
      rename_i hOld _
      have HF := Lib.hid (fin_int2 NQ.out NR.out hOld.2.2.2.1 hOld.2.2.2.2.1 (by decide) (by decide) hOld.2.2.2.2.2 (by omega) (by omega) (by omega) rfl)
      clear hHeld hOld
      go_wp2_with fail
      refine bodyPost_ret (v := .tuple #[.agg #[.bool bbQ, .slice adQ lenQ capQ], .agg #[.bool bbR, .slice adR lenR capR], .bool true]) (by simp [results, Tryz.results136, go_sem, HF.out.2.2.2.1, HF.out.2.2.2.2.1, HF.out.2.2.2.2.2.1, HF.out.2.2.2.2.2.2]) rfl ⟨_, _, rfl, ?_, ?_, HF.out.2.2.1⟩
      · rw [HQV2.out]; exact HF.out.1.mono (by omega)
      · rw [HRV2.out]; exact HF.out.2.1
    · have hr0' : decide (r = 0) = false := decide_eq_false hr0
      have HQV2 := Lib.hid (show dq = sg true (q + 1) by have := HQV.out; unfold qF at this; rw [hunb, hr0'] at this; simpa using this)
      have HRV2 := Lib.hid (show dr = sg bz (yn - r) by have := HRV.out; unfold rF at this; rw [hunb, hr0'] at this; simpa using this)
      rw [hr0']
      clear HQV HRV
      go_wp2_with fail
      clear hca2 hunb hr0'
      go_region_law (first
        | (go_simp; go_at_call 141; (with_reducible refine (ofB_one w2.drew).mono ?_); rintro e w4 ⟨v4, rfl, hn4, hb4⟩; have HN4 := Lib.hid hn4; have hb4' := bel_on ((Below.refl _ w2).drew) hb4; have hcq4 := cell_below hcq2 hb4'; have HB4 := Lib.hid hb4'; clear hb4 hb4' hn4)
        | (go_simp; go_at_call 156; (with_reducible refine (addB (.agg #[.slice adq lq cq]) v4 q 1 k 2 w4 (HN2.out.below HB4.out) HN4.out (by omega) (by decide)).mono ?_); rintro e w5 ⟨v5, rfl, hn5, hb5⟩; obtain ⟨ad5, l5, c5, rfl⟩ := hn5.shape2; have HN5 := Lib.hid hn5; have hb5' := bel_on HB4.out hb5; obtain ⟨x5, hx5, hf5⟩ := (HQS.out.below hb5').one; have HB5 := Lib.hid hb5'; clear hb5 hb5' hn5))
      all_goals (
        have HQ5 := Lib.hid (HQS.out.below HB5.out)
        have hcr5 := cell_set (b' := w1.heap.size) (o' := 0) (u := .slice ad5 l5 c5) (cell_below hcr2 HB5.out) (by omega)
        have hcb05 := cell_set (b' := w1.heap.size) (o' := 0) (u := .slice ad5 l5 c5) (cell_below hcb02 HB5.out) (by omega)
        have hcb15 := cell_set (b' := w1.heap.size) (o' := 0) (u := .slice ad5 l5 c5) (cell_below hcb12 HB5.out) (by omega)
        have hcq5 := HQ5.out.set1 (.slice ad5 l5 c5)
        have HT25 := Lib.hid ((HT2.out.below HB5.out).set w1.heap.size 0 (.slice ad5 l5 c5))
        have HT35 := Lib.hid ((HT3.out.below HB5.out).set w1.heap.size 0 (.slice ad5 l5 c5))
        have HRS5 := Lib.hid ((HRS.out.below HB5.out).set w1.heap.size 0 (.slice ad5 l5 c5))
        have HNY := Lib.hid (HN5.out.slot HQ5.out (by decide) 0 (.slice ad5 l5 c5))
        have HMY := Lib.hid ((HM2.out.below HB5.out).slot HQ5.out (by decide) 0 (.slice ad5 l5 c5))
        have HBY := Lib.hid (bel_set1 (b := w1.heap.size) (o := 0) (u := .slice ad5 l5 c5) (bel_on HB2.out HB5.out) (by omega))
        have hs5 : w2.heap.size ≤ (w5.setCell ⟨w1.heap.size, 0, none⟩ (.slice ad5 l5 c5)).heap.size := by have := HB5.out.size; simpa using this
        generalize w5.setCell ⟨w1.heap.size, 0, none⟩ (.slice ad5 l5 c5) = Y at *
        clear HN5 HB5 HN4 HB4 HQ5 HQS HRS HT2 HT3 HN2 HM2 HB2 hcq2 hcr2 hcb02 hcb12 hx5 hf5 hcq4
        go_wp2_with fail
        refine (subB _ _ yn r j j _ (H'.out.below HBY.out) HMY.out (by omega) (by omega) (Nat.le_of_lt HM.out)).mono ?_
        rintro e w6 ⟨v6, rfl, hn6, hb6⟩
        obtain ⟨ad6, l6, c6, rfl⟩ := hn6.shape2
        have hR6 := HRS5.out.below hb6
        obtain ⟨x6, hx6, hf6⟩ := hR6.one
        have hcq6 := cell_set (b' := w1.heap.size + 1) (o' := 0) (u := .slice ad6 l6 c6) (cell_below hcq5 hb6) (by omega)
        have hcb06 := cell_set (b' := w1.heap.size + 1) (o' := 0) (u := .slice ad6 l6 c6) (cell_below hcb05 hb6) (by omega)
        have hcr6 := hR6.set1 (.slice ad6 l6 c6)
        have HT26 := Lib.hid ((HT25.out.below hb6).set (w1.heap.size + 1) 0 (.slice ad6 l6 c6))
        have HT36 := Lib.hid ((HT35.out.below hb6).set (w1.heap.size + 1) 0 (.slice ad6 l6 c6))
        have HNZ := Lib.hid ((HNY.out.below hb6).slot hR6 (by decide) 0 (.slice ad6 l6 c6))
        have HMZ := Lib.hid (hn6.slot hR6 (by decide) 0 (.slice ad6 l6 c6))
        have HBZ := Lib.hid (bel_set1 (b := w1.heap.size + 1) (o := 0) (u := .slice ad6 l6 c6) (bel_on HBY.out hb6) (by omega))
        clear hn6 hb6 hR6 hcr5 hcb05 hcb15 hcq5 HT25 HT35 HRS5 HNY HMY HBY
        go_wp2_with fail
        generalize w6.setCell ⟨w1.heap.size + 1, 0, none⟩ (.slice ad6 l6 c6) = Z at *
        clear hx6 hf6
        have HQX := Lib.hid (HNZ.out.below (Below.refl _ Z).drew)
        have HRX := Lib.hid (HMZ.out.below (Below.refl _ Z).drew)
        refine wp_region_sched (fun w' => w'.cell? ⟨w1.heap.size, 0, none⟩ = some (.slice ad5 l5 c5) ∧ w'.cell? ⟨w1.heap.size + 1, 0, none⟩ = some (.slice ad6 l6 c6) ∧ w'.cell? ⟨w.heap.size + 1, 0, none⟩ = some (.bool bz) ∧ Slot w' (w.heap.size + 1 + 1) 29 2 ∧ Slot w' (w.heap.size + 1 + 1 + 1) 29 2 ∧ Below w.heap.size w w') [(0, true), (1, true), (3, true), (4, true), (5, true), (2, false), (6, false), (7, false), (8, false), (9, true)] (by kernel_rfl) (by kernel_rfl) ?_ (fun hHeld => ?_)
        · (try dsimp only)
          exact ⟨hcq6, hcr6, hcb06, HT26.out.drew, HT36.out.drew, HBZ.out.drew⟩
        try dsimp only at hHeld
        repeat (refine wpSched_at (by simp only [List.getElem?_toArray, List.getElem?_cons_zero, List.getElem?_cons_succ]; rfl) ?_; (first | (apply wpAt_take rfl; (intro wx hSx; (try dsimp only at hSx); go_simp; (try with_reducible rfl)); simp only [Act.put, List.setIfInBounds_toArray, List.set_cons_zero, List.set_cons_succ]) | (refine wpAt_skip rfl ?_; simp only [Act.put, List.setIfInBounds_toArray, List.set_cons_zero, List.set_cons_succ]) | (refine wpAt_pass rfl hHeld ?_; simp only [Act.put, List.setIfInBounds_toArray, List.set_cons_zero, List.set_cons_succ]) | (refine wpAt_eff rfl (fun K hK => ?_); ((obtain ⟨x0, y0, hx0, hy0, hfx0, hfy0⟩ := hHeld.2.2.2.1.two); (try simp only [cell_drew, frozen_drew] at hx0 hy0 hfx0 hfy0); (obtain ⟨x1, y1, hx1, hy1, hfx1, hfy1⟩ := hHeld.2.2.2.2.1.two); (try simp only [cell_drew, frozen_drew] at hx1 hy1 hfx1 hfy1)); go_simp; (first | (go_at_call 138; (with_reducible refine (signed_any true (.agg #[.slice ad5 l5 c5]) (q + 1) (k + 2 + 1) _ ?_ (by omega)).mono ?_); (exact HQX.out); rintro e w' ⟨vq, rfl, hn, hb⟩; (try replace NQ := Lib.hid (NQ.out.below hb)); (try replace HQX := Lib.hid (HQX.out.below hb)); (try replace HRX := Lib.hid (HRX.out.below hb)); have NQ := Lib.hid hn; obtain ⟨bbQ, adQ, lenQ, capQ, rfl, hrQ⟩ := NQ.out.shape2; have hS := And.intro trivial (And.intro (cell_below hHeld.1 hb) (And.intro (cell_below hHeld.2.1 hb) (And.intro (cell_below hHeld.2.2.1 hb) (And.intro (hHeld.2.2.2.1.below hb) (And.intro (hHeld.2.2.2.2.1.below hb) (bel_on hHeld.2.2.2.2.2 hb)))))); clear hb hHeld hn) | (go_at_call 138; (with_reducible refine (signed_any bz (.agg #[.slice ad6 l6 c6]) (yn - r) (j) _ ?_ (by omega)).mono ?_); (exact HRX.out); rintro e w' ⟨vr, rfl, hn, hb⟩; (try replace NQ := Lib.hid (NQ.out.below hb)); (try replace HQX := Lib.hid (HQX.out.below hb)); (try replace HRX := Lib.hid (HRX.out.below hb)); have NR := Lib.hid hn; obtain ⟨bbR, adR, lenR, capR, rfl, hrR⟩ := NR.out.shape2; have hS := And.intro trivial (And.intro (cell_below hHeld.1 hb) (And.intro (cell_below hHeld.2.1 hb) (And.intro (cell_below hHeld.2.2.1 hb) (And.intro (hHeld.2.2.2.1.below hb) (And.intro (hHeld.2.2.2.2.1.below hb) (bel_on hHeld.2.2.2.2.2 hb)))))); clear hb hHeld hn) | (try simp only [cell_drew, slot_drew, below_drew] at hHeld)); (refine hK.out _ _ ?_ (fun hHeld => ?_)); ((try dsimp only); ((try simp only [cell_drew, slot_drew, below_drew]); refine ⟨?_, ?_, ?_, ?_, ?_, ?_⟩; (first | exact hS.2.1 | with_reducible exact cell_set hHeld.1 (by omega) | with_reducible exact cell_set (cell_set hHeld.1 (by omega)) (by omega)); (first | exact hS.2.2.1 | with_reducible exact cell_set hHeld.2.1 (by omega) | with_reducible exact cell_set (cell_set hHeld.2.1 (by omega)) (by omega)); (first | exact hS.2.2.2.1 | with_reducible exact cell_set hHeld.2.2.1 (by omega) | with_reducible exact cell_set (cell_set hHeld.2.2.1 (by omega)) (by omega)); (first | exact hS.2.2.2.2.1 | with_reducible exact hHeld.2.2.2.1.set _ _ _ | with_reducible exact (hHeld.2.2.2.1.set _ _ _).set _ _ _); (first | exact hS.2.2.2.2.2.1 | with_reducible exact hHeld.2.2.2.2.1.set _ _ _ | with_reducible exact (hHeld.2.2.2.2.1.set _ _ _).set _ _ _); (first | exact hS.2.2.2.2.2.2 | with_reducible exact bel_set1 hHeld.2.2.2.2.2 (by omega) | with_reducible exact bel_set2 hHeld.2.2.2.2.2 (by omega) (by omega)))); clear hK K; (try clear hS); (try clear hfx0 hx0 x0); (try clear hfy0 hy0 y0); (try clear hfx1 hx1 x1); (try clear hfy1 hy1 y1); (try dsimp only at hHeld))))
        refine wpSched_nil ?_
        rename_i hOld _
        have HF := Lib.hid (fin_int2 NQ.out NR.out hOld.2.2.2.1 hOld.2.2.2.2.1 (by decide) (by decide) hOld.2.2.2.2.2 (by omega) (by omega) (by omega) rfl)
        clear hHeld hOld
        go_wp2_with fail
        refine bodyPost_ret (v := .tuple #[.agg #[.bool bbQ, .slice adQ lenQ capQ], .agg #[.bool bbR, .slice adR lenR capR], .bool true]) (by simp [results, Tryz.results136, go_sem, HF.out.2.2.2.1, HF.out.2.2.2.2.1, HF.out.2.2.2.2.2.1, HF.out.2.2.2.2.2.2]) rfl ⟨_, _, rfl, ?_, ?_, HF.out.2.2.1⟩
        · rw [HQV2.out]; exact HF.out.1
        · rw [HRV2.out]; exact HF.out.2.1)

end Go.Proofs.YtfohgkabmdhhaaaGreatDoor
/- law2's alive. -/
namespace Go.Proofs.YtfohgkabmdhhaaaGreatDoor
open Go.RowKit Cin

theorem divTells_small (x y : Nat) (hy : y ≠ 0) : DivTells x y 2 2 := fun w v u h h' => divSmall_any v u x y w h h' hy
theorem cell_pair {w : World} {b : Nat} {x y : Value} {t : TypeId} (h : w.heap[b]? = some (.cells #[x, y] t (0, 0))) : w.cell? ⟨b, 0, none⟩ = some x ∧ w.cell? ⟨b, 1, none⟩ = some y := ⟨cell0 h, cell1 h⟩

end Go.Proofs.YtfohgkabmdhhaaaGreatDoor
