/- Contracts of the document's whole numbers. -/
import Derived.Test.YtpmnakjllkidiaaGreatDoorYp
import Derived.Test.YtpmnakjllkidiaaGreatDoorYi
import Derived.Test.YtpmnakjllkidiaaGreatDoorYo
namespace Go.Proofs.YtpmnakjllkidiaaGreatDoor
open Go.RowKit Cin
theorem refB_part {w : World} {ad : Option Addr} {len cap k : Nat} {b : Bool} {z : Int} (h : IntB 161 w (.agg #[.bool b, .slice ad len cap]) z k) : RefB w (.slice ad len cap) z.natAbs k := by
  obtain ⟨⟨s, e, r⟩, hk⟩ := h
  injection e with e
  injection e with e
  simp only [List.cons.injEq, and_true] at e
  obtain ⟨_, rfl⟩ := e
  exact ⟨r, hk⟩
theorem refB_len {w : World} {ad : Option Addr} {len cap n k : Nat} (h : RefB w (.slice ad len cap) n k) : len = 0 ↔ n = 0 := by
  obtain ⟨⟨xs, hs, ho, hnm, rfl⟩, _⟩ := h
  have hl := hs.len
  constructor
  · intro e
    rw [List.length_eq_zero_iff.1 (hl.trans e)]; rfl
  · intro e
    rw [norm_val_zero hnm e] at hl
    exact hl.symm
set_option maxHeartbeats 800000 in
theorem rfrom_any (b : Bool) (v : Value) (n k : Nat) (w : World) (h : RefB w v n k) :
    Calls Tryz.prog 100 #[.bool b, v] w fun e w' => ∃ v', e = .returned v' ∧ IntB 161 w' v' (sg b n) k ∧ Below w.heap.size w w' := by
  obtain ⟨ad, len, cap, xs, rfl, _⟩ := h.1.shape
  have hl := refB_len h
  have H := Lib.hid h
  clear h
  cases b
  · clear hl
    go_enter Tryz.func100, Tryz.ntmps100
    go_wp2_with fail
    refine bodyPost_ret (v := .agg #[.bool false, .slice ad len cap]) (by simp [results, Tryz.results100, go_sem]) rfl ⟨_, rfl, intB_of (b := false) (H.out.1.below (bel_alloc _ _)) H.out.2 rfl, bel_alloc _ _⟩
  · by_cases h0 : n = 0
    · have hz : len = 0 := hl.2 h0
      subst hz
      have HI := Lib.hid (fun W (h : RefV 161 W (.slice ad 0 cap) n) => intB_of (b := true) (bb := false) h H.out.2 (by rw [decide_eq_true h0]; rfl))
      clear hl h0
      go_enter Tryz.func100, Tryz.ntmps100
      go_wp2_with fail
      refine bodyPost_ret (v := .agg #[.bool false, .slice ad 0 cap]) (by simp [results, Tryz.results100, go_sem]) rfl ⟨_, rfl, HI.out _ (H.out.1.below (bel_alloc _ _)), bel_alloc _ _⟩
    · have hz : 0 < len := Nat.pos_of_ne_zero fun e => h0 (hl.1 e)
      have HI := Lib.hid (fun W (h : RefV 161 W (.slice ad len cap) n) => intB_of (b := true) (bb := true) h H.out.2 (by rw [decide_eq_false h0]; rfl))
      clear hl h0
      go_enter Tryz.func100, Tryz.ntmps100
      go_wp2_with fail
      refine bodyPost_ret (v := .agg #[.bool true, .slice ad len cap]) (by first | (simp [results, Tryz.results100, go_sem]; done) | simp [results, Tryz.results100, go_sem, hz]) rfl ⟨_, rfl, HI.out _ (H.out.1.below (bel_alloc _ _)), bel_alloc _ _⟩
set_option maxHeartbeats 800000 in
theorem rsign_any (v : Value) (z : Int) (k : Nat) (w : World) (h : IntB 161 w v z k) :
    Calls Tryz.prog 98 #[v] w fun e w' => e = .returned (.int .i64 (sgnZ z)) ∧ Below w.heap.size w w' := by
  obtain ⟨ad, len, cap, rfl, hr⟩ := h.shape
  have hl := refB_len (refB_part h)
  clear h hr
  by_cases h0 : z = 0
  · have hz : len = 0 := hl.2 (by omega)
    subst hz h0
    clear hl
    go_enter Tryz.func98, Tryz.ntmps98
    go_wp2_with fail
    go_ret
    exact ⟨rfl, bel_alloc _ _⟩
  · have hz : ((len : Int) == 0) = false := beq_eq_false_iff_ne.2 (by have := fun e => h0 (Int.natAbs_eq_zero.1 (hl.1 e)); omega)
    clear hl
    by_cases hn : z < 0
    · rw [decide_eq_true hn, show sgnZ z = -1 by unfold sgnZ; rw [if_pos hn]]
      go_enter Tryz.func98, Tryz.ntmps98
      go_wp2_with fail
      go_ret
      exact ⟨rfl, bel_alloc _ _⟩
    · rw [decide_eq_false hn, show sgnZ z = 1 by unfold sgnZ; rw [if_neg hn, if_pos (by omega)]]
      go_enter Tryz.func98, Tryz.ntmps98
      go_wp2_with fail
      go_ret
      exact ⟨rfl, bel_alloc _ _⟩
set_option maxHeartbeats 800000 in
theorem rneg_any (v : Value) (z : Int) (k : Nat) (w : World) (h : IntB 161 w v z k) :
    Calls Tryz.prog 122 #[v] w fun e w' => ∃ v', e = .returned v' ∧ IntB 161 w' v' (-z) k ∧ Below w.heap.size w w' := by
  obtain ⟨bz, ad, len, cap, rfl, hr⟩ := h.shape2
  have H := Lib.hid (refB_part h)
  have HY := Lib.hid (show sg (!bz) z.natAbs = -z by rw [hr.out]; exact sg_not z)
  clear h hr
  go_enter Tryz.func122, Tryz.ntmps122
  go_wp2_with fail
  refine (rfrom_any (!bz) _ z.natAbs k _ (H.out.below (bel_alloc2 _ _ _))).mono ?_
  rintro e w1 ⟨v1, rfl, hn1, hb1⟩
  rw [HY.out] at hn1
  obtain ⟨bbR, adR, lenR, capR, rfl, hrR⟩ := hn1.shape2
  have hslR := (Slot.of (n := 2) ((heldN2 (w := w)).below hb1).2.1 rfl)
  obtain ⟨xR, yR, hxR, hyR, hfxR, hfyR⟩ := hslR.two
  have HRR := Lib.hid (fin_int hn1 hslR (by decide) (bel_on (bel_alloc2 _ _ _) hb1) (by omega))
  clear hrR hslR hn1 hb1
  go_wp2
  refine bodyPost_ret (v := .agg #[.bool bbR, .slice adR lenR capR]) (by simp [results, Tryz.results122, go_sem, HRR.out.2.2.1, HRR.out.2.2.2]) rfl (⟨_, rfl, HRR.out.1, HRR.out.2.1⟩)
set_option maxRecDepth 100000 in
set_option maxHeartbeats 1600000 in
theorem rimul_any (v u : Value) (x y : Int) (k j : Nat) (w : World) (h : IntB 161 w v x k) (h' : IntB 161 w u y j) (hk : k ≤ 5000000) (hj : j ≤ 5000000) :
    Calls Tryz.prog 59 #[v, u] w fun e w' => ∃ v', e = .returned v' ∧ IntB 161 w' v' (x * y) (k + j) ∧ Below w.heap.size w w' := by
  obtain ⟨ad, len, cap, rfl, hr⟩ := h.shape
  obtain ⟨ad', len', cap', rfl, hr'⟩ := h'.shape
  have H := Lib.hid (refB_part h)
  have H' := Lib.hid (refB_part h')
  clear h hr h' hr'
  generalize hbx : decide (x < 0) = bx
  generalize hby : decide (y < 0) = bz
  have HSG := Lib.hid (show sg (!(bx == bz)) (x.natAbs * y.natAbs) = x * y by rw [← hbx, ← hby]; exact sg_mul x y)
  clear hbx hby
  go_enter Tryz.func59, Tryz.ntmps59
  go_wp2_with fail
  have hh := heldN3 (w := w) (c0 := #[Value.bool bx, Value.slice ad len cap]) (t0 := 46) (c1 := #[Value.bool bz, Value.slice ad' len' cap']) (t1 := 46) (c2 := #[Value.bool false, Value.slice none 0 0]) (t2 := 46)
  have hbX := bel_alloc3 w (Obj.cells #[Value.bool bx, Value.slice ad len cap] 46) (Obj.cells #[Value.bool bz, Value.slice ad' len' cap'] 46) (Obj.cells #[Value.bool false, Value.slice none 0 0] 46)
  generalize ((w.alloc (Obj.cells #[Value.bool bx, Value.slice ad len cap] 46)).alloc (Obj.cells #[Value.bool bz, Value.slice ad' len' cap'] 46)).alloc (Obj.cells #[Value.bool false, Value.slice none 0 0] 46) = X at *
  have hc0 := cell0 hh.1
  have hc1 := cell1 hh.1
  have hd0 := cell0 hh.2.1
  have hd1 := cell1 hh.2.1
  have HSL := Lib.hid (Slot.of (n := 2) hh.2.2.1 rfl)
  have HBX := Lib.hid hbX
  clear hh hbX
  refine wp_region_sched (fun w' => w'.cell? ⟨w.heap.size, 0, none⟩ = some (.bool bx) ∧ w'.cell? ⟨w.heap.size, 1, none⟩ = some (.slice ad len cap) ∧ w'.cell? ⟨w.heap.size + 1, 0, none⟩ = some (.bool bz) ∧ w'.cell? ⟨w.heap.size + 1, 1, none⟩ = some (.slice ad' len' cap') ∧ Slot w' (w.heap.size + 1 + 1) 46 2 ∧ Below w.heap.size w w') [(0, true), (1, true), (2, true), (3, true), (4, true), (5, true), (6, true), (7, true), (8, true), (9, false), (10, false), (11, false)] (by kernel_rfl) (by kernel_rfl) ?_ (fun hHeld => ?_)
  · (try dsimp only)
    exact ⟨hc0, hc1, hd0, hd1, HSL.out.drew, HBX.out.drew⟩
  try dsimp only at hHeld
  repeat (refine wpSched_at (by simp only [List.getElem?_toArray, List.getElem?_cons_zero, List.getElem?_cons_succ]; rfl) ?_; (first | (apply wpAt_take rfl; (intro wx hSx; (try dsimp only at hSx); go_simp; (try with_reducible rfl)); simp only [Act.put, List.setIfInBounds_toArray, List.set_cons_zero, List.set_cons_succ]) | (refine wpAt_skip rfl ?_; simp only [Act.put, List.setIfInBounds_toArray, List.set_cons_zero, List.set_cons_succ]) | (refine wpAt_pass rfl hHeld ?_; simp only [Act.put, List.setIfInBounds_toArray, List.set_cons_zero, List.set_cons_succ]) | (refine wpAt_eff rfl (fun K hK => ?_); ((obtain ⟨x0, y0, hx0, hy0, hfx0, hfy0⟩ := hHeld.2.2.2.2.1.two); (try simp only [cell_drew, frozen_drew] at hx0 hy0 hfx0 hfy0)); go_simp; (first | (go_at_call 89; (with_reducible refine (rmulB (.slice ad len cap) (.slice ad' len' cap') x.natAbs y.natAbs k j _ ?_ ?_ (by omega) (by omega)).mono ?_); (exact H.out.below hHeld.2.2.2.2.2); (exact H'.out.below hHeld.2.2.2.2.2); rintro e w' ⟨vf, rfl, hn, hb⟩; (try replace NF := Lib.hid (NF.out.below hb)); have NF := Lib.hid hn; have hS := And.intro trivial (And.intro (cell_below hHeld.1 hb) (And.intro (cell_below hHeld.2.1 hb) (And.intro (cell_below hHeld.2.2.1 hb) (And.intro (cell_below hHeld.2.2.2.1 hb) (And.intro (hHeld.2.2.2.2.1.below hb) (bel_on hHeld.2.2.2.2.2 hb)))))); clear hb hHeld hn) | (go_at_call 100; (with_reducible refine (rfrom_any (!(bx == bz)) vf (x.natAbs * y.natAbs) (k + j) _ ?_).mono ?_); (exact NF.out); rintro e w' ⟨vs, rfl, hn, hb⟩; (try replace NF := Lib.hid (NF.out.below hb)); have NS := Lib.hid hn; (rw [HSG.out] at NS); obtain ⟨bbR, adR, lenR, capR, rfl, hrR⟩ := NS.out.shape2; have hS := And.intro trivial (And.intro (cell_below hHeld.1 hb) (And.intro (cell_below hHeld.2.1 hb) (And.intro (cell_below hHeld.2.2.1 hb) (And.intro (cell_below hHeld.2.2.2.1 hb) (And.intro (hHeld.2.2.2.2.1.below hb) (bel_on hHeld.2.2.2.2.2 hb)))))); clear hb hHeld hn) | (try simp only [cell_drew, slot_drew, below_drew] at hHeld)); (refine hK.out _ _ ?_ (fun hHeld => ?_)); ((try dsimp only); ((try simp only [cell_drew, slot_drew, below_drew]); refine ⟨?_, ?_, ?_, ?_, ?_, ?_⟩; (first | exact hS.2.1 | with_reducible exact cell_set hHeld.1 (by omega) | with_reducible exact cell_set (cell_set hHeld.1 (by omega)) (by omega)); (first | exact hS.2.2.1 | with_reducible exact cell_set hHeld.2.1 (by omega) | with_reducible exact cell_set (cell_set hHeld.2.1 (by omega)) (by omega)); (first | exact hS.2.2.2.1 | with_reducible exact cell_set hHeld.2.2.1 (by omega) | with_reducible exact cell_set (cell_set hHeld.2.2.1 (by omega)) (by omega)); (first | exact hS.2.2.2.2.1 | with_reducible exact cell_set hHeld.2.2.2.1 (by omega) | with_reducible exact cell_set (cell_set hHeld.2.2.2.1 (by omega)) (by omega)); (first | exact hS.2.2.2.2.2.1 | with_reducible exact hHeld.2.2.2.2.1.set _ _ _ | with_reducible exact (hHeld.2.2.2.2.1.set _ _ _).set _ _ _); (first | exact hS.2.2.2.2.2.2 | with_reducible exact bel_set1 hHeld.2.2.2.2.2 (by omega) | with_reducible exact bel_set2 hHeld.2.2.2.2.2 (by omega) (by omega)))); clear hK K; (try clear hS); (try clear hfx0 hx0 x0); (try clear hfy0 hy0 y0); (try clear hfx1 hx1 x1); (try clear hfy1 hy1 y1); (try dsimp only at hHeld))))
  refine wpSched_nil ?_
  rename_i hOld
  have HRR := Lib.hid (fin_int NS.out hOld.2.2.2.2.1 (by decide) hOld.2.2.2.2.2 (by omega))
  clear hOld hHeld
  go_wp2_with fail
  refine bodyPost_ret (v := .agg #[.bool bbR, .slice adR lenR capR]) (by simp [results, Tryz.results59, go_sem, HRR.out.2.2.1, HRR.out.2.2.2]) rfl (⟨_, rfl, HRR.out.1.mono (by omega), HRR.out.2.1⟩)
theorem sg_same2 {x y : Int} (h : decide (x < 0) = decide (y < 0)) : sg (decide (x < 0)) (x.natAbs + y.natAbs) = x + y := by
  have := sg_same (n := y.natAbs) h
  rw [sg_of] at this
  rw [h]; exact this
theorem sg_left2 {x y : Int} (h : decide (x < 0) = !decide (y < 0)) (hl : y.natAbs ≤ x.natAbs) : sg (decide (x < 0)) (x.natAbs - y.natAbs) = x + y := by
  have := sg_left h hl
  rw [sg_of] at this
  rw [h]; exact this
theorem sg_right2 {x y : Int} (h : decide (x < 0) = !decide (y < 0)) (hl : x.natAbs < y.natAbs) : sg (decide (y < 0)) (y.natAbs - x.natAbs) = x + y := by
  have := sg_right h hl
  rwa [sg_of] at this
set_option maxRecDepth 100000 in
set_option maxHeartbeats 3200000 in
theorem riadd_any (v u : Value) (x y : Int) (k j : Nat) (w : World) (h : IntB 161 w v x k) (h' : IntB 161 w u y j) (hk : k ≤ 4000000) (hj : j ≤ 4000000) :
    Calls Tryz.prog 88 #[v, u] w fun e w' => ∃ v', e = .returned v' ∧ IntB 161 w' v' (x + y) (k + j + 1) ∧ Below w.heap.size w w' := by
  obtain ⟨ad, len, cap, rfl, hr⟩ := h.shape
  obtain ⟨ad', len', cap', rfl, hr'⟩ := h'.shape
  have H := Lib.hid (refB_part h)
  have H' := Lib.hid (refB_part h')
  clear h hr h' hr'
  generalize hbx : decide (x < 0) = bx
  generalize hby : decide (y < 0) = bz
  by_cases hs : (bx == bz) = true
  · have HSG := Lib.hid (show sg bx (x.natAbs + y.natAbs) = x + y by rw [← hbx]; exact sg_same2 (by rw [hbx, hby]; simpa using hs))
    clear hbx hby
    go_enter Tryz.func88, Tryz.ntmps88
    go_wp2_with fail
    have hh := heldN3 (w := w) (c0 := #[Value.bool bx, Value.slice ad len cap]) (t0 := 46) (c1 := #[Value.bool bz, Value.slice ad' len' cap']) (t1 := 46) (c2 := #[Value.bool false, Value.slice none 0 0]) (t2 := 46)
    have hbX := bel_alloc3 w (Obj.cells #[Value.bool bx, Value.slice ad len cap] 46) (Obj.cells #[Value.bool bz, Value.slice ad' len' cap'] 46) (Obj.cells #[Value.bool false, Value.slice none 0 0] 46)
    generalize ((w.alloc (Obj.cells #[Value.bool bx, Value.slice ad len cap] 46)).alloc (Obj.cells #[Value.bool bz, Value.slice ad' len' cap'] 46)).alloc (Obj.cells #[Value.bool false, Value.slice none 0 0] 46) = X at *
    have hc0 := cell0 hh.1
    have hc1 := cell1 hh.1
    have hd0 := cell0 hh.2.1
    have hd1 := cell1 hh.2.1
    have HSL := Lib.hid (Slot.of (n := 2) hh.2.2.1 rfl)
    have HBX := Lib.hid hbX
    clear hh hbX
    refine wp_region_sched (fun w' => w'.cell? ⟨w.heap.size, 0, none⟩ = some (.bool bx) ∧ w'.cell? ⟨w.heap.size, 1, none⟩ = some (.slice ad len cap) ∧ w'.cell? ⟨w.heap.size + 1, 0, none⟩ = some (.bool bz) ∧ w'.cell? ⟨w.heap.size + 1, 1, none⟩ = some (.slice ad' len' cap') ∧ Slot w' (w.heap.size + 1 + 1) 46 2 ∧ Below w.heap.size w w') [(0, true), (1, true), (2, true), (3, true), (4, true), (5, true), (6, false), (7, false), (8, false)] (by kernel_rfl) (by kernel_rfl) ?_ (fun hHeld => ?_)
    · (try dsimp only)
      exact ⟨hc0, hc1, hd0, hd1, HSL.out.drew, HBX.out.drew⟩
    try dsimp only at hHeld
    repeat (refine wpSched_at (by simp only [List.getElem?_toArray, List.getElem?_cons_zero, List.getElem?_cons_succ]; rfl) ?_; (first | (apply wpAt_take rfl; (intro wx hSx; (try dsimp only at hSx); go_simp; (try with_reducible rfl)); simp only [Act.put, List.setIfInBounds_toArray, List.set_cons_zero, List.set_cons_succ]) | (refine wpAt_skip rfl ?_; simp only [Act.put, List.setIfInBounds_toArray, List.set_cons_zero, List.set_cons_succ]) | (refine wpAt_pass rfl hHeld ?_; simp only [Act.put, List.setIfInBounds_toArray, List.set_cons_zero, List.set_cons_succ]) | (refine wpAt_eff rfl (fun K hK => ?_); ((obtain ⟨x0, y0, hx0, hy0, hfx0, hfy0⟩ := hHeld.2.2.2.2.1.two); (try simp only [cell_drew, frozen_drew] at hx0 hy0 hfx0 hfy0)); go_simp; (first | (go_at_call 123; (with_reducible refine (raddB (.slice ad len cap) (.slice ad' len' cap') x.natAbs y.natAbs k j _ ?_ ?_ (by omega) (by omega)).mono ?_); (exact H.out.below hHeld.2.2.2.2.2); (exact H'.out.below hHeld.2.2.2.2.2); rintro e w' ⟨vf, rfl, hn, hb⟩; (try replace NF := Lib.hid (NF.out.below hb)); have NF := Lib.hid hn; have hS := And.intro trivial (And.intro (cell_below hHeld.1 hb) (And.intro (cell_below hHeld.2.1 hb) (And.intro (cell_below hHeld.2.2.1 hb) (And.intro (cell_below hHeld.2.2.2.1 hb) (And.intro (hHeld.2.2.2.2.1.below hb) (bel_on hHeld.2.2.2.2.2 hb)))))); clear hb hHeld hn) | (go_at_call 100; (with_reducible refine (rfrom_any bx vf (x.natAbs + y.natAbs) (k + j + 1) _ ?_).mono ?_); (exact NF.out); rintro e w' ⟨vs, rfl, hn, hb⟩; (try replace NF := Lib.hid (NF.out.below hb)); have NS := Lib.hid hn; (rw [HSG.out] at NS); obtain ⟨bbR, adR, lenR, capR, rfl, hrR⟩ := NS.out.shape2; have hS := And.intro trivial (And.intro (cell_below hHeld.1 hb) (And.intro (cell_below hHeld.2.1 hb) (And.intro (cell_below hHeld.2.2.1 hb) (And.intro (cell_below hHeld.2.2.2.1 hb) (And.intro (hHeld.2.2.2.2.1.below hb) (bel_on hHeld.2.2.2.2.2 hb)))))); clear hb hHeld hn) | (try simp only [cell_drew, slot_drew, below_drew] at hHeld)); (refine hK.out _ _ ?_ (fun hHeld => ?_)); ((try dsimp only); ((try simp only [cell_drew, slot_drew, below_drew]); refine ⟨?_, ?_, ?_, ?_, ?_, ?_⟩; (first | exact hS.2.1 | with_reducible exact cell_set hHeld.1 (by omega) | with_reducible exact cell_set (cell_set hHeld.1 (by omega)) (by omega)); (first | exact hS.2.2.1 | with_reducible exact cell_set hHeld.2.1 (by omega) | with_reducible exact cell_set (cell_set hHeld.2.1 (by omega)) (by omega)); (first | exact hS.2.2.2.1 | with_reducible exact cell_set hHeld.2.2.1 (by omega) | with_reducible exact cell_set (cell_set hHeld.2.2.1 (by omega)) (by omega)); (first | exact hS.2.2.2.2.1 | with_reducible exact cell_set hHeld.2.2.2.1 (by omega) | with_reducible exact cell_set (cell_set hHeld.2.2.2.1 (by omega)) (by omega)); (first | exact hS.2.2.2.2.2.1 | with_reducible exact hHeld.2.2.2.2.1.set _ _ _ | with_reducible exact (hHeld.2.2.2.2.1.set _ _ _).set _ _ _); (first | exact hS.2.2.2.2.2.2 | with_reducible exact bel_set1 hHeld.2.2.2.2.2 (by omega) | with_reducible exact bel_set2 hHeld.2.2.2.2.2 (by omega) (by omega)))); clear hK K; (try clear hS); (try clear hfx0 hx0 x0); (try clear hfy0 hy0 y0); (try clear hfx1 hx1 x1); (try clear hfy1 hy1 y1); (try dsimp only at hHeld))))
    refine wpSched_nil ?_
    rename_i hOld
    have HRR := Lib.hid (fin_int NS.out hOld.2.2.2.2.1 (by decide) hOld.2.2.2.2.2 (by omega))
    clear hOld hHeld
    go_wp2_with fail
    refine bodyPost_ret (v := .agg #[.bool bbR, .slice adR lenR capR]) (by simp [results, Tryz.results88, go_sem, HRR.out.2.2.1, HRR.out.2.2.2]) rfl (⟨_, rfl, HRR.out.1.mono (by omega), HRR.out.2.1⟩)
  · have hs' : (bx == bz) = false := by simpa using hs
    have hnb : decide (x < 0) = !decide (y < 0) := by rw [hbx, hby]; exact eq_not_of_ne hs'
    by_cases hl : y.natAbs ≤ x.natAbs
    · have HSG := Lib.hid (show sg bx (x.natAbs - y.natAbs) = x + y by rw [← hbx]; exact sg_left2 hnb hl)
      obtain ⟨C, hC, hC0⟩ : ∃ C : Int, cmpI x.natAbs y.natAbs = C ∧ decide (0 ≤ C) = true := by
        refine ⟨_, rfl, ?_⟩
        unfold cmpI
        rw [if_neg (by omega)]
        split <;> rfl
      clear hbx hby hnb hs
      go_enter Tryz.func88, Tryz.ntmps88
      go_wp2_with fail
      have hh := heldN3 (w := w) (c0 := #[Value.bool bx, Value.slice ad len cap]) (t0 := 46) (c1 := #[Value.bool bz, Value.slice ad' len' cap']) (t1 := 46) (c2 := #[Value.bool false, Value.slice none 0 0]) (t2 := 46)
      have hbX := bel_alloc3 w (Obj.cells #[Value.bool bx, Value.slice ad len cap] 46) (Obj.cells #[Value.bool bz, Value.slice ad' len' cap'] 46) (Obj.cells #[Value.bool false, Value.slice none 0 0] 46)
      generalize ((w.alloc (Obj.cells #[Value.bool bx, Value.slice ad len cap] 46)).alloc (Obj.cells #[Value.bool bz, Value.slice ad' len' cap'] 46)).alloc (Obj.cells #[Value.bool false, Value.slice none 0 0] 46) = X at *
      have hc0 := cell0 hh.1
      have hc1 := cell1 hh.1
      have hd0 := cell0 hh.2.1
      have hd1 := cell1 hh.2.1
      have HSL := Lib.hid (Slot.of (n := 2) hh.2.2.1 rfl)
      have HBX := Lib.hid hbX
      clear hh hbX
      refine (rcmpB (.slice ad len cap) (.slice ad' len' cap') x.natAbs y.natAbs k j _ (H.out.below HBX.out) (H'.out.below HBX.out) (by omega) (by omega)).mono ?_
      rintro e w1 ⟨rfl, hb1⟩
      rw [hC]
      replace hc0 := cell_below hc0 hb1
      replace hc1 := cell_below hc1 hb1
      replace hd0 := cell_below hd0 hb1
      replace hd1 := cell_below hd1 hb1
      replace HSL := Lib.hid (HSL.out.below hb1)
      replace HBX := Lib.hid (bel_on HBX.out hb1)
      clear hb1
      go_wp2_with fail
      clear hC0 hC
      refine wp_region_sched (fun w' => w'.cell? ⟨w.heap.size, 0, none⟩ = some (.bool bx) ∧ w'.cell? ⟨w.heap.size, 1, none⟩ = some (.slice ad len cap) ∧ w'.cell? ⟨w.heap.size + 1, 0, none⟩ = some (.bool bz) ∧ w'.cell? ⟨w.heap.size + 1, 1, none⟩ = some (.slice ad' len' cap') ∧ Slot w' (w.heap.size + 1 + 1) 46 2 ∧ Below w.heap.size w w') [(0, true), (1, true), (2, true), (3, true), (4, true), (5, true), (6, false), (7, false), (8, false)] (by kernel_rfl) (by kernel_rfl) ?_ (fun hHeld => ?_)
      · (try dsimp only)
        exact ⟨hc0, hc1, hd0, hd1, HSL.out.drew, HBX.out.drew⟩
      try dsimp only at hHeld
      repeat (refine wpSched_at (by simp only [List.getElem?_toArray, List.getElem?_cons_zero, List.getElem?_cons_succ]; rfl) ?_; (first | (apply wpAt_take rfl; (intro wx hSx; (try dsimp only at hSx); go_simp; (try with_reducible rfl)); simp only [Act.put, List.setIfInBounds_toArray, List.set_cons_zero, List.set_cons_succ]) | (refine wpAt_skip rfl ?_; simp only [Act.put, List.setIfInBounds_toArray, List.set_cons_zero, List.set_cons_succ]) | (refine wpAt_pass rfl hHeld ?_; simp only [Act.put, List.setIfInBounds_toArray, List.set_cons_zero, List.set_cons_succ]) | (refine wpAt_eff rfl (fun K hK => ?_); ((obtain ⟨x0, y0, hx0, hy0, hfx0, hfy0⟩ := hHeld.2.2.2.2.1.two); (try simp only [cell_drew, frozen_drew] at hx0 hy0 hfx0 hfy0)); go_simp; (first | (go_at_call 124; (with_reducible refine (rsubB (.slice ad len cap) (.slice ad' len' cap') x.natAbs y.natAbs k j _ ?_ ?_ (by omega) (by omega) hl).mono ?_); (exact H.out.below hHeld.2.2.2.2.2); (exact H'.out.below hHeld.2.2.2.2.2); rintro e w' ⟨vf, rfl, hn, hb⟩; (try replace NF := Lib.hid (NF.out.below hb)); have NF := Lib.hid hn; have hS := And.intro trivial (And.intro (cell_below hHeld.1 hb) (And.intro (cell_below hHeld.2.1 hb) (And.intro (cell_below hHeld.2.2.1 hb) (And.intro (cell_below hHeld.2.2.2.1 hb) (And.intro (hHeld.2.2.2.2.1.below hb) (bel_on hHeld.2.2.2.2.2 hb)))))); clear hb hHeld hn) | (go_at_call 100; (with_reducible refine (rfrom_any bx vf (x.natAbs - y.natAbs) (k) _ ?_).mono ?_); (exact NF.out); rintro e w' ⟨vs, rfl, hn, hb⟩; (try replace NF := Lib.hid (NF.out.below hb)); have NS := Lib.hid hn; (rw [HSG.out] at NS); obtain ⟨bbR, adR, lenR, capR, rfl, hrR⟩ := NS.out.shape2; have hS := And.intro trivial (And.intro (cell_below hHeld.1 hb) (And.intro (cell_below hHeld.2.1 hb) (And.intro (cell_below hHeld.2.2.1 hb) (And.intro (cell_below hHeld.2.2.2.1 hb) (And.intro (hHeld.2.2.2.2.1.below hb) (bel_on hHeld.2.2.2.2.2 hb)))))); clear hb hHeld hn) | (try simp only [cell_drew, slot_drew, below_drew] at hHeld)); (refine hK.out _ _ ?_ (fun hHeld => ?_)); ((try dsimp only); ((try simp only [cell_drew, slot_drew, below_drew]); refine ⟨?_, ?_, ?_, ?_, ?_, ?_⟩; (first | exact hS.2.1 | with_reducible exact cell_set hHeld.1 (by omega) | with_reducible exact cell_set (cell_set hHeld.1 (by omega)) (by omega)); (first | exact hS.2.2.1 | with_reducible exact cell_set hHeld.2.1 (by omega) | with_reducible exact cell_set (cell_set hHeld.2.1 (by omega)) (by omega)); (first | exact hS.2.2.2.1 | with_reducible exact cell_set hHeld.2.2.1 (by omega) | with_reducible exact cell_set (cell_set hHeld.2.2.1 (by omega)) (by omega)); (first | exact hS.2.2.2.2.1 | with_reducible exact cell_set hHeld.2.2.2.1 (by omega) | with_reducible exact cell_set (cell_set hHeld.2.2.2.1 (by omega)) (by omega)); (first | exact hS.2.2.2.2.2.1 | with_reducible exact hHeld.2.2.2.2.1.set _ _ _ | with_reducible exact (hHeld.2.2.2.2.1.set _ _ _).set _ _ _); (first | exact hS.2.2.2.2.2.2 | with_reducible exact bel_set1 hHeld.2.2.2.2.2 (by omega) | with_reducible exact bel_set2 hHeld.2.2.2.2.2 (by omega) (by omega)))); clear hK K; (try clear hS); (try clear hfx0 hx0 x0); (try clear hfy0 hy0 y0); (try clear hfx1 hx1 x1); (try clear hfy1 hy1 y1); (try dsimp only at hHeld))))
      refine wpSched_nil ?_
      rename_i hOld
      have HRR := Lib.hid (fin_int NS.out hOld.2.2.2.2.1 (by decide) hOld.2.2.2.2.2 (by omega))
      clear hOld hHeld
      go_wp2_with fail
      refine bodyPost_ret (v := .agg #[.bool bbR, .slice adR lenR capR]) (by simp [results, Tryz.results88, go_sem, HRR.out.2.2.1, HRR.out.2.2.2]) rfl (⟨_, rfl, HRR.out.1.mono (by omega), HRR.out.2.1⟩)
    · have hl' : x.natAbs < y.natAbs := by omega
      have HSG := Lib.hid (show sg bz (y.natAbs - x.natAbs) = x + y by rw [← hby]; exact sg_right2 hnb hl')
      have hC : cmpI x.natAbs y.natAbs = -1 := by unfold cmpI; rw [if_pos hl']
      have hle : x.natAbs ≤ y.natAbs := by omega
      clear hbx hby hnb hs hl
      go_enter Tryz.func88, Tryz.ntmps88
      go_wp2_with fail
      have hh := heldN3 (w := w) (c0 := #[Value.bool bx, Value.slice ad len cap]) (t0 := 46) (c1 := #[Value.bool bz, Value.slice ad' len' cap']) (t1 := 46) (c2 := #[Value.bool false, Value.slice none 0 0]) (t2 := 46)
      have hbX := bel_alloc3 w (Obj.cells #[Value.bool bx, Value.slice ad len cap] 46) (Obj.cells #[Value.bool bz, Value.slice ad' len' cap'] 46) (Obj.cells #[Value.bool false, Value.slice none 0 0] 46)
      generalize ((w.alloc (Obj.cells #[Value.bool bx, Value.slice ad len cap] 46)).alloc (Obj.cells #[Value.bool bz, Value.slice ad' len' cap'] 46)).alloc (Obj.cells #[Value.bool false, Value.slice none 0 0] 46) = X at *
      have hc0 := cell0 hh.1
      have hc1 := cell1 hh.1
      have hd0 := cell0 hh.2.1
      have hd1 := cell1 hh.2.1
      have HSL := Lib.hid (Slot.of (n := 2) hh.2.2.1 rfl)
      have HBX := Lib.hid hbX
      clear hh hbX
      refine (rcmpB (.slice ad len cap) (.slice ad' len' cap') x.natAbs y.natAbs k j _ (H.out.below HBX.out) (H'.out.below HBX.out) (by omega) (by omega)).mono ?_
      rintro e w1 ⟨rfl, hb1⟩
      rw [hC]
      replace hc0 := cell_below hc0 hb1
      replace hc1 := cell_below hc1 hb1
      replace hd0 := cell_below hd0 hb1
      replace hd1 := cell_below hd1 hb1
      replace HSL := Lib.hid (HSL.out.below hb1)
      replace HBX := Lib.hid (bel_on HBX.out hb1)
      clear hb1
      go_wp2_with fail
      clear hC
      refine wp_region_sched (fun w' => w'.cell? ⟨w.heap.size, 0, none⟩ = some (.bool bx) ∧ w'.cell? ⟨w.heap.size, 1, none⟩ = some (.slice ad len cap) ∧ w'.cell? ⟨w.heap.size + 1, 0, none⟩ = some (.bool bz) ∧ w'.cell? ⟨w.heap.size + 1, 1, none⟩ = some (.slice ad' len' cap') ∧ Slot w' (w.heap.size + 1 + 1) 46 2 ∧ Below w.heap.size w w') [(0, true), (1, true), (2, true), (3, true), (4, true), (5, true), (6, false), (7, false), (8, false)] (by kernel_rfl) (by kernel_rfl) ?_ (fun hHeld => ?_)
      · (try dsimp only)
        exact ⟨hc0, hc1, hd0, hd1, HSL.out.drew, HBX.out.drew⟩
      try dsimp only at hHeld
      repeat (refine wpSched_at (by simp only [List.getElem?_toArray, List.getElem?_cons_zero, List.getElem?_cons_succ]; rfl) ?_; (first | (apply wpAt_take rfl; (intro wx hSx; (try dsimp only at hSx); go_simp; (try with_reducible rfl)); simp only [Act.put, List.setIfInBounds_toArray, List.set_cons_zero, List.set_cons_succ]) | (refine wpAt_skip rfl ?_; simp only [Act.put, List.setIfInBounds_toArray, List.set_cons_zero, List.set_cons_succ]) | (refine wpAt_pass rfl hHeld ?_; simp only [Act.put, List.setIfInBounds_toArray, List.set_cons_zero, List.set_cons_succ]) | (refine wpAt_eff rfl (fun K hK => ?_); ((obtain ⟨x0, y0, hx0, hy0, hfx0, hfy0⟩ := hHeld.2.2.2.2.1.two); (try simp only [cell_drew, frozen_drew] at hx0 hy0 hfx0 hfy0)); go_simp; (first | (go_at_call 124; (with_reducible refine (rsubB (.slice ad' len' cap') (.slice ad len cap) y.natAbs x.natAbs j k _ ?_ ?_ (by omega) (by omega) hle).mono ?_); (exact H'.out.below hHeld.2.2.2.2.2); (exact H.out.below hHeld.2.2.2.2.2); rintro e w' ⟨vf, rfl, hn, hb⟩; (try replace NF := Lib.hid (NF.out.below hb)); have NF := Lib.hid hn; have hS := And.intro trivial (And.intro (cell_below hHeld.1 hb) (And.intro (cell_below hHeld.2.1 hb) (And.intro (cell_below hHeld.2.2.1 hb) (And.intro (cell_below hHeld.2.2.2.1 hb) (And.intro (hHeld.2.2.2.2.1.below hb) (bel_on hHeld.2.2.2.2.2 hb)))))); clear hb hHeld hn) | (go_at_call 100; (with_reducible refine (rfrom_any bz vf (y.natAbs - x.natAbs) (j) _ ?_).mono ?_); (exact NF.out); rintro e w' ⟨vs, rfl, hn, hb⟩; (try replace NF := Lib.hid (NF.out.below hb)); have NS := Lib.hid hn; (rw [HSG.out] at NS); obtain ⟨bbR, adR, lenR, capR, rfl, hrR⟩ := NS.out.shape2; have hS := And.intro trivial (And.intro (cell_below hHeld.1 hb) (And.intro (cell_below hHeld.2.1 hb) (And.intro (cell_below hHeld.2.2.1 hb) (And.intro (cell_below hHeld.2.2.2.1 hb) (And.intro (hHeld.2.2.2.2.1.below hb) (bel_on hHeld.2.2.2.2.2 hb)))))); clear hb hHeld hn) | (try simp only [cell_drew, slot_drew, below_drew] at hHeld)); (refine hK.out _ _ ?_ (fun hHeld => ?_)); ((try dsimp only); ((try simp only [cell_drew, slot_drew, below_drew]); refine ⟨?_, ?_, ?_, ?_, ?_, ?_⟩; (first | exact hS.2.1 | with_reducible exact cell_set hHeld.1 (by omega) | with_reducible exact cell_set (cell_set hHeld.1 (by omega)) (by omega)); (first | exact hS.2.2.1 | with_reducible exact cell_set hHeld.2.1 (by omega) | with_reducible exact cell_set (cell_set hHeld.2.1 (by omega)) (by omega)); (first | exact hS.2.2.2.1 | with_reducible exact cell_set hHeld.2.2.1 (by omega) | with_reducible exact cell_set (cell_set hHeld.2.2.1 (by omega)) (by omega)); (first | exact hS.2.2.2.2.1 | with_reducible exact cell_set hHeld.2.2.2.1 (by omega) | with_reducible exact cell_set (cell_set hHeld.2.2.2.1 (by omega)) (by omega)); (first | exact hS.2.2.2.2.2.1 | with_reducible exact hHeld.2.2.2.2.1.set _ _ _ | with_reducible exact (hHeld.2.2.2.2.1.set _ _ _).set _ _ _); (first | exact hS.2.2.2.2.2.2 | with_reducible exact bel_set1 hHeld.2.2.2.2.2 (by omega) | with_reducible exact bel_set2 hHeld.2.2.2.2.2 (by omega) (by omega)))); clear hK K; (try clear hS); (try clear hfx0 hx0 x0); (try clear hfy0 hy0 y0); (try clear hfx1 hx1 x1); (try clear hfy1 hy1 y1); (try dsimp only at hHeld))))
      refine wpSched_nil ?_
      rename_i hOld
      have HRR := Lib.hid (fin_int NS.out hOld.2.2.2.2.1 (by decide) hOld.2.2.2.2.2 (by omega))
      clear hOld hHeld
      go_wp2_with fail
      refine bodyPost_ret (v := .agg #[.bool bbR, .slice adR lenR capR]) (by simp [results, Tryz.results88, go_sem, HRR.out.2.2.1, HRR.out.2.2.2]) rfl (⟨_, rfl, HRR.out.1.mono (by omega), HRR.out.2.1⟩)
set_option maxRecDepth 100000 in
set_option maxHeartbeats 1600000 in
theorem risub_any (v u : Value) (x y : Int) (k j : Nat) (w : World) (h : IntB 161 w v x k) (h' : IntB 161 w u y j) (hk : k ≤ 4000000) (hj : j ≤ 4000000) :
    Calls Tryz.prog 99 #[v, u] w fun e w' => ∃ v', e = .returned v' ∧ IntB 161 w' v' (x - y) (k + j + 1) ∧ Below w.heap.size w w' := by
  obtain ⟨bx, ad, len, cap, rfl, hr⟩ := h.shape2
  obtain ⟨bz, ad', len', cap', rfl, hr'⟩ := h'.shape2
  have H := Lib.hid h
  have H' := Lib.hid h'
  clear h hr h' hr'
  go_enter Tryz.func99, Tryz.ntmps99
  go_wp2_with fail
  have hh := heldN3 (w := w) (c0 := #[Value.bool bx, Value.slice ad len cap]) (t0 := 46) (c1 := #[Value.bool bz, Value.slice ad' len' cap']) (t1 := 46) (c2 := #[Value.bool false, Value.slice none 0 0]) (t2 := 46)
  have hbX := bel_alloc3 w (Obj.cells #[Value.bool bx, Value.slice ad len cap] 46) (Obj.cells #[Value.bool bz, Value.slice ad' len' cap'] 46) (Obj.cells #[Value.bool false, Value.slice none 0 0] 46)
  generalize ((w.alloc (Obj.cells #[Value.bool bx, Value.slice ad len cap] 46)).alloc (Obj.cells #[Value.bool bz, Value.slice ad' len' cap'] 46)).alloc (Obj.cells #[Value.bool false, Value.slice none 0 0] 46) = X at *
  have hc0 := cell0 hh.1
  have hc1 := cell1 hh.1
  have hd0 := cell0 hh.2.1
  have hd1 := cell1 hh.2.1
  have HSL := Lib.hid (Slot.of (n := 2) hh.2.2.1 rfl)
  have HBX := Lib.hid hbX
  clear hh hbX
  refine wp_region_sched (fun w' => w'.cell? ⟨w.heap.size, 0, none⟩ = some (.bool bx) ∧ w'.cell? ⟨w.heap.size, 1, none⟩ = some (.slice ad len cap) ∧ w'.cell? ⟨w.heap.size + 1, 0, none⟩ = some (.bool bz) ∧ w'.cell? ⟨w.heap.size + 1, 1, none⟩ = some (.slice ad' len' cap') ∧ Slot w' (w.heap.size + 1 + 1) 46 2 ∧ Below w.heap.size w w') [(0, true), (1, true), (2, false), (3, false), (4, false)] (by kernel_rfl) (by kernel_rfl) ?_ (fun hHeld => ?_)
  · (try dsimp only)
    exact ⟨hc0, hc1, hd0, hd1, HSL.out.drew, HBX.out.drew⟩
  try dsimp only at hHeld
  repeat (refine wpSched_at (by simp only [List.getElem?_toArray, List.getElem?_cons_zero, List.getElem?_cons_succ]; rfl) ?_; (first | (apply wpAt_take rfl; (intro wx hSx; (try dsimp only at hSx); go_simp; (try with_reducible rfl)); simp only [Act.put, List.setIfInBounds_toArray, List.set_cons_zero, List.set_cons_succ]) | (refine wpAt_skip rfl ?_; simp only [Act.put, List.setIfInBounds_toArray, List.set_cons_zero, List.set_cons_succ]) | (refine wpAt_pass rfl hHeld ?_; simp only [Act.put, List.setIfInBounds_toArray, List.set_cons_zero, List.set_cons_succ]) | (refine wpAt_eff rfl (fun K hK => ?_); ((obtain ⟨x0, y0, hx0, hy0, hfx0, hfy0⟩ := hHeld.2.2.2.2.1.two); (try simp only [cell_drew, frozen_drew] at hx0 hy0 hfx0 hfy0)); go_simp; (first | (go_at_call 122; (with_reducible refine (rneg_any (.agg #[.bool bz, .slice ad' len' cap']) y j _ ?_).mono ?_); (exact H'.out.below hHeld.2.2.2.2.2); rintro e w' ⟨vf, rfl, hn, hb⟩; (try replace NF := Lib.hid (NF.out.below hb)); have NF := Lib.hid hn; have hS := And.intro trivial (And.intro (cell_below hHeld.1 hb) (And.intro (cell_below hHeld.2.1 hb) (And.intro (cell_below hHeld.2.2.1 hb) (And.intro (cell_below hHeld.2.2.2.1 hb) (And.intro (hHeld.2.2.2.2.1.below hb) (bel_on hHeld.2.2.2.2.2 hb)))))); clear hb hHeld hn) | (go_at_call 88; (with_reducible refine (riadd_any (.agg #[.bool bx, .slice ad len cap]) vf x (-y) k j _ ?_ ?_ hk hj).mono ?_); (exact H.out.below hHeld.2.2.2.2.2); (exact NF.out); rintro e w' ⟨vs, rfl, hn, hb⟩; (try replace NF := Lib.hid (NF.out.below hb)); have NS := Lib.hid hn; (rw [← Int.sub_eq_add_neg] at NS); obtain ⟨bbR, adR, lenR, capR, rfl, hrR⟩ := NS.out.shape2; have hS := And.intro trivial (And.intro (cell_below hHeld.1 hb) (And.intro (cell_below hHeld.2.1 hb) (And.intro (cell_below hHeld.2.2.1 hb) (And.intro (cell_below hHeld.2.2.2.1 hb) (And.intro (hHeld.2.2.2.2.1.below hb) (bel_on hHeld.2.2.2.2.2 hb)))))); clear hb hHeld hn) | (try simp only [cell_drew, slot_drew, below_drew] at hHeld)); (refine hK.out _ _ ?_ (fun hHeld => ?_)); ((try dsimp only); ((try simp only [cell_drew, slot_drew, below_drew]); refine ⟨?_, ?_, ?_, ?_, ?_, ?_⟩; (first | exact hS.2.1 | with_reducible exact cell_set hHeld.1 (by omega) | with_reducible exact cell_set (cell_set hHeld.1 (by omega)) (by omega)); (first | exact hS.2.2.1 | with_reducible exact cell_set hHeld.2.1 (by omega) | with_reducible exact cell_set (cell_set hHeld.2.1 (by omega)) (by omega)); (first | exact hS.2.2.2.1 | with_reducible exact cell_set hHeld.2.2.1 (by omega) | with_reducible exact cell_set (cell_set hHeld.2.2.1 (by omega)) (by omega)); (first | exact hS.2.2.2.2.1 | with_reducible exact cell_set hHeld.2.2.2.1 (by omega) | with_reducible exact cell_set (cell_set hHeld.2.2.2.1 (by omega)) (by omega)); (first | exact hS.2.2.2.2.2.1 | with_reducible exact hHeld.2.2.2.2.1.set _ _ _ | with_reducible exact (hHeld.2.2.2.2.1.set _ _ _).set _ _ _); (first | exact hS.2.2.2.2.2.2 | with_reducible exact bel_set1 hHeld.2.2.2.2.2 (by omega) | with_reducible exact bel_set2 hHeld.2.2.2.2.2 (by omega) (by omega)))); clear hK K; (try clear hS); (try clear hfx0 hx0 x0); (try clear hfy0 hy0 y0); (try clear hfx1 hx1 x1); (try clear hfy1 hy1 y1); (try dsimp only at hHeld))))
  refine wpSched_nil ?_
  rename_i hOld
  have HRR := Lib.hid (fin_int NS.out hOld.2.2.2.2.1 (by decide) hOld.2.2.2.2.2 (by omega))
  clear hOld hHeld
  go_wp2_with fail
  refine bodyPost_ret (v := .agg #[.bool bbR, .slice adR lenR capR]) (by simp [results, Tryz.results99, go_sem, HRR.out.2.2.1, HRR.out.2.2.2]) rfl (⟨_, rfl, HRR.out.1, HRR.out.2.1⟩)
set_option maxHeartbeats 800000 in
theorem ricmp_any (v u : Value) (x y : Int) (k j : Nat) (w : World) (h : IntB 161 w v x k) (h' : IntB 161 w u y j) (hk : k ≤ 4000000) (hj : j ≤ 4000000) :
    Calls Tryz.prog 58 #[v, u] w fun e w' => e = .returned (.int .i64 (cmpZ x y)) ∧ Below w.heap.size w w' := by
  obtain ⟨bx, ad, len, cap, rfl, hr⟩ := h.shape2
  obtain ⟨bz, ad', len', cap', rfl, hr'⟩ := h'.shape2
  have H := Lib.hid h
  have H' := Lib.hid h'
  clear h hr h' hr'
  go_enter Tryz.func58, Tryz.ntmps58
  go_wp2_with fail
  refine (risub_any _ _ x y k j _ (H.out.below (bel_alloc2 _ _ _)) (H'.out.below (bel_alloc2 _ _ _)) hk hj).mono ?_
  rintro e w1 ⟨v1, rfl, hn1, hb1⟩
  have HN1 := Lib.hid hn1
  have HB1 := Lib.hid (bel_on (bel_alloc2 _ _ _) hb1)
  clear hn1 hb1
  go_wp2_with fail
  refine (rsign_any v1 (x - y) _ _ HN1.out).mono ?_
  rintro e w2 ⟨rfl, hb2⟩
  have HB2 := Lib.hid (bel_on HB1.out hb2)
  clear hb2
  go_wp2
  go_ret
  refine ⟨ret_int ?_, HB2.out⟩
  unfold sgnZ cmpZ
  split <;> split <;> (try split) <;> (try split) <;> omega
set_option maxHeartbeats 800000 in
theorem ritext_any (v : Value) (z : Int) (k : Nat) (w : World) (h : IntB 161 w v z k) (hk : k ≤ 1000000) :
    Calls Tryz.prog 156 #[v] w fun e w' => e = .returned (.string (intS z)) ∧ Below w.heap.size w w' := by
  obtain ⟨ad, len, cap, rfl, hr⟩ := h.shape
  have H := Lib.hid (refB_part h)
  have hlen : (decS z.natAbs).size ≤ 10 * k + 1 := dec_len_pw h.2
  clear h hr
  by_cases h0 : z < 0
  · rw [decide_eq_true h0, intS_neg h0]
    go_enter Tryz.func156, Tryz.ntmps156
    go_wp2_with fail
    refine (rtextB _ z.natAbs k _ (H.out.below (bel_alloc _ _)) hk).mono ?_
    rintro e w1 ⟨rfl, hb⟩
    have HB := Lib.hid (bel_on (bel_alloc _ _) hb)
    clear hb
    go_wp2
    go_ret
    exact ⟨rfl, HB.out⟩
  · rw [decide_eq_false h0, intS_pos h0]
    go_enter Tryz.func156, Tryz.ntmps156
    go_wp2_with fail
    refine (rtextB _ z.natAbs k _ (H.out.below (bel_alloc _ _)) hk).mono ?_
    rintro e w1 ⟨rfl, hb⟩
    have HB := Lib.hid (bel_on (bel_alloc _ _) hb)
    clear hb
    go_wp2
    go_ret
    exact ⟨rfl, HB.out⟩
set_option maxHeartbeats 800000 in
theorem itext_any (v : Value) (z : Int) (k : Nat) (w : World) (h : IntB 161 w v z k) (hk : k ≤ 1000000) (hT : TabsP w) :
    Calls Tryz.prog 155 #[v] w fun e w' => e = .returned (.string (intS z)) ∧ Below w.heap.size w w' := by
  obtain ⟨ad, len, cap, rfl, hr⟩ := h.shape
  have H := Lib.hid h.part.1
  have HT := Lib.hid hT
  have hlen : (decS z.natAbs).size ≤ 10 * k + 1 := dec_len_pw h.2
  clear h hr hT
  by_cases h0 : z < 0
  · rw [decide_eq_true h0, intS_neg h0]
    go_enter Tryz.func155, Tryz.ntmps155
    go_wp2_with fail
    refine (text_any _ z.natAbs k _ (H.out.below (bel_alloc _ _)) hk (HT.out.below (bel_alloc _ _))).mono ?_
    rintro e w1 ⟨rfl, hb⟩
    have HB := Lib.hid (bel_on (bel_alloc _ _) hb)
    clear hb
    go_wp2
    go_ret
    exact ⟨rfl, HB.out⟩
  · rw [decide_eq_false h0, intS_pos h0]
    go_enter Tryz.func155, Tryz.ntmps155
    go_wp2_with fail
    refine (text_any _ z.natAbs k _ (H.out.below (bel_alloc _ _)) hk (HT.out.below (bel_alloc _ _))).mono ?_
    rintro e w1 ⟨rfl, hb⟩
    have HB := Lib.hid (bel_on (bel_alloc _ _) hb)
    clear hb
    go_wp2
    go_ret
    exact ⟨rfl, HB.out⟩
end Go.Proofs.YtpmnakjllkidiaaGreatDoor

namespace Go.Proofs.YtpmnakjllkidiaaGreatDoor
open Go.RowKit Cin
def QB (w : World) (a b c d : Value) (q : Rat) (k : Nat) : Prop := IB w a b q.num k ∧ IB w c d (denZ q) k ∧ q.den < pw k
def RatB (w : World) (v : Value) (q : Rat) (k : Nat) : Prop := ∃ a b c d, v = .agg #[a, b, c, d] ∧ QB w a b c d q k
theorem mQ {D : TypeId → Bool} (a b c d : Value) (q : Rat) (k : Nat) (hD : D 161 = true := by rfl) : Mono D fun w => QB w a b c d q k := fun _ _ e ⟨h1, h2, h3⟩ => ⟨h1.ext e hD, h2.ext e hD, h3⟩
theorem qpl {w : World} {a b c d : Value} {q : Rat} {k : Nat} (h : QB w a b c d q k) : [a, b, c, d].all Value.oneCell' = true := by
  have p1 := ipl h.1
  have p2 := ipl h.2.1
  simp only [List.all_cons, List.all_nil, Bool.and_true, Bool.and_eq_true] at p1 p2 ⊢
  exact ⟨p1.1, p1.2, p2.1, p2.2⟩
theorem QB.mono {w : World} {a b c d : Value} {q : Rat} {k j : Nat} (h : QB w a b c d q k) (hj : k ≤ j) : QB w a b c d q j := ⟨h.1.mono hj, h.2.1.mono hj, lt_pw_mono h.2.2 hj⟩
theorem wRat {D Z : TypeId → Bool} {w0 : World} {Post : Ending → World → Prop} {F : World → Prop} {L : LC} {E : Env} {tr : Tr} {f : FuncId} {ar : List V1} {args : Array Value} {q : Rat} {m : Nat}
    (hc : ∀ w, Below w0.heap.size w0 w → F w → Calls Tryz.prog f args w fun e w' => ∃ v, e = .returned v ∧ RatB w' v q m ∧ Below w.heap.size w w')
    {E' : Value → Value → Value → Value → Env} (hk : ∀ a b c d, Wk Tryz.prog w0 D Z Post L (fun w => QB w a b c d q m ∧ F w) tr (E' a b c d)) (ha : (ar.map (V1.den [] E)).toArray = args := by rfl) (hE : ∀ a b c d, E ++ [[a, b, c, d]] = E' a b c d := by intros; (simp only [List.cons_append, List.nil_append]) <;> exact rfl) (hD : D 161 = true := by rfl) : Wk Tryz.prog w0 D Z Post L F (.em (.call f ar [some 4]) tr) E := by
  intro hm u hF w e b
  subst ha
  refine (hc w b (hm u.w w e.ext hF)).mono ?_
  rintro e1 w' ⟨v, rfl, ⟨a, b, c, d, rfl, hv⟩, h4⟩
  exact ⟨[a, b, c, d], rfl, qpl hv, h4, hE _ _ _ _ ▸ hk _ _ _ _ ((mQ _ _ _ _ _ _ hD).and hm) (u.more w w') ⟨hv, hm u.w w' (e.below h4).ext hF⟩⟩
theorem sgn_den (q : Rat) : (sgnZ (denZ q) == 0) = decide (q.den = 1) := by
  have := q.den_pos
  unfold sgnZ denZ
  by_cases h : q.den = 1
  · simp [h]
  · rw [if_neg h, if_neg (by omega), if_pos (by omega)]; simp [h]
theorem bottom_any (v : Value) (q : Rat) (k : Nat) (w : World) (h : RatB w v q k) (hk : k ≤ 1000000) :
    Calls Tryz.prog 95 #[v] w fun e w' => ∃ v', e = .returned v' ∧ IntB 161 w' v' (q.den : Int) k ∧ Below w.heap.size w w' := by
  obtain ⟨a, b, c, d, rfl, h⟩ := h
  refine go (fun w => QB w a b c d q k) [[a, b, c, d]] [some 4] (tr := (.em (.call 132 [.g [.c 0 2, .c 0 3]] [none]) (.em (.pr (.binOp .eql 3 (.tmp 0) (.const (.int .i64 0)) 3) 4 [.s (.c 1 0), .s (.k (.int .i64 0))]) (.cond (.c 2 0) (.em (.call 70 [.s (.k (.int .i64 1))] [some 2]) (.ret (.v (.g [.c 3 0, .c 3 1])))) (.ret (.v (.g [.c 0 2, .c 0 3]))))))) (by kernel_rfl) (by kernel_rfl) (by kernel_rfl) (mQ _ _ _ _ _ _) h ⟨qpl h, trivial⟩ ?_
  refine wVal (fun w b h => sign_any _ (denZ q) k w h.2.1 (by omega)) rfl ?_
  refine wPr (prEq rfl rfl) rfl ?_
  refine wIf _ rfl (fun e => ?_) (fun e => ?_)
  · have e1 : q.den = 1 := by have := (sgn_den q).symm.trans e; simpa using this
    refine wInt hU (fun w b h => iof_any 1 w (by decide) (by decide)) (fun x1 y1 => ?_)
    exact wRet fun w b ⟨h1, h⟩ => ⟨_, rfl, ⟨by rw [e1]; exact h1.1, by have := h.2.2; omega⟩, b⟩
  · have e1 : ¬ q.den = 1 := by have := (sgn_den q).symm.trans e; simpa using this
    refine wRet fun w b h => ⟨_, rfl, ?_, b⟩
    have h2 := h.2.1
    unfold denZ at h2
    rw [if_neg e1] at h2
    exact h2
theorem lowest_any (v u : Value) (n d : Int) (q : Rat) (k : Nat) (w : World) (h : IntB 161 w v n k) (h' : IntB 161 w u d k) (hk : k ≤ 1000000) (hn : q.num = n) (hd : (q.den : Int) = d) :
    Calls Tryz.prog 175 #[v, u] w fun e w' => ∃ v', e = .returned v' ∧ RatB w' v' q k ∧ Below w.heap.size w w' := by
  obtain ⟨a, b, rfl, h⟩ := ibc h
  obtain ⟨a', b', rfl, h'⟩ := ibc h'
  subst hn hd
  refine go (fun w => IB w a b q.num k ∧ IB w a' b' q.den k) [[a, b], [a', b']] [some 2, some 2] (tr := (.em (.call 71 [.g [.c 1 0, .c 1 1]] [none]) (.cond (.c 2 0) (.ret (.v (.g [.c 0 0, .c 0 1, .k (.bool false), .k (.slice none 0 0)]))) (.ret (.v (.g [.c 0 0, .c 0 1, .c 1 0, .c 1 1])))))) (by kernel_rfl) (by kernel_rfl) (by kernel_rfl) ((mI _ _ _ _).and (mI _ _ _ _)) ⟨h, h'⟩ ⟨ipl h, ipl h', trivial⟩ ?_
  refine wVal (fun w b ⟨_, h⟩ => isOne_any _ _ k w h (by omega)) rfl ?_
  refine wIf _ rfl (fun e => ?_) (fun e => ?_)
  · have e1 : q.den = 1 := by have : (q.den : Int) = 1 := by simpa using e
                              omega
    refine wRet fun w b ⟨h, h2⟩ => ⟨_, rfl, ⟨_, _, _, _, rfl, h, ?_, by have := h2.2; omega⟩, b⟩
    show IntB _ _ _ (denZ q) k
    unfold denZ
    rw [if_pos e1]; exact IntB.zero _ _ _
  · have e1 : ¬ q.den = 1 := by have : ¬ (q.den : Int) = 1 := by simpa using e
                                omega
    refine wRet fun w b ⟨h, h2⟩ => ⟨_, rfl, ⟨_, _, _, _, rfl, h, ?_, by have := h2.2; omega⟩, b⟩
    show IntB _ _ _ (denZ q) k
    unfold denZ
    rw [if_neg e1]; exact h2
theorem qnum_any (v : Value) (q : Rat) (k : Nat) (w : World) (h : RatB w v q k) (hk : k ≤ 1000000) :
    Calls Tryz.prog 179 #[v] w fun e w' => ∃ v', e = .returned v' ∧ IntB 161 w' v' q.num k ∧ Below w.heap.size w w' := by
  obtain ⟨a, b, c, d, rfl, h⟩ := h
  refine go (fun w => QB w a b c d q k) [[a, b, c, d]] [some 4] (tr := (.em (.call 134 [.g [.c 0 0, .c 0 1]] [some 2]) (.ret (.v (.g [.c 1 0, .c 1 1]))))) (by kernel_rfl) (by kernel_rfl) (by kernel_rfl) (mQ _ _ _ _ _ _) h ⟨qpl h, trivial⟩ ?_
  refine wInt hU (fun w b h => qfresh_any _ q.num k w h.1 (by omega)) (fun x1 y1 => ?_)
  exact wRet fun w b ⟨h1, _⟩ => ⟨_, rfl, h1, b⟩
theorem qden_any (v : Value) (q : Rat) (k : Nat) (w : World) (h : RatB w v q k) (hk : k ≤ 1000000) :
    Calls Tryz.prog 176 #[v] w fun e w' => ∃ v', e = .returned v' ∧ IntB 161 w' v' (q.den : Int) k ∧ Below w.heap.size w w' := by
  obtain ⟨a, b, c, d, rfl, h⟩ := h
  refine go (fun w => QB w a b c d q k) [[a, b, c, d]] [some 4] (tr := (.em (.call 95 [.g [.c 0 0, .c 0 1, .c 0 2, .c 0 3]] [some 2]) (.em (.call 134 [.g [.c 1 0, .c 1 1]] [some 2]) (.ret (.v (.g [.c 2 0, .c 2 1])))))) (by kernel_rfl) (by kernel_rfl) (by kernel_rfl) (mQ _ _ _ _ _ _) h ⟨qpl h, trivial⟩ ?_
  refine wInt hU (fun w b h => bottom_any _ q k w ⟨_, _, _, _, rfl, h⟩ hk) (fun x1 y1 => ?_)
  refine wInt hU (fun w b ⟨h1, _⟩ => qfresh_any _ _ k w h1 (by omega)) (fun x2 y2 => ?_)
  exact wRet fun w b ⟨h1, _⟩ => ⟨_, rfl, h1, b⟩
theorem qneg_any (v : Value) (q : Rat) (k : Nat) (w : World) (h : RatB w v q k) (hk : k ≤ 1000000) :
    Calls Tryz.prog 97 #[v] w fun e w' => ∃ v', e = .returned v' ∧ RatB w' v' (-q) k ∧ Below w.heap.size w w' := by
  obtain ⟨a, b, c, d, rfl, h⟩ := h
  refine go (fun w => QB w a b c d q k) [[a, b, c, d]] [some 4] (tr := (.em (.call 133 [.g [.c 0 0, .c 0 1]] [some 2]) (.em (.call 134 [.g [.c 0 2, .c 0 3]] [some 2]) (.ret (.v (.g [.c 1 0, .c 1 1, .c 2 0, .c 2 1])))))) (by kernel_rfl) (by kernel_rfl) (by kernel_rfl) (mQ _ _ _ _ _ _) h ⟨qpl h, trivial⟩ ?_
  refine wInt hU (fun w b h => neg_any _ _ k w h.1 (by omega)) (fun x1 y1 => ?_)
  refine wInt hU (fun w b ⟨_, h⟩ => qfresh_any _ _ k w h.2.1 (by omega)) (fun x2 y2 => ?_)
  exact wRet fun w b ⟨h2, h1, h⟩ => ⟨_, rfl, ⟨_, _, _, _, rfl, h1, h2, h.2.2⟩, b⟩
theorem qcmp_any (v u : Value) (x y : Rat) (k j : Nat) (w : World) (h : RatB w v x k) (h' : RatB w u y j) (hk : k ≤ 1000000) (hj : j ≤ 1000000) :
    Calls Tryz.prog 51 #[v, u] w fun e w' => e = .returned (.int .i64 (cmpQ x y)) ∧ Below w.heap.size w w' := by
  obtain ⟨a, b, c, d, rfl, h⟩ := h
  obtain ⟨a', b', c', d', rfl, h'⟩ := h'
  refine go (fun w => QB w a b c d x k ∧ QB w a' b' c' d' y j) [[a, b, c, d], [a', b', c', d']] [some 4, some 4] (tr := (.em (.call 95 [.g [.c 1 0, .c 1 1, .c 1 2, .c 1 3]] [some 2]) (.em (.call 94 [.g [.c 0 0, .c 0 1], .g [.c 2 0, .c 2 1]] [some 2]) (.em (.call 95 [.g [.c 0 0, .c 0 1, .c 0 2, .c 0 3]] [some 2]) (.em (.call 94 [.g [.c 1 0, .c 1 1], .g [.c 4 0, .c 4 1]] [some 2]) (.em (.call 69 [.g [.c 3 0, .c 3 1], .g [.c 5 0, .c 5 1]] [none]) (.ret (.v (.s (.c 6 0)))))))))) (by kernel_rfl) (by kernel_rfl) (by kernel_rfl) ((mQ _ _ _ _ _ _).and (mQ _ _ _ _ _ _)) ⟨h, h'⟩ ⟨qpl h, qpl h', trivial⟩ ?_
  refine wInt hU (fun w b ⟨_, h'⟩ => bottom_any _ y j w ⟨_, _, _, _, rfl, h'⟩ hj) (fun x1 y1 => ?_)
  refine wInt hU (fun w b ⟨h1, h, _⟩ => imul_any _ _ _ _ k j w h.1 h1 (by omega) (by omega)) (fun x2 y2 => ?_)
  refine wInt hU (fun w b ⟨_, _, h, _⟩ => bottom_any _ x k w ⟨_, _, _, _, rfl, h⟩ hk) (fun x3 y3 => ?_)
  refine wInt hU (fun w b ⟨h3, _, _, _, h'⟩ => imul_any _ _ _ _ j k w h'.1 h3 (by omega) (by omega)) (fun x4 y4 => ?_)
  refine wVal (fun w b ⟨h4, _, h2, _⟩ => icmp_any _ _ _ _ (k + j) (j + k) w h2 h4 (by omega) (by omega)) rfl ?_
  exact wRet fun w b _ => ⟨by rw [← cmpQ_of]; rfl, b⟩
theorem sum_lt {x y z u : Int} {k j : Nat} (hx : x.natAbs < pw k) (hy : y.natAbs < pw j) (hz : z.natAbs < pw j) (hu : u.natAbs < pw k) : (x * y + z * u).natAbs < pw (k + j + 1) := by
  have h1 := mul_bound hx hy
  have h2 := mul_bound hz hu
  rw [Nat.add_comm j k] at h2
  have h3 : pw (k + j) + pw (k + j) ≤ pw (k + j + 1) := by rw [pw_succ]; omega
  omega
set_option maxHeartbeats 2000000 in
theorem qadd_any (v u : Value) (x y : Rat) (k j : Nat) (w : World) (h : RatB w v x k) (h' : RatB w u y j) (hk : k ≤ 200000) (hj : j ≤ 200000) :
    Calls Tryz.prog 128 #[v, u] w fun e w' => ∃ v', e = .returned v' ∧ RatB w' v' (x + y) (k + j + 1) ∧ Below w.heap.size w w' := by
  obtain ⟨a, b, c, d, rfl, h⟩ := h
  obtain ⟨a', b', c', d', rfl, h'⟩ := h'
  have hkb : x.num.natAbs < pw k := h.1.2
  have hjb : y.num.natAbs < pw j := h'.1.2
  have hkd : x.den < pw k := h.2.2
  have hjd : y.den < pw j := h'.2.2
  have hxp := x.den_pos
  have hyp := y.den_pos
  generalize hg : Nat.gcd x.den y.den = g
  have hgx : g ∣ x.den := by rw [← hg]; exact Nat.gcd_dvd_left _ _
  have hgy : g ∣ y.den := by rw [← hg]; exact Nat.gcd_dvd_right _ _
  have hgp : 0 < g := by rw [← hg]; exact Nat.gcd_pos_of_pos_left _ hxp
  generalize hs : x.num * ((y.den / g : Nat) : Int) + y.num * ((x.den / g : Nat) : Int) = s
  generalize hh : Nat.gcd s.natAbs g = m
  have hmg : m ∣ g := by rw [← hh]; exact Nat.gcd_dvd_right _ _
  have hms : (m : Int) ∣ s := by rw [← hh]; exact Int.ofNat_dvd_left.2 (Nat.gcd_dvd_left _ _)
  have hmp : 0 < m := by rw [← hh]; exact Nat.gcd_pos_of_pos_right _ hgp
  obtain ⟨hnum, hden⟩ := add_parts x y hg.symm rfl hs.symm hh.symm rfl
  have hxg : x.den / g ≤ x.den := Nat.div_le_self _ _
  have hyg : y.den / g ≤ y.den := Nat.div_le_self _ _
  have hsb : s.natAbs < pw (k + j + 1) := by rw [← hs]; exact sum_lt hkb (by rw [Int.natAbs_natCast]; omega) hjb (by rw [Int.natAbs_natCast]; omega)
  refine go (fun w => QB w a b c d x k ∧ QB w a' b' c' d' y j) [[a, b, c, d], [a', b', c', d']] [some 4, some 4] (tr := (.em (.call 95 [.g [.c 0 0, .c 0 1, .c 0 2, .c 0 3]] [some 2]) (.em (.call 95 [.g [.c 1 0, .c 1 1, .c 1 2, .c 1 3]] [some 2]) (.em (.call 72 [.g [.c 2 0, .c 2 1], .g [.c 3 0, .c 3 1]] [some 2]) (.em (.call 173 [.g [.c 2 0, .c 2 1], .g [.c 4 0, .c 4 1]] [some 2]) (.em (.call 173 [.g [.c 3 0, .c 3 1], .g [.c 4 0, .c 4 1]] [some 2]) (.em (.call 94 [.g [.c 0 0, .c 0 1], .g [.c 6 0, .c 6 1]] [some 2]) (.em (.call 94 [.g [.c 1 0, .c 1 1], .g [.c 5 0, .c 5 1]] [some 2]) (.em (.call 174 [.g [.c 7 0, .c 7 1], .g [.c 8 0, .c 8 1]] [some 2]) (.em (.call 72 [.g [.c 9 0, .c 9 1], .g [.c 4 0, .c 4 1]] [some 2]) (.em (.call 173 [.g [.c 9 0, .c 9 1], .g [.c 10 0, .c 10 1]] [some 2]) (.em (.call 173 [.g [.c 3 0, .c 3 1], .g [.c 10 0, .c 10 1]] [some 2]) (.em (.call 94 [.g [.c 5 0, .c 5 1], .g [.c 12 0, .c 12 1]] [some 2]) (.em (.call 175 [.g [.c 11 0, .c 11 1], .g [.c 13 0, .c 13 1]] [some 4]) (.ret (.v (.g [.c 14 0, .c 14 1, .c 14 2, .c 14 3]))))))))))))))))) (by kernel_rfl) (by kernel_rfl) (by kernel_rfl) ((mQ _ _ _ _ _ _).and (mQ _ _ _ _ _ _)) ⟨h, h'⟩ ⟨qpl h, qpl h', trivial⟩ ?_
  refine wInt hU (fun w b ⟨h, _⟩ => bottom_any _ x k w ⟨_, _, _, _, rfl, h⟩ (by omega)) (fun x1 y1 => ?_)
  refine wInt hU (fun w b ⟨_, _, h'⟩ => bottom_any _ y j w ⟨_, _, _, _, rfl, h'⟩ (by omega)) (fun x2 y2 => ?_)
  refine wInt hU (z := (g : Int)) (fun w b ⟨h2, h1, _⟩ => by rw [← hg]; exact qgcd_any _ _ _ _ k j w h1 h2 (by omega) (by omega)) (fun x3 y3 => ?_)
  refine wInt hU (z := ((x.den / g : Nat) : Int)) (fun w b ⟨h3, _, h1, _⟩ => part_any _ _ _ _ k (max k j) w h1 h3 (by omega) (by omega) (by omega) (Int.ofNat_dvd.2 hgx)) (fun x4 y4 => ?_)
  refine wInt hU (z := ((y.den / g : Nat) : Int)) (fun w b ⟨_, h3, h2, _⟩ => part_any _ _ _ _ j (max k j) w h2 h3 (by omega) (by omega) (by omega) (Int.ofNat_dvd.2 hgy)) (fun x5 y5 => ?_)
  refine wInt hU (fun w b ⟨h5, _, _, _, _, h, _⟩ => imul_any _ _ _ _ k j w h.1 h5 (by omega) (by omega)) (fun x6 y6 => ?_)
  refine wInt hU (fun w b ⟨_, _, h4, _, _, _, _, h'⟩ => imul_any _ _ _ _ j k w h'.1 h4 (by omega) (by omega)) (fun x7 y7 => ?_)
  refine wInt hU (z := s) (fun w b ⟨h7, h6, _⟩ => by rw [← hs]; exact iadd_any _ _ _ _ (k + j) (j + k) w h6 h7 (by omega) (by omega)) (fun x8 y8 => ?_)
  refine wInt hU (z := (m : Int)) (fun w b ⟨h8, _, _, _, _, h3, _⟩ => by rw [← hh]; exact qgcd_any _ _ _ _ _ (max k j) w h8 h3 (by omega) (by omega)) (fun x9 y9 => ?_)
  refine wInt hU (z := s / (m : Int)) (fun w b ⟨h9, h8, _⟩ => part_any _ _ _ _ _ _ w h8 h9 (by omega) (by omega) (by omega) hms) (fun x10 y10 => ?_)
  refine wInt hU (z := ((y.den / m : Nat) : Int)) (fun w b ⟨_, h9, _, _, _, _, _, _, h2, _⟩ => part_any _ _ _ _ j _ w h2 h9 (by omega) (by omega) (by omega) (Int.ofNat_dvd.2 (Nat.dvd_trans hmg hgy))) (fun x11 y11 => ?_)
  refine wInt hU (fun w b ⟨h11, _, _, _, _, _, _, h4, _⟩ => imul_any _ _ _ _ k j w h4 h11 (by omega) (by omega)) (fun x12 y12 => ?_)
  refine wRat (q := x + y) (m := k + j + 1) (fun w b ⟨h12, _, h10, _⟩ => lowest_any _ _ (s / (m : Int)) _ (x + y) (k + j + 1) w ⟨h10.1, ediv_lt (by omega) hsb hms⟩ (h12.mono (by omega)) (by omega) hnum (by rw [hden, Int.natCast_mul])) (fun a b c d => ?_)
  exact wRet fun w b ⟨h, _⟩ => ⟨_, rfl, ⟨_, _, _, _, rfl, h⟩, b⟩
theorem qsub_any (v u : Value) (x y : Rat) (k j : Nat) (w : World) (h : RatB w v x k) (h' : RatB w u y j) (hk : k ≤ 200000) (hj : j ≤ 200000) :
    Calls Tryz.prog 96 #[v, u] w fun e w' => ∃ v', e = .returned v' ∧ RatB w' v' (x - y) (k + j + 1) ∧ Below w.heap.size w w' := by
  obtain ⟨a, b, c, d, rfl, h⟩ := h
  obtain ⟨a', b', c', d', rfl, h'⟩ := h'
  refine go (fun w => QB w a b c d x k ∧ QB w a' b' c' d' y j) [[a, b, c, d], [a', b', c', d']] [some 4, some 4] (tr := (.em (.call 133 [.g [.c 1 0, .c 1 1]] [some 2]) (.em (.call 128 [.g [.c 0 0, .c 0 1, .c 0 2, .c 0 3], .g [.c 2 0, .c 2 1, .c 1 2, .c 1 3]] [some 4]) (.ret (.v (.g [.c 3 0, .c 3 1, .c 3 2, .c 3 3])))))) (by kernel_rfl) (by kernel_rfl) (by kernel_rfl) ((mQ _ _ _ _ _ _).and (mQ _ _ _ _ _ _)) ⟨h, h'⟩ ⟨qpl h, qpl h', trivial⟩ ?_
  refine wInt hU (fun w b ⟨_, h'⟩ => neg_any _ _ j w h'.1 (by omega)) (fun x1 y1 => ?_)
  refine wRat (q := x - y) (fun w b ⟨h1, h, h'⟩ => by rw [Rat.sub_eq_add_neg]; exact qadd_any _ _ x (-y) k j w ⟨_, _, _, _, rfl, h⟩ ⟨_, _, _, _, rfl, h1, h'.2.1, h'.2.2⟩ hk hj) (fun a b c d => ?_)
  exact wRet fun w b ⟨h, _⟩ => ⟨_, rfl, ⟨_, _, _, _, rfl, h⟩, b⟩
end Go.Proofs.YtpmnakjllkidiaaGreatDoor
