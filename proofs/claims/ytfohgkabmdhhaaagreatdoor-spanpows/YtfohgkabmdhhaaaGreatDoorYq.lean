/- Contracts of the document's whole numbers. -/
import Derived.Test.YtfohgkabmdhhaaaGreatDoorYp
import Derived.Test.YtfohgkabmdhhaaaGreatDoorYi
import Derived.Test.YtfohgkabmdhhaaaGreatDoorYo
import Derived.Test.YtfohgkabmdhhaaaGreatDoorYg
namespace Go.Proofs.YtfohgkabmdhhaaaGreatDoor
open Go.RowKit Cin
theorem refB_part {w : World} {ad : Option Addr} {len cap k : Nat} {b : Bool} {z : Int} (h : IntB 146 w (.agg #[.bool b, .slice ad len cap]) z k) : RefB w (.slice ad len cap) z.natAbs k := by
  obtain ⟨⟨s, e, r⟩, hk⟩ := h
  injection e with e
  injection e with e
  simp only [List.cons.injEq, and_true] at e
  obtain ⟨_, rfl⟩ := e
  exact ⟨r, hk⟩
theorem refB_len {w : World} {ad : Option Addr} {len cap n k : Nat} (h : RefB w (.slice ad len cap) n k) : len = 0 ↔ n = 0 := by
  obtain ⟨⟨xs, hs, ho, hnm, rfl⟩, _⟩ := h
  have hl := hs.len
  constructor
  · intro e
    rw [List.length_eq_zero_iff.1 (hl.trans e)]; rfl
  · intro e
    rw [norm_val_zero hnm e] at hl
    exact hl.symm
set_option maxHeartbeats 800000 in
theorem rfrom_any (b : Bool) (v : Value) (n k : Nat) (w : World) (h : RefB w v n k) :
    Calls Tryz.prog 114 #[.bool b, v] w fun e w' => ∃ v', e = .returned v' ∧ IntB 146 w' v' (sg b n) k ∧ Below w.heap.size w w' := by
  obtain ⟨ad, len, cap, xs, rfl, _⟩ := h.1.shape
  have hl := refB_len h
  have H := Lib.hid h
  clear h
  cases b
  · clear hl
    go_enter Tryz.func114, Tryz.ntmps114
    go_wp2_with fail
    refine bodyPost_ret (v := .agg #[.bool false, .slice ad len cap]) (by simp [results, Tryz.results114, go_sem]) rfl ⟨_, rfl, intB_of (b := false) (H.out.1.below (bel_alloc _ _)) H.out.2 rfl, bel_alloc _ _⟩
  · by_cases h0 : n = 0
    · have hz : len = 0 := hl.2 h0
      subst hz
      have HI := Lib.hid (fun W (h : RefV 146 W (.slice ad 0 cap) n) => intB_of (b := true) (bb := false) h H.out.2 (by rw [decide_eq_true h0]; rfl))
      clear hl h0
      go_enter Tryz.func114, Tryz.ntmps114
      go_wp2_with fail
      refine bodyPost_ret (v := .agg #[.bool false, .slice ad 0 cap]) (by simp [results, Tryz.results114, go_sem]) rfl ⟨_, rfl, HI.out _ (H.out.1.below (bel_alloc _ _)), bel_alloc _ _⟩
    · have hz : 0 < len := Nat.pos_of_ne_zero fun e => h0 (hl.1 e)
      have HI := Lib.hid (fun W (h : RefV 146 W (.slice ad len cap) n) => intB_of (b := true) (bb := true) h H.out.2 (by rw [decide_eq_false h0]; rfl))
      clear hl h0
      go_enter Tryz.func114, Tryz.ntmps114
      go_wp2_with fail
      refine bodyPost_ret (v := .agg #[.bool true, .slice ad len cap]) (by first | (simp [results, Tryz.results114, go_sem]; done) | simp [results, Tryz.results114, go_sem, hz]) rfl ⟨_, rfl, HI.out _ (H.out.1.below (bel_alloc _ _)), bel_alloc _ _⟩
set_option maxHeartbeats 800000 in
theorem rsign_any (v : Value) (z : Int) (k : Nat) (w : World) (h : IntB 146 w v z k) :
    Calls Tryz.prog 81 #[v] w fun e w' => e = .returned (.int .i64 (sgnZ z)) ∧ Below w.heap.size w w' := by
  obtain ⟨ad, len, cap, rfl, hr⟩ := h.shape
  have hl := refB_len (refB_part h)
  clear h hr
  by_cases h0 : z = 0
  · have hz : len = 0 := hl.2 (by omega)
    subst hz h0
    clear hl
    go_enter Tryz.func81, Tryz.ntmps81
    go_wp2_with fail
    go_ret
    exact ⟨rfl, bel_alloc _ _⟩
  · have hz : ((len : Int) == 0) = false := beq_eq_false_iff_ne.2 (by have := fun e => h0 (Int.natAbs_eq_zero.1 (hl.1 e)); omega)
    clear hl
    by_cases hn : z < 0
    · rw [decide_eq_true hn, show sgnZ z = -1 by unfold sgnZ; rw [if_pos hn]]
      go_enter Tryz.func81, Tryz.ntmps81
      go_wp2_with fail
      go_ret
      exact ⟨rfl, bel_alloc _ _⟩
    · rw [decide_eq_false hn, show sgnZ z = 1 by unfold sgnZ; rw [if_neg hn, if_pos (by omega)]]
      go_enter Tryz.func81, Tryz.ntmps81
      go_wp2_with fail
      go_ret
      exact ⟨rfl, bel_alloc _ _⟩
set_option maxHeartbeats 800000 in
theorem rneg_any (v : Value) (z : Int) (k : Nat) (w : World) (h : IntB 146 w v z k) :
    Calls Tryz.prog 132 #[v] w fun e w' => ∃ v', e = .returned v' ∧ IntB 146 w' v' (-z) k ∧ Below w.heap.size w w' := by
  obtain ⟨bz, ad, len, cap, rfl, hr⟩ := h.shape2
  have H := Lib.hid (refB_part h)
  have HY := Lib.hid (show sg (!bz) z.natAbs = -z by rw [hr.out]; exact sg_not z)
  clear h hr
  go_enter Tryz.func132, Tryz.ntmps132
  go_wp2_with fail
  refine (rfrom_any (!bz) _ z.natAbs k _ (H.out.below (bel_alloc2 _ _ _))).mono ?_
  rintro e w1 ⟨v1, rfl, hn1, hb1⟩
  rw [HY.out] at hn1
  obtain ⟨bbR, adR, lenR, capR, rfl, hrR⟩ := hn1.shape2
  have hslR := (Slot.of (n := 2) ((heldN2 (w := w)).below hb1).2.1 rfl)
  obtain ⟨xR, yR, hxR, hyR, hfxR, hfyR⟩ := hslR.two
  have HRR := Lib.hid (fin_int hn1 hslR (by decide) (bel_on (bel_alloc2 _ _ _) hb1) (by omega))
  clear hrR hslR hn1 hb1
  go_wp2
  refine bodyPost_ret (v := .agg #[.bool bbR, .slice adR lenR capR]) (by simp [results, Tryz.results132, go_sem, HRR.out.2.2.1, HRR.out.2.2.2]) rfl (⟨_, rfl, HRR.out.1, HRR.out.2.1⟩)
set_option maxRecDepth 100000 in
set_option maxHeartbeats 1600000 in
theorem rimul_any (v u : Value) (x y : Int) (k j : Nat) (w : World) (h : IntB 146 w v x k) (h' : IntB 146 w u y j) (hk : k ≤ 5000000) (hj : j ≤ 5000000) :
    Calls Tryz.prog 68 #[v, u] w fun e w' => ∃ v', e = .returned v' ∧ IntB 146 w' v' (x * y) (k + j) ∧ Below w.heap.size w w' := by
  obtain ⟨ad, len, cap, rfl, hr⟩ := h.shape
  obtain ⟨ad', len', cap', rfl, hr'⟩ := h'.shape
  have H := Lib.hid (refB_part h)
  have H' := Lib.hid (refB_part h')
  clear h hr h' hr'
  generalize hbx : decide (x < 0) = bx
  generalize hby : decide (y < 0) = bz
  have HSG := Lib.hid (show sg (!(bx == bz)) (x.natAbs * y.natAbs) = x * y by rw [← hbx, ← hby]; exact sg_mul x y)
  clear hbx hby
  go_enter Tryz.func68, Tryz.ntmps68
  go_wp2_with fail
  have hh := heldN3 (w := w) (c0 := #[Value.bool bx, Value.slice ad len cap]) (t0 := 39) (c1 := #[Value.bool bz, Value.slice ad' len' cap']) (t1 := 39) (c2 := #[Value.bool false, Value.slice none 0 0]) (t2 := 39)
  have hbX := bel_alloc3 w (Obj.cells #[Value.bool bx, Value.slice ad len cap] 39) (Obj.cells #[Value.bool bz, Value.slice ad' len' cap'] 39) (Obj.cells #[Value.bool false, Value.slice none 0 0] 39)
  generalize ((w.alloc (Obj.cells #[Value.bool bx, Value.slice ad len cap] 39)).alloc (Obj.cells #[Value.bool bz, Value.slice ad' len' cap'] 39)).alloc (Obj.cells #[Value.bool false, Value.slice none 0 0] 39) = X at *
  have hc0 := cell0 hh.1
  have hc1 := cell1 hh.1
  have hd0 := cell0 hh.2.1
  have hd1 := cell1 hh.2.1
  have HSL := Lib.hid (Slot.of (n := 2) hh.2.2.1 rfl)
  have HBX := Lib.hid hbX
  clear hh hbX
  refine wp_region_sched (fun w' => w'.cell? ⟨w.heap.size, 0, none⟩ = some (.bool bx) ∧ w'.cell? ⟨w.heap.size, 1, none⟩ = some (.slice ad len cap) ∧ w'.cell? ⟨w.heap.size + 1, 0, none⟩ = some (.bool bz) ∧ w'.cell? ⟨w.heap.size + 1, 1, none⟩ = some (.slice ad' len' cap') ∧ Slot w' (w.heap.size + 1 + 1) 39 2 ∧ Below w.heap.size w w') [(0, true), (1, true), (2, true), (3, true), (4, true), (5, true), (6, true), (7, true), (8, true), (9, false), (10, false), (11, false)] (by kernel_rfl) (by kernel_rfl) ?_ (fun hHeld => ?_)
  · (try dsimp only)
    exact ⟨hc0, hc1, hd0, hd1, HSL.out.drew, HBX.out.drew⟩
  try dsimp only at hHeld
  repeat (refine wpSched_at (by simp only [List.getElem?_toArray, List.getElem?_cons_zero, List.getElem?_cons_succ]; rfl) ?_; (first | (apply wpAt_take rfl; (intro wx hSx; (try dsimp only at hSx); go_simp; (try with_reducible rfl)); simp only [Act.put, List.setIfInBounds_toArray, List.set_cons_zero, List.set_cons_succ]) | (refine wpAt_skip rfl ?_; simp only [Act.put, List.setIfInBounds_toArray, List.set_cons_zero, List.set_cons_succ]) | (refine wpAt_pass rfl hHeld ?_; simp only [Act.put, List.setIfInBounds_toArray, List.set_cons_zero, List.set_cons_succ]) | (refine wpAt_eff rfl (fun K hK => ?_); ((obtain ⟨x0, y0, hx0, hy0, hfx0, hfy0⟩ := hHeld.2.2.2.2.1.two); (try simp only [cell_drew, frozen_drew] at hx0 hy0 hfx0 hfy0)); go_simp; (first | (go_at_call 115; (with_reducible refine (rmulB (.slice ad len cap) (.slice ad' len' cap') x.natAbs y.natAbs k j _ ?_ ?_ (by omega) (by omega)).mono ?_); (exact H.out.below hHeld.2.2.2.2.2); (exact H'.out.below hHeld.2.2.2.2.2); rintro e w' ⟨vf, rfl, hn, hb⟩; (try replace NF := Lib.hid (NF.out.below hb)); have NF := Lib.hid hn; have hS := And.intro trivial (And.intro (cell_below hHeld.1 hb) (And.intro (cell_below hHeld.2.1 hb) (And.intro (cell_below hHeld.2.2.1 hb) (And.intro (cell_below hHeld.2.2.2.1 hb) (And.intro (hHeld.2.2.2.2.1.below hb) (bel_on hHeld.2.2.2.2.2 hb)))))); clear hb hHeld hn) | (go_at_call 114; (with_reducible refine (rfrom_any (!(bx == bz)) vf (x.natAbs * y.natAbs) (k + j) _ ?_).mono ?_); (exact NF.out); rintro e w' ⟨vs, rfl, hn, hb⟩; (try replace NF := Lib.hid (NF.out.below hb)); have NS := Lib.hid hn; (rw [HSG.out] at NS); obtain ⟨bbR, adR, lenR, capR, rfl, hrR⟩ := NS.out.shape2; have hS := And.intro trivial (And.intro (cell_below hHeld.1 hb) (And.intro (cell_below hHeld.2.1 hb) (And.intro (cell_below hHeld.2.2.1 hb) (And.intro (cell_below hHeld.2.2.2.1 hb) (And.intro (hHeld.2.2.2.2.1.below hb) (bel_on hHeld.2.2.2.2.2 hb)))))); clear hb hHeld hn) | (try simp only [cell_drew, slot_drew, below_drew] at hHeld)); (refine hK.out _ _ ?_ (fun hHeld => ?_)); ((try dsimp only); ((try simp only [cell_drew, slot_drew, below_drew]); refine ⟨?_, ?_, ?_, ?_, ?_, ?_⟩; (first | exact hS.2.1 | with_reducible exact cell_set hHeld.1 (by omega) | with_reducible exact cell_set (cell_set hHeld.1 (by omega)) (by omega)); (first | exact hS.2.2.1 | with_reducible exact cell_set hHeld.2.1 (by omega) | with_reducible exact cell_set (cell_set hHeld.2.1 (by omega)) (by omega)); (first | exact hS.2.2.2.1 | with_reducible exact cell_set hHeld.2.2.1 (by omega) | with_reducible exact cell_set (cell_set hHeld.2.2.1 (by omega)) (by omega)); (first | exact hS.2.2.2.2.1 | with_reducible exact cell_set hHeld.2.2.2.1 (by omega) | with_reducible exact cell_set (cell_set hHeld.2.2.2.1 (by omega)) (by omega)); (first | exact hS.2.2.2.2.2.1 | with_reducible exact hHeld.2.2.2.2.1.set _ _ _ | with_reducible exact (hHeld.2.2.2.2.1.set _ _ _).set _ _ _); (first | exact hS.2.2.2.2.2.2 | with_reducible exact bel_set1 hHeld.2.2.2.2.2 (by omega) | with_reducible exact bel_set2 hHeld.2.2.2.2.2 (by omega) (by omega)))); clear hK K; (try clear hS); (try clear hfx0 hx0 x0); (try clear hfy0 hy0 y0); (try clear hfx1 hx1 x1); (try clear hfy1 hy1 y1); (try dsimp only at hHeld))))
  refine wpSched_nil ?_
  rename_i hOld
  have HRR := Lib.hid (fin_int NS.out hOld.2.2.2.2.1 (by decide) hOld.2.2.2.2.2 (by omega))
  clear hOld hHeld
  go_wp2_with fail
  refine bodyPost_ret (v := .agg #[.bool bbR, .slice adR lenR capR]) (by simp [results, Tryz.results68, go_sem, HRR.out.2.2.1, HRR.out.2.2.2]) rfl (⟨_, rfl, HRR.out.1.mono (by omega), HRR.out.2.1⟩)
theorem sg_same2 {x y : Int} (h : decide (x < 0) = decide (y < 0)) : sg (decide (x < 0)) (x.natAbs + y.natAbs) = x + y := by
  have := sg_same (n := y.natAbs) h
  rw [sg_of] at this
  rw [h]; exact this
theorem sg_left2 {x y : Int} (h : decide (x < 0) = !decide (y < 0)) (hl : y.natAbs ≤ x.natAbs) : sg (decide (x < 0)) (x.natAbs - y.natAbs) = x + y := by
  have := sg_left h hl
  rw [sg_of] at this
  rw [h]; exact this
theorem sg_right2 {x y : Int} (h : decide (x < 0) = !decide (y < 0)) (hl : x.natAbs < y.natAbs) : sg (decide (y < 0)) (y.natAbs - x.natAbs) = x + y := by
  have := sg_right h hl
  rwa [sg_of] at this
set_option maxRecDepth 100000 in
set_option maxHeartbeats 3200000 in
theorem riadd_any (v u : Value) (x y : Int) (k j : Nat) (w : World) (h : IntB 146 w v x k) (h' : IntB 146 w u y j) (hk : k ≤ 4000000) (hj : j ≤ 4000000) :
    Calls Tryz.prog 118 #[v, u] w fun e w' => ∃ v', e = .returned v' ∧ IntB 146 w' v' (x + y) (k + j + 1) ∧ Below w.heap.size w w' := by
  obtain ⟨ad, len, cap, rfl, hr⟩ := h.shape
  obtain ⟨ad', len', cap', rfl, hr'⟩ := h'.shape
  have H := Lib.hid (refB_part h)
  have H' := Lib.hid (refB_part h')
  clear h hr h' hr'
  generalize hbx : decide (x < 0) = bx
  generalize hby : decide (y < 0) = bz
  by_cases hs : (bx == bz) = true
  · have HSG := Lib.hid (show sg bx (x.natAbs + y.natAbs) = x + y by rw [← hbx]; exact sg_same2 (by rw [hbx, hby]; simpa using hs))
    clear hbx hby
    go_enter Tryz.func118, Tryz.ntmps118
    go_wp2_with fail
    have hh := heldN3 (w := w) (c0 := #[Value.bool bx, Value.slice ad len cap]) (t0 := 39) (c1 := #[Value.bool bz, Value.slice ad' len' cap']) (t1 := 39) (c2 := #[Value.bool false, Value.slice none 0 0]) (t2 := 39)
    have hbX := bel_alloc3 w (Obj.cells #[Value.bool bx, Value.slice ad len cap] 39) (Obj.cells #[Value.bool bz, Value.slice ad' len' cap'] 39) (Obj.cells #[Value.bool false, Value.slice none 0 0] 39)
    generalize ((w.alloc (Obj.cells #[Value.bool bx, Value.slice ad len cap] 39)).alloc (Obj.cells #[Value.bool bz, Value.slice ad' len' cap'] 39)).alloc (Obj.cells #[Value.bool false, Value.slice none 0 0] 39) = X at *
    have hc0 := cell0 hh.1
    have hc1 := cell1 hh.1
    have hd0 := cell0 hh.2.1
    have hd1 := cell1 hh.2.1
    have HSL := Lib.hid (Slot.of (n := 2) hh.2.2.1 rfl)
    have HBX := Lib.hid hbX
    clear hh hbX
    refine wp_region_sched (fun w' => w'.cell? ⟨w.heap.size, 0, none⟩ = some (.bool bx) ∧ w'.cell? ⟨w.heap.size, 1, none⟩ = some (.slice ad len cap) ∧ w'.cell? ⟨w.heap.size + 1, 0, none⟩ = some (.bool bz) ∧ w'.cell? ⟨w.heap.size + 1, 1, none⟩ = some (.slice ad' len' cap') ∧ Slot w' (w.heap.size + 1 + 1) 39 2 ∧ Below w.heap.size w w') [(0, true), (1, true), (2, true), (3, true), (4, true), (5, true), (6, false), (7, false), (8, false)] (by kernel_rfl) (by kernel_rfl) ?_ (fun hHeld => ?_)
    · (try dsimp only)
      exact ⟨hc0, hc1, hd0, hd1, HSL.out.drew, HBX.out.drew⟩
    try dsimp only at hHeld
    repeat (refine wpSched_at (by simp only [List.getElem?_toArray, List.getElem?_cons_zero, List.getElem?_cons_succ]; rfl) ?_; (first | (apply wpAt_take rfl; (intro wx hSx; (try dsimp only at hSx); go_simp; (try with_reducible rfl)); simp only [Act.put, List.setIfInBounds_toArray, List.set_cons_zero, List.set_cons_succ]) | (refine wpAt_skip rfl ?_; simp only [Act.put, List.setIfInBounds_toArray, List.set_cons_zero, List.set_cons_succ]) | (refine wpAt_pass rfl hHeld ?_; simp only [Act.put, List.setIfInBounds_toArray, List.set_cons_zero, List.set_cons_succ]) | (refine wpAt_eff rfl (fun K hK => ?_); ((obtain ⟨x0, y0, hx0, hy0, hfx0, hfy0⟩ := hHeld.2.2.2.2.1.two); (try simp only [cell_drew, frozen_drew] at hx0 hy0 hfx0 hfy0)); go_simp; (first | (go_at_call 128; (with_reducible refine (raddB (.slice ad len cap) (.slice ad' len' cap') x.natAbs y.natAbs k j _ ?_ ?_ (by omega) (by omega)).mono ?_); (exact H.out.below hHeld.2.2.2.2.2); (exact H'.out.below hHeld.2.2.2.2.2); rintro e w' ⟨vf, rfl, hn, hb⟩; (try replace NF := Lib.hid (NF.out.below hb)); have NF := Lib.hid hn; have hS := And.intro trivial (And.intro (cell_below hHeld.1 hb) (And.intro (cell_below hHeld.2.1 hb) (And.intro (cell_below hHeld.2.2.1 hb) (And.intro (cell_below hHeld.2.2.2.1 hb) (And.intro (hHeld.2.2.2.2.1.below hb) (bel_on hHeld.2.2.2.2.2 hb)))))); clear hb hHeld hn) | (go_at_call 114; (with_reducible refine (rfrom_any bx vf (x.natAbs + y.natAbs) (k + j + 1) _ ?_).mono ?_); (exact NF.out); rintro e w' ⟨vs, rfl, hn, hb⟩; (try replace NF := Lib.hid (NF.out.below hb)); have NS := Lib.hid hn; (rw [HSG.out] at NS); obtain ⟨bbR, adR, lenR, capR, rfl, hrR⟩ := NS.out.shape2; have hS := And.intro trivial (And.intro (cell_below hHeld.1 hb) (And.intro (cell_below hHeld.2.1 hb) (And.intro (cell_below hHeld.2.2.1 hb) (And.intro (cell_below hHeld.2.2.2.1 hb) (And.intro (hHeld.2.2.2.2.1.below hb) (bel_on hHeld.2.2.2.2.2 hb)))))); clear hb hHeld hn) | (try simp only [cell_drew, slot_drew, below_drew] at hHeld)); (refine hK.out _ _ ?_ (fun hHeld => ?_)); ((try dsimp only); ((try simp only [cell_drew, slot_drew, below_drew]); refine ⟨?_, ?_, ?_, ?_, ?_, ?_⟩; (first | exact hS.2.1 | with_reducible exact cell_set hHeld.1 (by omega) | with_reducible exact cell_set (cell_set hHeld.1 (by omega)) (by omega)); (first | exact hS.2.2.1 | with_reducible exact cell_set hHeld.2.1 (by omega) | with_reducible exact cell_set (cell_set hHeld.2.1 (by omega)) (by omega)); (first | exact hS.2.2.2.1 | with_reducible exact cell_set hHeld.2.2.1 (by omega) | with_reducible exact cell_set (cell_set hHeld.2.2.1 (by omega)) (by omega)); (first | exact hS.2.2.2.2.1 | with_reducible exact cell_set hHeld.2.2.2.1 (by omega) | with_reducible exact cell_set (cell_set hHeld.2.2.2.1 (by omega)) (by omega)); (first | exact hS.2.2.2.2.2.1 | with_reducible exact hHeld.2.2.2.2.1.set _ _ _ | with_reducible exact (hHeld.2.2.2.2.1.set _ _ _).set _ _ _); (first | exact hS.2.2.2.2.2.2 | with_reducible exact bel_set1 hHeld.2.2.2.2.2 (by omega) | with_reducible exact bel_set2 hHeld.2.2.2.2.2 (by omega) (by omega)))); clear hK K; (try clear hS); (try clear hfx0 hx0 x0); (try clear hfy0 hy0 y0); (try clear hfx1 hx1 x1); (try clear hfy1 hy1 y1); (try dsimp only at hHeld))))
    refine wpSched_nil ?_
    rename_i hOld
    have HRR := Lib.hid (fin_int NS.out hOld.2.2.2.2.1 (by decide) hOld.2.2.2.2.2 (by omega))
    clear hOld hHeld
    go_wp2_with fail
    refine bodyPost_ret (v := .agg #[.bool bbR, .slice adR lenR capR]) (by simp [results, Tryz.results118, go_sem, HRR.out.2.2.1, HRR.out.2.2.2]) rfl (⟨_, rfl, HRR.out.1.mono (by omega), HRR.out.2.1⟩)
  · have hs' : (bx == bz) = false := by simpa using hs
    have hnb : decide (x < 0) = !decide (y < 0) := by rw [hbx, hby]; exact eq_not_of_ne hs'
    by_cases hl : y.natAbs ≤ x.natAbs
    · have HSG := Lib.hid (show sg bx (x.natAbs - y.natAbs) = x + y by rw [← hbx]; exact sg_left2 hnb hl)
      obtain ⟨C, hC, hC0⟩ : ∃ C : Int, cmpI x.natAbs y.natAbs = C ∧ decide (0 ≤ C) = true := by
        refine ⟨_, rfl, ?_⟩
        unfold cmpI
        rw [if_neg (by omega)]
        split <;> rfl
      clear hbx hby hnb hs
      go_enter Tryz.func118, Tryz.ntmps118
      go_wp2_with fail
      have hh := heldN3 (w := w) (c0 := #[Value.bool bx, Value.slice ad len cap]) (t0 := 39) (c1 := #[Value.bool bz, Value.slice ad' len' cap']) (t1 := 39) (c2 := #[Value.bool false, Value.slice none 0 0]) (t2 := 39)
      have hbX := bel_alloc3 w (Obj.cells #[Value.bool bx, Value.slice ad len cap] 39) (Obj.cells #[Value.bool bz, Value.slice ad' len' cap'] 39) (Obj.cells #[Value.bool false, Value.slice none 0 0] 39)
      generalize ((w.alloc (Obj.cells #[Value.bool bx, Value.slice ad len cap] 39)).alloc (Obj.cells #[Value.bool bz, Value.slice ad' len' cap'] 39)).alloc (Obj.cells #[Value.bool false, Value.slice none 0 0] 39) = X at *
      have hc0 := cell0 hh.1
      have hc1 := cell1 hh.1
      have hd0 := cell0 hh.2.1
      have hd1 := cell1 hh.2.1
      have HSL := Lib.hid (Slot.of (n := 2) hh.2.2.1 rfl)
      have HBX := Lib.hid hbX
      clear hh hbX
      refine (rcmpB (.slice ad len cap) (.slice ad' len' cap') x.natAbs y.natAbs k j _ (H.out.below HBX.out) (H'.out.below HBX.out) (by omega) (by omega)).mono ?_
      rintro e w1 ⟨rfl, hb1⟩
      rw [hC]
      replace hc0 := cell_below hc0 hb1
      replace hc1 := cell_below hc1 hb1
      replace hd0 := cell_below hd0 hb1
      replace hd1 := cell_below hd1 hb1
      replace HSL := Lib.hid (HSL.out.below hb1)
      replace HBX := Lib.hid (bel_on HBX.out hb1)
      clear hb1
      go_wp2_with fail
      clear hC0 hC
      refine wp_region_sched (fun w' => w'.cell? ⟨w.heap.size, 0, none⟩ = some (.bool bx) ∧ w'.cell? ⟨w.heap.size, 1, none⟩ = some (.slice ad len cap) ∧ w'.cell? ⟨w.heap.size + 1, 0, none⟩ = some (.bool bz) ∧ w'.cell? ⟨w.heap.size + 1, 1, none⟩ = some (.slice ad' len' cap') ∧ Slot w' (w.heap.size + 1 + 1) 39 2 ∧ Below w.heap.size w w') [(0, true), (1, true), (2, true), (3, true), (4, true), (5, true), (6, false), (7, false), (8, false)] (by kernel_rfl) (by kernel_rfl) ?_ (fun hHeld => ?_)
      · (try dsimp only)
        exact ⟨hc0, hc1, hd0, hd1, HSL.out.drew, HBX.out.drew⟩
      try dsimp only at hHeld
      repeat (refine wpSched_at (by simp only [List.getElem?_toArray, List.getElem?_cons_zero, List.getElem?_cons_succ]; rfl) ?_; (first | (apply wpAt_take rfl; (intro wx hSx; (try dsimp only at hSx); go_simp; (try with_reducible rfl)); simp only [Act.put, List.setIfInBounds_toArray, List.set_cons_zero, List.set_cons_succ]) | (refine wpAt_skip rfl ?_; simp only [Act.put, List.setIfInBounds_toArray, List.set_cons_zero, List.set_cons_succ]) | (refine wpAt_pass rfl hHeld ?_; simp only [Act.put, List.setIfInBounds_toArray, List.set_cons_zero, List.set_cons_succ]) | (refine wpAt_eff rfl (fun K hK => ?_); ((obtain ⟨x0, y0, hx0, hy0, hfx0, hfy0⟩ := hHeld.2.2.2.2.1.two); (try simp only [cell_drew, frozen_drew] at hx0 hy0 hfx0 hfy0)); go_simp; (first | (go_at_call 129; (with_reducible refine (rsubB (.slice ad len cap) (.slice ad' len' cap') x.natAbs y.natAbs k j _ ?_ ?_ (by omega) (by omega) hl).mono ?_); (exact H.out.below hHeld.2.2.2.2.2); (exact H'.out.below hHeld.2.2.2.2.2); rintro e w' ⟨vf, rfl, hn, hb⟩; (try replace NF := Lib.hid (NF.out.below hb)); have NF := Lib.hid hn; have hS := And.intro trivial (And.intro (cell_below hHeld.1 hb) (And.intro (cell_below hHeld.2.1 hb) (And.intro (cell_below hHeld.2.2.1 hb) (And.intro (cell_below hHeld.2.2.2.1 hb) (And.intro (hHeld.2.2.2.2.1.below hb) (bel_on hHeld.2.2.2.2.2 hb)))))); clear hb hHeld hn) | (go_at_call 114; (with_reducible refine (rfrom_any bx vf (x.natAbs - y.natAbs) (k) _ ?_).mono ?_); (exact NF.out); rintro e w' ⟨vs, rfl, hn, hb⟩; (try replace NF := Lib.hid (NF.out.below hb)); have NS := Lib.hid hn; (rw [HSG.out] at NS); obtain ⟨bbR, adR, lenR, capR, rfl, hrR⟩ := NS.out.shape2; have hS := And.intro trivial (And.intro (cell_below hHeld.1 hb) (And.intro (cell_below hHeld.2.1 hb) (And.intro (cell_below hHeld.2.2.1 hb) (And.intro (cell_below hHeld.2.2.2.1 hb) (And.intro (hHeld.2.2.2.2.1.below hb) (bel_on hHeld.2.2.2.2.2 hb)))))); clear hb hHeld hn) | (try simp only [cell_drew, slot_drew, below_drew] at hHeld)); (refine hK.out _ _ ?_ (fun hHeld => ?_)); ((try dsimp only); ((try simp only [cell_drew, slot_drew, below_drew]); refine ⟨?_, ?_, ?_, ?_, ?_, ?_⟩; (first | exact hS.2.1 | with_reducible exact cell_set hHeld.1 (by omega) | with_reducible exact cell_set (cell_set hHeld.1 (by omega)) (by omega)); (first | exact hS.2.2.1 | with_reducible exact cell_set hHeld.2.1 (by omega) | with_reducible exact cell_set (cell_set hHeld.2.1 (by omega)) (by omega)); (first | exact hS.2.2.2.1 | with_reducible exact cell_set hHeld.2.2.1 (by omega) | with_reducible exact cell_set (cell_set hHeld.2.2.1 (by omega)) (by omega)); (first | exact hS.2.2.2.2.1 | with_reducible exact cell_set hHeld.2.2.2.1 (by omega) | with_reducible exact cell_set (cell_set hHeld.2.2.2.1 (by omega)) (by omega)); (first | exact hS.2.2.2.2.2.1 | with_reducible exact hHeld.2.2.2.2.1.set _ _ _ | with_reducible exact (hHeld.2.2.2.2.1.set _ _ _).set _ _ _); (first | exact hS.2.2.2.2.2.2 | with_reducible exact bel_set1 hHeld.2.2.2.2.2 (by omega) | with_reducible exact bel_set2 hHeld.2.2.2.2.2 (by omega) (by omega)))); clear hK K; (try clear hS); (try clear hfx0 hx0 x0); (try clear hfy0 hy0 y0); (try clear hfx1 hx1 x1); (try clear hfy1 hy1 y1); (try dsimp only at hHeld))))
      refine wpSched_nil ?_
      rename_i hOld
      have HRR := Lib.hid (fin_int NS.out hOld.2.2.2.2.1 (by decide) hOld.2.2.2.2.2 (by omega))
      clear hOld hHeld
      go_wp2_with fail
      refine bodyPost_ret (v := .agg #[.bool bbR, .slice adR lenR capR]) (by simp [results, Tryz.results118, go_sem, HRR.out.2.2.1, HRR.out.2.2.2]) rfl (⟨_, rfl, HRR.out.1.mono (by omega), HRR.out.2.1⟩)
    · have hl' : x.natAbs < y.natAbs := by omega
      have HSG := Lib.hid (show sg bz (y.natAbs - x.natAbs) = x + y by rw [← hby]; exact sg_right2 hnb hl')
      have hC : cmpI x.natAbs y.natAbs = -1 := by unfold cmpI; rw [if_pos hl']
      have hle : x.natAbs ≤ y.natAbs := by omega
      clear hbx hby hnb hs hl
      go_enter Tryz.func118, Tryz.ntmps118
      go_wp2_with fail
      have hh := heldN3 (w := w) (c0 := #[Value.bool bx, Value.slice ad len cap]) (t0 := 39) (c1 := #[Value.bool bz, Value.slice ad' len' cap']) (t1 := 39) (c2 := #[Value.bool false, Value.slice none 0 0]) (t2 := 39)
      have hbX := bel_alloc3 w (Obj.cells #[Value.bool bx, Value.slice ad len cap] 39) (Obj.cells #[Value.bool bz, Value.slice ad' len' cap'] 39) (Obj.cells #[Value.bool false, Value.slice none 0 0] 39)
      generalize ((w.alloc (Obj.cells #[Value.bool bx, Value.slice ad len cap] 39)).alloc (Obj.cells #[Value.bool bz, Value.slice ad' len' cap'] 39)).alloc (Obj.cells #[Value.bool false, Value.slice none 0 0] 39) = X at *
      have hc0 := cell0 hh.1
      have hc1 := cell1 hh.1
      have hd0 := cell0 hh.2.1
      have hd1 := cell1 hh.2.1
      have HSL := Lib.hid (Slot.of (n := 2) hh.2.2.1 rfl)
      have HBX := Lib.hid hbX
      clear hh hbX
      refine (rcmpB (.slice ad len cap) (.slice ad' len' cap') x.natAbs y.natAbs k j _ (H.out.below HBX.out) (H'.out.below HBX.out) (by omega) (by omega)).mono ?_
      rintro e w1 ⟨rfl, hb1⟩
      rw [hC]
      replace hc0 := cell_below hc0 hb1
      replace hc1 := cell_below hc1 hb1
      replace hd0 := cell_below hd0 hb1
      replace hd1 := cell_below hd1 hb1
      replace HSL := Lib.hid (HSL.out.below hb1)
      replace HBX := Lib.hid (bel_on HBX.out hb1)
      clear hb1
      go_wp2_with fail
      clear hC
      refine wp_region_sched (fun w' => w'.cell? ⟨w.heap.size, 0, none⟩ = some (.bool bx) ∧ w'.cell? ⟨w.heap.size, 1, none⟩ = some (.slice ad len cap) ∧ w'.cell? ⟨w.heap.size + 1, 0, none⟩ = some (.bool bz) ∧ w'.cell? ⟨w.heap.size + 1, 1, none⟩ = some (.slice ad' len' cap') ∧ Slot w' (w.heap.size + 1 + 1) 39 2 ∧ Below w.heap.size w w') [(0, true), (1, true), (2, true), (3, true), (4, true), (5, true), (6, false), (7, false), (8, false)] (by kernel_rfl) (by kernel_rfl) ?_ (fun hHeld => ?_)
      · (try dsimp only)
        exact ⟨hc0, hc1, hd0, hd1, HSL.out.drew, HBX.out.drew⟩
      try dsimp only at hHeld
      repeat (refine wpSched_at (by simp only [List.getElem?_toArray, List.getElem?_cons_zero, List.getElem?_cons_succ]; rfl) ?_; (first | (apply wpAt_take rfl; (intro wx hSx; (try dsimp only at hSx); go_simp; (try with_reducible rfl)); simp only [Act.put, List.setIfInBounds_toArray, List.set_cons_zero, List.set_cons_succ]) | (refine wpAt_skip rfl ?_; simp only [Act.put, List.setIfInBounds_toArray, List.set_cons_zero, List.set_cons_succ]) | (refine wpAt_pass rfl hHeld ?_; simp only [Act.put, List.setIfInBounds_toArray, List.set_cons_zero, List.set_cons_succ]) | (refine wpAt_eff rfl (fun K hK => ?_); ((obtain ⟨x0, y0, hx0, hy0, hfx0, hfy0⟩ := hHeld.2.2.2.2.1.two); (try simp only [cell_drew, frozen_drew] at hx0 hy0 hfx0 hfy0)); go_simp; (first | (go_at_call 129; (with_reducible refine (rsubB (.slice ad' len' cap') (.slice ad len cap) y.natAbs x.natAbs j k _ ?_ ?_ (by omega) (by omega) hle).mono ?_); (exact H'.out.below hHeld.2.2.2.2.2); (exact H.out.below hHeld.2.2.2.2.2); rintro e w' ⟨vf, rfl, hn, hb⟩; (try replace NF := Lib.hid (NF.out.below hb)); have NF := Lib.hid hn; have hS := And.intro trivial (And.intro (cell_below hHeld.1 hb) (And.intro (cell_below hHeld.2.1 hb) (And.intro (cell_below hHeld.2.2.1 hb) (And.intro (cell_below hHeld.2.2.2.1 hb) (And.intro (hHeld.2.2.2.2.1.below hb) (bel_on hHeld.2.2.2.2.2 hb)))))); clear hb hHeld hn) | (go_at_call 114; (with_reducible refine (rfrom_any bz vf (y.natAbs - x.natAbs) (j) _ ?_).mono ?_); (exact NF.out); rintro e w' ⟨vs, rfl, hn, hb⟩; (try replace NF := Lib.hid (NF.out.below hb)); have NS := Lib.hid hn; (rw [HSG.out] at NS); obtain ⟨bbR, adR, lenR, capR, rfl, hrR⟩ := NS.out.shape2; have hS := And.intro trivial (And.intro (cell_below hHeld.1 hb) (And.intro (cell_below hHeld.2.1 hb) (And.intro (cell_below hHeld.2.2.1 hb) (And.intro (cell_below hHeld.2.2.2.1 hb) (And.intro (hHeld.2.2.2.2.1.below hb) (bel_on hHeld.2.2.2.2.2 hb)))))); clear hb hHeld hn) | (try simp only [cell_drew, slot_drew, below_drew] at hHeld)); (refine hK.out _ _ ?_ (fun hHeld => ?_)); ((try dsimp only); ((try simp only [cell_drew, slot_drew, below_drew]); refine ⟨?_, ?_, ?_, ?_, ?_, ?_⟩; (first | exact hS.2.1 | with_reducible exact cell_set hHeld.1 (by omega) | with_reducible exact cell_set (cell_set hHeld.1 (by omega)) (by omega)); (first | exact hS.2.2.1 | with_reducible exact cell_set hHeld.2.1 (by omega) | with_reducible exact cell_set (cell_set hHeld.2.1 (by omega)) (by omega)); (first | exact hS.2.2.2.1 | with_reducible exact cell_set hHeld.2.2.1 (by omega) | with_reducible exact cell_set (cell_set hHeld.2.2.1 (by omega)) (by omega)); (first | exact hS.2.2.2.2.1 | with_reducible exact cell_set hHeld.2.2.2.1 (by omega) | with_reducible exact cell_set (cell_set hHeld.2.2.2.1 (by omega)) (by omega)); (first | exact hS.2.2.2.2.2.1 | with_reducible exact hHeld.2.2.2.2.1.set _ _ _ | with_reducible exact (hHeld.2.2.2.2.1.set _ _ _).set _ _ _); (first | exact hS.2.2.2.2.2.2 | with_reducible exact bel_set1 hHeld.2.2.2.2.2 (by omega) | with_reducible exact bel_set2 hHeld.2.2.2.2.2 (by omega) (by omega)))); clear hK K; (try clear hS); (try clear hfx0 hx0 x0); (try clear hfy0 hy0 y0); (try clear hfx1 hx1 x1); (try clear hfy1 hy1 y1); (try dsimp only at hHeld))))
      refine wpSched_nil ?_
      rename_i hOld
      have HRR := Lib.hid (fin_int NS.out hOld.2.2.2.2.1 (by decide) hOld.2.2.2.2.2 (by omega))
      clear hOld hHeld
      go_wp2_with fail
      refine bodyPost_ret (v := .agg #[.bool bbR, .slice adR lenR capR]) (by simp [results, Tryz.results118, go_sem, HRR.out.2.2.1, HRR.out.2.2.2]) rfl (⟨_, rfl, HRR.out.1.mono (by omega), HRR.out.2.1⟩)
set_option maxRecDepth 100000 in
set_option maxHeartbeats 1600000 in
theorem risub_any (v u : Value) (x y : Int) (k j : Nat) (w : World) (h : IntB 146 w v x k) (h' : IntB 146 w u y j) (hk : k ≤ 4000000) (hj : j ≤ 4000000) :
    Calls Tryz.prog 113 #[v, u] w fun e w' => ∃ v', e = .returned v' ∧ IntB 146 w' v' (x - y) (k + j + 1) ∧ Below w.heap.size w w' := by
  obtain ⟨bx, ad, len, cap, rfl, hr⟩ := h.shape2
  obtain ⟨bz, ad', len', cap', rfl, hr'⟩ := h'.shape2
  have H := Lib.hid h
  have H' := Lib.hid h'
  clear h hr h' hr'
  go_enter Tryz.func113, Tryz.ntmps113
  go_wp2_with fail
  have hh := heldN3 (w := w) (c0 := #[Value.bool bx, Value.slice ad len cap]) (t0 := 39) (c1 := #[Value.bool bz, Value.slice ad' len' cap']) (t1 := 39) (c2 := #[Value.bool false, Value.slice none 0 0]) (t2 := 39)
  have hbX := bel_alloc3 w (Obj.cells #[Value.bool bx, Value.slice ad len cap] 39) (Obj.cells #[Value.bool bz, Value.slice ad' len' cap'] 39) (Obj.cells #[Value.bool false, Value.slice none 0 0] 39)
  generalize ((w.alloc (Obj.cells #[Value.bool bx, Value.slice ad len cap] 39)).alloc (Obj.cells #[Value.bool bz, Value.slice ad' len' cap'] 39)).alloc (Obj.cells #[Value.bool false, Value.slice none 0 0] 39) = X at *
  have hc0 := cell0 hh.1
  have hc1 := cell1 hh.1
  have hd0 := cell0 hh.2.1
  have hd1 := cell1 hh.2.1
  have HSL := Lib.hid (Slot.of (n := 2) hh.2.2.1 rfl)
  have HBX := Lib.hid hbX
  clear hh hbX
  refine wp_region_sched (fun w' => w'.cell? ⟨w.heap.size, 0, none⟩ = some (.bool bx) ∧ w'.cell? ⟨w.heap.size, 1, none⟩ = some (.slice ad len cap) ∧ w'.cell? ⟨w.heap.size + 1, 0, none⟩ = some (.bool bz) ∧ w'.cell? ⟨w.heap.size + 1, 1, none⟩ = some (.slice ad' len' cap') ∧ Slot w' (w.heap.size + 1 + 1) 39 2 ∧ Below w.heap.size w w') [(0, true), (1, true), (2, false), (3, false), (4, false)] (by kernel_rfl) (by kernel_rfl) ?_ (fun hHeld => ?_)
  · (try dsimp only)
    exact ⟨hc0, hc1, hd0, hd1, HSL.out.drew, HBX.out.drew⟩
  try dsimp only at hHeld
  repeat (refine wpSched_at (by simp only [List.getElem?_toArray, List.getElem?_cons_zero, List.getElem?_cons_succ]; rfl) ?_; (first | (apply wpAt_take rfl; (intro wx hSx; (try dsimp only at hSx); go_simp; (try with_reducible rfl)); simp only [Act.put, List.setIfInBounds_toArray, List.set_cons_zero, List.set_cons_succ]) | (refine wpAt_skip rfl ?_; simp only [Act.put, List.setIfInBounds_toArray, List.set_cons_zero, List.set_cons_succ]) | (refine wpAt_pass rfl hHeld ?_; simp only [Act.put, List.setIfInBounds_toArray, List.set_cons_zero, List.set_cons_succ]) | (refine wpAt_eff rfl (fun K hK => ?_); ((obtain ⟨x0, y0, hx0, hy0, hfx0, hfy0⟩ := hHeld.2.2.2.2.1.two); (try simp only [cell_drew, frozen_drew] at hx0 hy0 hfx0 hfy0)); go_simp; (first | (go_at_call 132; (with_reducible refine (rneg_any (.agg #[.bool bz, .slice ad' len' cap']) y j _ ?_).mono ?_); (exact H'.out.below hHeld.2.2.2.2.2); rintro e w' ⟨vf, rfl, hn, hb⟩; (try replace NF := Lib.hid (NF.out.below hb)); have NF := Lib.hid hn; have hS := And.intro trivial (And.intro (cell_below hHeld.1 hb) (And.intro (cell_below hHeld.2.1 hb) (And.intro (cell_below hHeld.2.2.1 hb) (And.intro (cell_below hHeld.2.2.2.1 hb) (And.intro (hHeld.2.2.2.2.1.below hb) (bel_on hHeld.2.2.2.2.2 hb)))))); clear hb hHeld hn) | (go_at_call 118; (with_reducible refine (riadd_any (.agg #[.bool bx, .slice ad len cap]) vf x (-y) k j _ ?_ ?_ hk hj).mono ?_); (exact H.out.below hHeld.2.2.2.2.2); (exact NF.out); rintro e w' ⟨vs, rfl, hn, hb⟩; (try replace NF := Lib.hid (NF.out.below hb)); have NS := Lib.hid hn; (rw [← Int.sub_eq_add_neg] at NS); obtain ⟨bbR, adR, lenR, capR, rfl, hrR⟩ := NS.out.shape2; have hS := And.intro trivial (And.intro (cell_below hHeld.1 hb) (And.intro (cell_below hHeld.2.1 hb) (And.intro (cell_below hHeld.2.2.1 hb) (And.intro (cell_below hHeld.2.2.2.1 hb) (And.intro (hHeld.2.2.2.2.1.below hb) (bel_on hHeld.2.2.2.2.2 hb)))))); clear hb hHeld hn) | (try simp only [cell_drew, slot_drew, below_drew] at hHeld)); (refine hK.out _ _ ?_ (fun hHeld => ?_)); ((try dsimp only); ((try simp only [cell_drew, slot_drew, below_drew]); refine ⟨?_, ?_, ?_, ?_, ?_, ?_⟩; (first | exact hS.2.1 | with_reducible exact cell_set hHeld.1 (by omega) | with_reducible exact cell_set (cell_set hHeld.1 (by omega)) (by omega)); (first | exact hS.2.2.1 | with_reducible exact cell_set hHeld.2.1 (by omega) | with_reducible exact cell_set (cell_set hHeld.2.1 (by omega)) (by omega)); (first | exact hS.2.2.2.1 | with_reducible exact cell_set hHeld.2.2.1 (by omega) | with_reducible exact cell_set (cell_set hHeld.2.2.1 (by omega)) (by omega)); (first | exact hS.2.2.2.2.1 | with_reducible exact cell_set hHeld.2.2.2.1 (by omega) | with_reducible exact cell_set (cell_set hHeld.2.2.2.1 (by omega)) (by omega)); (first | exact hS.2.2.2.2.2.1 | with_reducible exact hHeld.2.2.2.2.1.set _ _ _ | with_reducible exact (hHeld.2.2.2.2.1.set _ _ _).set _ _ _); (first | exact hS.2.2.2.2.2.2 | with_reducible exact bel_set1 hHeld.2.2.2.2.2 (by omega) | with_reducible exact bel_set2 hHeld.2.2.2.2.2 (by omega) (by omega)))); clear hK K; (try clear hS); (try clear hfx0 hx0 x0); (try clear hfy0 hy0 y0); (try clear hfx1 hx1 x1); (try clear hfy1 hy1 y1); (try dsimp only at hHeld))))
  refine wpSched_nil ?_
  rename_i hOld
  have HRR := Lib.hid (fin_int NS.out hOld.2.2.2.2.1 (by decide) hOld.2.2.2.2.2 (by omega))
  clear hOld hHeld
  go_wp2_with fail
  refine bodyPost_ret (v := .agg #[.bool bbR, .slice adR lenR capR]) (by simp [results, Tryz.results113, go_sem, HRR.out.2.2.1, HRR.out.2.2.2]) rfl (⟨_, rfl, HRR.out.1, HRR.out.2.1⟩)
set_option maxHeartbeats 800000 in
theorem ricmp_any (v u : Value) (x y : Int) (k j : Nat) (w : World) (h : IntB 146 w v x k) (h' : IntB 146 w u y j) (hk : k ≤ 4000000) (hj : j ≤ 4000000) :
    Calls Tryz.prog 67 #[v, u] w fun e w' => e = .returned (.int .i64 (cmpZ x y)) ∧ Below w.heap.size w w' := by
  obtain ⟨bx, ad, len, cap, rfl, hr⟩ := h.shape2
  obtain ⟨bz, ad', len', cap', rfl, hr'⟩ := h'.shape2
  have H := Lib.hid h
  have H' := Lib.hid h'
  clear h hr h' hr'
  go_enter Tryz.func67, Tryz.ntmps67
  go_wp2_with fail
  refine (risub_any _ _ x y k j _ (H.out.below (bel_alloc2 _ _ _)) (H'.out.below (bel_alloc2 _ _ _)) hk hj).mono ?_
  rintro e w1 ⟨v1, rfl, hn1, hb1⟩
  have HN1 := Lib.hid hn1
  have HB1 := Lib.hid (bel_on (bel_alloc2 _ _ _) hb1)
  clear hn1 hb1
  go_wp2_with fail
  refine (rsign_any v1 (x - y) _ _ HN1.out).mono ?_
  rintro e w2 ⟨rfl, hb2⟩
  have HB2 := Lib.hid (bel_on HB1.out hb2)
  clear hb2
  go_wp2
  go_ret
  refine ⟨ret_int ?_, HB2.out⟩
  unfold sgnZ cmpZ
  split <;> split <;> (try split) <;> (try split) <;> omega
set_option maxHeartbeats 800000 in
theorem ritext_any (v : Value) (z : Int) (k : Nat) (w : World) (h : IntB 146 w v z k) (hk : k ≤ 1000000) :
    Calls Tryz.prog 120 #[v] w fun e w' => e = .returned (.string (intS z)) ∧ Below w.heap.size w w' := by
  obtain ⟨ad, len, cap, rfl, hr⟩ := h.shape
  have H := Lib.hid (refB_part h)
  have hlen : (decS z.natAbs).size ≤ 10 * k + 1 := dec_len_pw h.2
  clear h hr
  by_cases h0 : z < 0
  · rw [decide_eq_true h0, intS_neg h0]
    go_enter Tryz.func120, Tryz.ntmps120
    go_wp2_with fail
    refine (rtextB _ z.natAbs k _ (H.out.below (bel_alloc _ _)) hk).mono ?_
    rintro e w1 ⟨rfl, hb⟩
    have HB := Lib.hid (bel_on (bel_alloc _ _) hb)
    clear hb
    go_wp2
    go_ret
    exact ⟨rfl, HB.out⟩
  · rw [decide_eq_false h0, intS_pos h0]
    go_enter Tryz.func120, Tryz.ntmps120
    go_wp2_with fail
    refine (rtextB _ z.natAbs k _ (H.out.below (bel_alloc _ _)) hk).mono ?_
    rintro e w1 ⟨rfl, hb⟩
    have HB := Lib.hid (bel_on (bel_alloc _ _) hb)
    clear hb
    go_wp2
    go_ret
    exact ⟨rfl, HB.out⟩
set_option maxHeartbeats 800000 in
theorem itext_any (v : Value) (z : Int) (k : Nat) (w : World) (h : IntB 146 w v z k) (hk : k ≤ 1000000) (hT : Tabs w) :
    Calls Tryz.prog 116 #[v] w fun e w' => e = .returned (.string (intS z)) ∧ Below w.heap.size w w' := by
  obtain ⟨ad, len, cap, rfl, hr⟩ := h.shape
  have H := Lib.hid h.part.1
  have HT := Lib.hid hT
  have hlen : (decS z.natAbs).size ≤ 10 * k + 1 := dec_len_pw h.2
  clear h hr hT
  by_cases h0 : z < 0
  · rw [decide_eq_true h0, intS_neg h0]
    go_enter Tryz.func116, Tryz.ntmps116
    go_wp2_with fail
    refine (text_any _ z.natAbs k _ (H.out.below (bel_alloc _ _)) hk (HT.out.below (bel_alloc _ _))).mono ?_
    rintro e w1 ⟨rfl, hb⟩
    have HB := Lib.hid (bel_on (bel_alloc _ _) hb)
    clear hb
    go_wp2
    go_ret
    exact ⟨rfl, HB.out⟩
  · rw [decide_eq_false h0, intS_pos h0]
    go_enter Tryz.func116, Tryz.ntmps116
    go_wp2_with fail
    refine (text_any _ z.natAbs k _ (H.out.below (bel_alloc _ _)) hk (HT.out.below (bel_alloc _ _))).mono ?_
    rintro e w1 ⟨rfl, hb⟩
    have HB := Lib.hid (bel_on (bel_alloc _ _) hb)
    clear hb
    go_wp2
    go_ret
    exact ⟨rfl, HB.out⟩
end Go.Proofs.YtfohgkabmdhhaaaGreatDoor

namespace Go.Proofs.YtfohgkabmdhhaaaGreatDoor
open Go.RowKit Cin
def QB (w : World) (a b c d : Value) (q : Rat) (k : Nat) : Prop := IB w a b q.num k ∧ IB w c d (denZ q) k ∧ q.den < pw k
def RatB (w : World) (v : Value) (q : Rat) (k : Nat) : Prop := ∃ a b c d, v = .agg #[a, b, c, d] ∧ QB w a b c d q k
theorem mQ {D : TypeId → Bool} (a b c d : Value) (q : Rat) (k : Nat) (hD : D 146 = true := by rfl) : Mono D fun w => QB w a b c d q k := fun _ _ e ⟨h1, h2, h3⟩ => ⟨h1.ext e hD, h2.ext e hD, h3⟩
theorem qpl {w : World} {a b c d : Value} {q : Rat} {k : Nat} (h : QB w a b c d q k) : [a, b, c, d].all Value.oneCell' = true := by
  have p1 := ipl h.1
  have p2 := ipl h.2.1
  simp only [List.all_cons, List.all_nil, Bool.and_true, Bool.and_eq_true] at p1 p2 ⊢
  exact ⟨p1.1, p1.2, p2.1, p2.2⟩
theorem QB.mono {w : World} {a b c d : Value} {q : Rat} {k j : Nat} (h : QB w a b c d q k) (hj : k ≤ j) : QB w a b c d q j := ⟨h.1.mono hj, h.2.1.mono hj, lt_pw_mono h.2.2 hj⟩
theorem wRat {D Z : TypeId → Bool} {w0 : World} {Post : Ending → World → Prop} {F : World → Prop} {L : LC} {E : Env} {tr : Tr} {f : FuncId} {ar : List V1} {args : Array Value} {q : Rat} {m : Nat}
    (hc : ∀ w, Below w0.heap.size w0 w → F w → Calls Tryz.prog f args w fun e w' => ∃ v, e = .returned v ∧ RatB w' v q m ∧ Below w.heap.size w w')
    {E' : Value → Value → Value → Value → Env} (hk : ∀ a b c d, Wk Tryz.prog w0 D Z Post L (fun w => QB w a b c d q m ∧ F w) tr (E' a b c d)) (ha : (ar.map (V1.den [] E)).toArray = args := by rfl) (hE : ∀ a b c d, E ++ [[a, b, c, d]] = E' a b c d := by intros; (simp only [List.cons_append, List.nil_append]) <;> exact rfl) (hD : D 146 = true := by rfl) : Wk Tryz.prog w0 D Z Post L F (.em (.call f ar [some 4]) tr) E := by
  intro hm u hF w e b
  subst ha
  refine (hc w b (hm u w e hF)).mono ?_
  rintro e1 w' ⟨v, rfl, ⟨a, b, c, d, rfl, hv⟩, h4⟩
  exact ⟨[a, b, c, d], rfl, qpl hv, h4, hE _ _ _ _ ▸ hk _ _ _ _ ((mQ _ _ _ _ _ _ hD).and hm) w' ⟨hv, hm u w' (e.below h4) hF⟩⟩
theorem sgn_den (q : Rat) : (sgnZ (denZ q) == 0) = decide (q.den = 1) := by
  have := q.den_pos
  unfold sgnZ denZ
  by_cases h : q.den = 1
  · simp [h]
  · rw [if_neg h, if_neg (by omega), if_pos (by omega)]; simp [h]
theorem bottom_any (v : Value) (q : Rat) (k : Nat) (w : World) (h : RatB w v q k) (hk : k ≤ 1000000) :
    Calls Tryz.prog 94 #[v] w fun e w' => ∃ v', e = .returned v' ∧ IntB 146 w' v' (q.den : Int) k ∧ Below w.heap.size w w' := by
  obtain ⟨a, b, c, d, rfl, h⟩ := h
  refine go (fun w => QB w a b c d q k) [[a, b, c, d]] [some 4] (tr := (.em (.call 103 [.g [.c 0 2, .c 0 3]] [none]) (.em (.pr (.binOp .eql 3 (.tmp 0) (.const (.int .i64 0)) 3) 4 [.s (.c 1 0), .s (.k (.int .i64 0))]) (.cond (.c 2 0) (.em (.call 104 [.s (.k (.int .i64 1))] [some 2]) (.ret (.v (.g [.c 3 0, .c 3 1])))) (.ret (.v (.g [.c 0 2, .c 0 3]))))))) (by kernel_rfl) (by kernel_rfl) (by kernel_rfl) (mQ _ _ _ _ _ _) h ⟨qpl h, trivial⟩ ?_
  refine wVal (fun w b h => sign_any _ (denZ q) k w h.2.1 (by omega)) rfl ?_
  refine wPr (prEq rfl rfl) rfl ?_
  refine wIf _ rfl (fun e => ?_) (fun e => ?_)
  · have e1 : q.den = 1 := by have := (sgn_den q).symm.trans e; simpa using this
    refine wInt hU (fun w b h => iof_any 1 w (by decide) (by decide)) (fun x1 y1 => ?_)
    exact wRet fun w b ⟨h1, h⟩ => ⟨_, rfl, ⟨by rw [e1]; exact h1.1, by have := h.2.2; omega⟩, b⟩
  · have e1 : ¬ q.den = 1 := by have := (sgn_den q).symm.trans e; simpa using this
    refine wRet fun w b h => ⟨_, rfl, ?_, b⟩
    have h2 := h.2.1
    unfold denZ at h2
    rw [if_neg e1] at h2
    exact h2
theorem lowest_any (v u : Value) (n d : Int) (q : Rat) (k : Nat) (w : World) (h : IntB 146 w v n k) (h' : IntB 146 w u d k) (hk : k ≤ 1000000) (hn : q.num = n) (hd : (q.den : Int) = d) :
    Calls Tryz.prog 99 #[v, u] w fun e w' => ∃ v', e = .returned v' ∧ RatB w' v' q k ∧ Below w.heap.size w w' := by
  obtain ⟨a, b, rfl, h⟩ := ibc h
  obtain ⟨a', b', rfl, h'⟩ := ibc h'
  subst hn hd
  refine go (fun w => IB w a b q.num k ∧ IB w a' b' q.den k) [[a, b], [a', b']] [some 2, some 2] (tr := (.em (.call 108 [.g [.c 1 0, .c 1 1]] [none]) (.cond (.c 2 0) (.ret (.v (.g [.c 0 0, .c 0 1, .k (.bool false), .k (.slice none 0 0)]))) (.ret (.v (.g [.c 0 0, .c 0 1, .c 1 0, .c 1 1])))))) (by kernel_rfl) (by kernel_rfl) (by kernel_rfl) ((mI _ _ _ _).and (mI _ _ _ _)) ⟨h, h'⟩ ⟨ipl h, ipl h', trivial⟩ ?_
  refine wVal (fun w b ⟨_, h⟩ => isOne_any _ _ k w h (by omega)) rfl ?_
  refine wIf _ rfl (fun e => ?_) (fun e => ?_)
  · have e1 : q.den = 1 := by have : (q.den : Int) = 1 := by simpa using e
                              omega
    refine wRet fun w b ⟨h, h2⟩ => ⟨_, rfl, ⟨_, _, _, _, rfl, h, ?_, by have := h2.2; omega⟩, b⟩
    show IntB _ _ _ (denZ q) k
    unfold denZ
    rw [if_pos e1]; exact IntB.zero _ _ _
  · have e1 : ¬ q.den = 1 := by have : ¬ (q.den : Int) = 1 := by simpa using e
                                omega
    refine wRet fun w b ⟨h, h2⟩ => ⟨_, rfl, ⟨_, _, _, _, rfl, h, ?_, by have := h2.2; omega⟩, b⟩
    show IntB _ _ _ (denZ q) k
    unfold denZ
    rw [if_neg e1]; exact h2
theorem qsign_any (v : Value) (q : Rat) (k : Nat) (w : World) (h : RatB w v q k) (hk : k ≤ 1000000) :
    Calls Tryz.prog 61 #[v] w fun e w' => e = .returned (.int .i64 (sgnZ q.num)) ∧ Below w.heap.size w w' := by
  obtain ⟨a, b, c, d, rfl, h⟩ := h
  refine go (fun w => QB w a b c d q k) [[a, b, c, d]] [some 4] (tr := (.em (.call 103 [.g [.c 0 0, .c 0 1]] [none]) (.ret (.v (.s (.c 1 0)))))) (by kernel_rfl) (by kernel_rfl) (by kernel_rfl) (mQ _ _ _ _ _ _) h ⟨qpl h, trivial⟩ ?_
  refine wVal (fun w b h => sign_any _ _ k w h.1 (by omega)) rfl ?_
  exact wRet fun w b _ => ⟨rfl, b⟩
theorem qof_any (z : Int) (w : World) (h0 : -9223372036854775808 ≤ z) (h1 : z < 9223372036854775808) :
    Calls Tryz.prog 62 #[.int .i64 z] w fun e w' => ∃ v', e = .returned v' ∧ RatB w' v' (z : Rat) 2 ∧ Below w.heap.size w w' := by
  refine go (fun _ => True) [[.int .i64 z]] [none] (tr := (.em (.call 104 [.s (.c 0 0)] [some 2]) (.ret (.v (.g [.c 1 0, .c 1 1, .k (.bool false), .k (.slice none 0 0)]))))) (by kernel_rfl) (by kernel_rfl) (by kernel_rfl) Mono.true trivial ⟨rfl, trivial⟩ ?_
  refine wInt hU (fun w b _ => iof_any z w h0 h1) (fun x1 y1 => ?_)
  refine wRet fun w b ⟨h1, _⟩ => ⟨_, rfl, ⟨_, _, _, _, rfl, h1, ?_, by show 1 < pw 2; decide⟩, b⟩
  exact IntB.zero _ _ _
theorem qneg_any (v : Value) (q : Rat) (k : Nat) (w : World) (h : RatB w v q k) (hk : k ≤ 1000000) :
    Calls Tryz.prog 79 #[v] w fun e w' => ∃ v', e = .returned v' ∧ RatB w' v' (-q) k ∧ Below w.heap.size w w' := by
  obtain ⟨a, b, c, d, rfl, h⟩ := h
  refine go (fun w => QB w a b c d q k) [[a, b, c, d]] [some 4] (tr := (.em (.call 100 [.g [.c 0 0, .c 0 1]] [some 2]) (.em (.call 119 [.g [.c 0 2, .c 0 3]] [some 2]) (.ret (.v (.g [.c 1 0, .c 1 1, .c 2 0, .c 2 1])))))) (by kernel_rfl) (by kernel_rfl) (by kernel_rfl) (mQ _ _ _ _ _ _) h ⟨qpl h, trivial⟩ ?_
  refine wInt hU (fun w b h => neg_any _ _ k w h.1 (by omega)) (fun x1 y1 => ?_)
  refine wInt hU (fun w b ⟨_, h⟩ => qfresh_any _ _ k w h.2.1 (by omega)) (fun x2 y2 => ?_)
  exact wRet fun w b ⟨h2, h1, h⟩ => ⟨_, rfl, ⟨_, _, _, _, rfl, h1, h2, h.2.2⟩, b⟩
theorem qcmp_any (v u : Value) (x y : Rat) (k j : Nat) (w : World) (h : RatB w v x k) (h' : RatB w u y j) (hk : k ≤ 1000000) (hj : j ≤ 1000000) :
    Calls Tryz.prog 60 #[v, u] w fun e w' => e = .returned (.int .i64 (cmpQ x y)) ∧ Below w.heap.size w w' := by
  obtain ⟨a, b, c, d, rfl, h⟩ := h
  obtain ⟨a', b', c', d', rfl, h'⟩ := h'
  refine go (fun w => QB w a b c d x k ∧ QB w a' b' c' d' y j) [[a, b, c, d], [a', b', c', d']] [some 4, some 4] (tr := (.em (.call 94 [.g [.c 1 0, .c 1 1, .c 1 2, .c 1 3]] [some 2]) (.em (.call 98 [.g [.c 0 0, .c 0 1], .g [.c 2 0, .c 2 1]] [some 2]) (.em (.call 94 [.g [.c 0 0, .c 0 1, .c 0 2, .c 0 3]] [some 2]) (.em (.call 98 [.g [.c 1 0, .c 1 1], .g [.c 4 0, .c 4 1]] [some 2]) (.em (.call 102 [.g [.c 3 0, .c 3 1], .g [.c 5 0, .c 5 1]] [none]) (.ret (.v (.s (.c 6 0)))))))))) (by kernel_rfl) (by kernel_rfl) (by kernel_rfl) ((mQ _ _ _ _ _ _).and (mQ _ _ _ _ _ _)) ⟨h, h'⟩ ⟨qpl h, qpl h', trivial⟩ ?_
  refine wInt hU (fun w b ⟨_, h'⟩ => bottom_any _ y j w ⟨_, _, _, _, rfl, h'⟩ hj) (fun x1 y1 => ?_)
  refine wInt hU (fun w b ⟨h1, h, _⟩ => imul_any _ _ _ _ k j w h.1 h1 (by omega) (by omega)) (fun x2 y2 => ?_)
  refine wInt hU (fun w b ⟨_, _, h, _⟩ => bottom_any _ x k w ⟨_, _, _, _, rfl, h⟩ hk) (fun x3 y3 => ?_)
  refine wInt hU (fun w b ⟨h3, _, _, _, h'⟩ => imul_any _ _ _ _ j k w h'.1 h3 (by omega) (by omega)) (fun x4 y4 => ?_)
  refine wVal (fun w b ⟨h4, _, h2, _⟩ => icmp_any _ _ _ _ (k + j) (j + k) w h2 h4 (by omega) (by omega)) rfl ?_
  exact wRet fun w b _ => ⟨by rw [← cmpQ_of]; rfl, b⟩
end Go.Proofs.YtfohgkabmdhhaaaGreatDoor

namespace Cin
open Go Go.RowKit
theorem or_u32 {a lo s : Nat} (ha : a < 2 ^ s) (hl : lo % 2 ^ s = 0) (ha2 : a < 4294967296) (hl2 : lo < 4294967296) : bits .or .u32 (a : Int) (lo : Int) = ((a + lo : Nat) : Int) := by
  rw [u32_or_nat _ _ ha2 hl2, Nat.or_comm, nat_join s _ _ hl ha, Nat.add_comm]
theorem low_mul {x s : Nat} (hs : s < 32) : (x * 2 ^ s % 4294967296) % 2 ^ s = 0 := by
  have e : 4294967296 = 2 ^ (32 - s) * 2 ^ s := by rw [← Nat.pow_add, show 32 - s + s = 32 by omega]
  rw [e, Nat.mul_mod_mul_right]
  exact Nat.mul_mod_left _ _
theorem shl_step {xs os : List Nat} {i q s S t lo hi : Nat} (hl : os.length = S) (hok : Ok os) (hv : val os = val (xs.take i) * (pw q * 2 ^ s)) (hz : ∀ j, i + q < j → lim os j = 0) (ht : lim os (i + q) < 2 ^ s) (hs : s < 32) (hi' : i + q + 1 < S)
    (hx : lim xs i < 4294967296) (et : t = lim xs i * 2 ^ s) (elo : lo = t % 4294967296) (ehi : hi = t / 4294967296) :
    lim os (i + q) + lo < 4294967296 ∧ hi < 2 ^ s ∧ lo % 2 ^ s = 0 ∧ ((os.set (i + q) (lim os (i + q) + lo)).set (i + q + 1) hi).length = S ∧ Ok ((os.set (i + q) (lim os (i + q) + lo)).set (i + q + 1) hi) ∧
      val ((os.set (i + q) (lim os (i + q) + lo)).set (i + q + 1) hi) = val (xs.take (i + 1)) * (pw q * 2 ^ s) ∧ (∀ j, i + 1 + q < j → lim ((os.set (i + q) (lim os (i + q) + lo)).set (i + q + 1) hi) j = 0) ∧ lim ((os.set (i + q) (lim os (i + q) + lo)).set (i + q + 1) hi) (i + 1 + q) < 2 ^ s := by
  have hp : 2 ^ s ≤ 2147483648 := by have := Nat.pow_le_pow_right (n := 2) (by decide) (show s ≤ 31 by omega); simpa using this
  have hlo0 : lo % 2 ^ s = 0 := by rw [elo, et]; exact low_mul hs
  have hpos : 0 < 2 ^ s := Nat.pow_pos (by decide)
  have hhi : hi < 2 ^ s := by
    rw [ehi, Nat.div_lt_iff_lt_mul (by decide), et, Nat.mul_comm (2 ^ s)]
    exact Nat.mul_lt_mul_of_pos_right hx hpos
  have hlo : lim os (i + q) + lo < 4294967296 := by
    have h1 : lo < 4294967296 := by omega
    have e : 4294967296 = 2 ^ (32 - s) * 2 ^ s := by rw [← Nat.pow_add, show 32 - s + s = 32 by omega]
    obtain ⟨c, hc⟩ := Nat.dvd_of_mod_eq_zero hlo0
    have h2 : c < 2 ^ (32 - s) := by
      rw [hc, e, Nat.mul_comm (2 ^ (32 - s))] at h1
      exact Nat.lt_of_mul_lt_mul_left h1
    have h3 : 2 ^ s * (c + 1) ≤ 2 ^ s * 2 ^ (32 - s) := Nat.mul_le_mul_left _ h2
    rw [Nat.mul_comm (2 ^ s) (2 ^ (32 - s)), ← e, Nat.mul_add] at h3
    omega
  refine ⟨hlo, hhi, hlo0, by rw [List.length_set, List.length_set, hl], (hok.set _ _ hlo).set _ _ (by omega), ?_, fun j hj => ?_, ?_⟩
  · have e1 := val_set (xs := os) (i := i + q) (by omega) (lim os (i + q) + lo)
    have e2 := val_set (xs := os.set (i + q) (lim os (i + q) + lo)) (i := i + q + 1) (by rw [List.length_set]; omega) hi
    rw [lim_set_other (by omega), hz (i + q + 1) (by omega), Nat.mul_zero, Nat.add_zero] at e2
    rw [e2]
    have e3 : val (os.set (i + q) (lim os (i + q) + lo)) = val os + pw (i + q) * lo := by rw [Nat.mul_add] at e1; omega
    have e4 : t = lo + 4294967296 * hi := by omega
    have e5 : pw (i + q) * lo + pw (i + q + 1) * hi = pw (i + q) * t := by rw [e4, pw_succ, Nat.mul_add, Nat.mul_comm 4294967296 (pw (i + q)), Nat.mul_assoc]
    have e6 : pw (i + q) * t = pw i * lim xs i * (pw q * 2 ^ s) := by
      rw [et, pw_add, Nat.mul_assoc, Nat.mul_assoc, ← Nat.mul_assoc (pw q), Nat.mul_comm (pw q) (lim xs i), Nat.mul_assoc (lim xs i)]
    rw [e3, hv, val_take_step, Nat.add_mul, ← e6, ← e5]
    omega
  · rw [lim_set_other (by omega), lim_set_other (by omega)]; exact hz j (by omega)
  · rw [show i + 1 + q = i + q + 1 by omega, lim_set_same (by rw [List.length_set]; omega)]; exact hhi
end Cin
namespace Go.Proofs.YtfohgkabmdhhaaaGreatDoor
open Go.RowKit Cin
set_option maxRecDepth 100000 in
set_option maxHeartbeats 2000000 in
theorem refShl_any (v : Value) (x N k : Nat) (w : World) (h : RefB w v x k) (hk : k ≤ 1000000) (hN : N ≤ 1048576) :
    Calls Tryz.prog 126 #[v, .int .i64 N] w fun e w' => ∃ v', e = .returned v' ∧ RefB w' v' (x * 2 ^ N) (k + N / 32 + 1) ∧ Below w.heap.size w w' := by
  obtain ⟨⟨xs, hs, ho, hnm, hval⟩, hx⟩ := h
  obtain ⟨ad, cap, rfl, hc, _⟩ := hs.shape
  obtain ⟨i0, hi0, hz0, hz1, hz2⟩ := info_parts info_u32
  have hl : xs.length ≤ k := norm_len hnm (by rw [hval]; exact hx)
  obtain ⟨n, hn⟩ : ∃ n : Nat, xs.length = n := ⟨_, rfl⟩
  obtain ⟨q, eq, eq'⟩ : ∃ q : Nat, (N : Int) / 32 = (q : Int) ∧ q = N / 32 := ⟨N / 32, by omega, rfl⟩
  obtain ⟨s, es, es'⟩ : ∃ s : Nat, (N : Int) % 32 = (s : Int) ∧ s = N % 32 := ⟨N % 32, by omega, rfl⟩
  have hs32 : s < 32 := by omega
  have hpw : 2 ^ N = pw q * 2 ^ s := by rw [eq', es']; exact pow2_split32 N
  obtain ⟨nq, enq, enq'⟩ : ∃ a : Nat, (n : Int) + (q : Int) = (a : Int) ∧ a = n + q := ⟨n + q, by omega, rfl⟩
  obtain ⟨S, eS, eS'⟩ : ∃ a : Nat, (nq : Int) + 1 = (a : Int) ∧ a = n + q + 1 := ⟨n + q + 1, by omega, rfl⟩
  rw [hn] at hs hl hc ⊢
  have HS := Lib.hid hs
  have HVAL := Lib.hid hval
  have HX := Lib.hid hx
  have HLN := Lib.hid hn
  have HPW := Lib.hid hpw
  have HQ := Lib.hid eq'
  have HSS := Lib.hid eS'
  have hSb : S ≤ 3000000 := by omega
  have hqb : q ≤ 100000 := by omega
  have hnqb : nq ≤ 3000000 := by omega
  have HD := Lib.hid (show ∀ b' o' n' c', Value.slice ad n cap = .slice (some ⟨b', o', none⟩) n' c' → ¬ (b' = w.heap.size) from fun b' o' n' c' e => by have := hs.lt e; omega)
  clear hs hval hx hn hpw eq' es' enq' eS' hnm hc
  go_enter Tryz.func126, Tryz.ntmps126
  go_wp2_with (at_make; refine wpList_make_ints _ rfl _ _ 37 rfl 146 i0 .u32 Tryz.underlying37 hi0 hz0 hz1 .i64 .i64 _ _ S S rfl rfl (by omega) (by omega) (Nat.le_refl _) (by rw [hz2]; omega) (by omega) ?_)
  have hkW : Blk (w.alloc (Obj.cells (ints IntKind.u32 (List.replicate S 0)) 146)) w.heap.size 146 .u32 (List.replicate S 0) := Blk.new _ _ _ _
  have hbW := bel_alloc w (Obj.cells (ints IntKind.u32 (List.replicate S 0)) 146)
  generalize w.alloc (Obj.cells (ints IntKind.u32 (List.replicate S 0)) 146) = W at *
  have HL := Lib.hid (HS.out.below hbW)
  have HBW := Lib.hid hbW
  have HKW := Lib.hid hkW
  clear hbW hkW hi0 hz0 hz1 hz2
  go_loopw [6, 7] (fun ix _ wr => ∃ (i : Nat) (os : List Nat), i ≤ n ∧ ix = .int .i64 i ∧ os.length = S ∧ Ok os ∧ val os = val (xs.take i) * (pw q * 2 ^ s) ∧ (∀ j, i + q < j → lim os j = 0) ∧ lim os (i + q) < 2 ^ s ∧
      Blk wr w.heap.size 146 .u32 os ∧ Keep (· = w.heap.size) W wr) (fun ix _ _ => n - (intOf ix).toNat)
  case atStart => exact ⟨0, List.replicate S 0, Nat.zero_le _, rfl, by simp, Ok.replicate _, by rw [val_replicate, List.take_zero, val_nil, Nat.zero_mul], fun j _ => lim_replicate _ _, by rw [lim_replicate]; exact Nat.pow_pos (by decide), HKW.out, Keep.refl _ _⟩
  case round =>
    obtain ⟨i, os, hi, rfl, hol, hok, hv, hz, ht0, hblk, hkeep⟩ := hrel
    by_cases hlt : i < n
    · have hSq : i + q + 1 < S := by have := HSS.out; omega
      have hlim : lim xs i < 4294967296 := lim_lt ho _
      have hp : 2 ^ s ≤ 2147483648 := by have := Nat.pow_le_pow_right (n := 2) (by decide) (show s ≤ 31 by omega); simpa using this
      have hxb : lim xs i * 2 ^ s ≤ 4294967295 * 2147483648 := Nat.mul_le_mul (by omega) hp
      obtain ⟨t, hsh, et⟩ : ∃ t : Nat, IntKind.u64.wrap (((lim xs i : Nat) : Int) * 2 ^ s) = (t : Int) ∧ t = lim xs i * 2 ^ s := ⟨_, by
        rw [IntKind.wrap_u64, show (((lim xs i : Nat) : Int) * 2 ^ s) = ((lim xs i * 2 ^ s : Nat) : Int) by simp]; omega, rfl⟩
      have htb : t < 9223372036854775808 := by omega
      obtain ⟨lo, elo⟩ : ∃ lo : Nat, lo = t % 4294967296 := ⟨_, rfl⟩
      obtain ⟨hh, ehh, ehh'⟩ : ∃ hh : Nat, ((t : Int) / 4294967296) = (hh : Int) ∧ hh = t / 4294967296 := ⟨t / 4294967296, by omega, rfl⟩
      have hand : bits BinOp.and IntKind.u64 (t : Int) 4294967295 = (lo : Int) := by rw [and_mask32 (by omega), elo]
      have hlob : lo < 4294967296 := by omega
      have hhb : hh < 4294967296 := by omega
      have R := shl_step hol hok hv hz ht0 hs32 hSq hlim et elo ehh'
      obtain ⟨iq, eiq, eiq'⟩ : ∃ a : Nat, (i : Int) + (q : Int) = (a : Int) ∧ i + q = a := ⟨i + q, by omega, rfl⟩
      have hz1 := hz (i + q + 1) (by omega)
      rw [eiq'] at R hSq ht0 hz1
      have hcell2 := hblk.cell (i := iq) (by rw [hol]; omega)
      have hf := hblk.free iq
      have hcell3 := hblk.cell (i := iq + 1) (by rw [hol]; omega)
      have hf3 := hblk.free (iq + 1)
      rw [hz1] at hcell3
      have hob := lim_lt hok iq
      have hor1 : bits BinOp.or IntKind.u32 ((lim os iq : Nat) : Int) (lo : Int) = ((lim os iq + lo : Nat) : Int) := or_u32 ht0 R.2.2.1 hob hlob
      obtain ⟨o1, eo1⟩ : ∃ o1 : Nat, lim os iq + lo = o1 := ⟨_, rfl⟩
      rw [eo1] at hor1 R
      have hor2 : bits BinOp.or IntKind.u32 ((0 : Nat) : Int) (hh : Int) = (hh : Int) := by
        have := or_u32 (a := 0) (lo := hh) (s := 0) (by decide) (Nat.mod_one _) (by decide) hhb
        rw [this, Nat.zero_add]
      have hor3 : bits BinOp.or IntKind.u32 0 (hh : Int) = (hh : Int) := hor2
      obtain ⟨bx, offx, rfl, hcell, hblt⟩ := (HL.out.keep hkeep HD.out).cell (i := i) (by have := HLN.out; omega)
      have hne : w.heap.size ≠ bx := fun e => HD.out _ _ _ _ rfl e.symm
      have HB2 := Lib.hid ((hblk.set iq o1).set (iq + 1) hh)
      have HK2 := Lib.hid ((hkeep.setCell (a := ⟨w.heap.size, iq, none⟩) rfl (.int .u32 (o1 : Nat))).setCell (a := ⟨w.heap.size, iq + 1, none⟩) rfl (.int .u32 (hh : Nat)))
      have hcell4 : (wr.setCell ⟨w.heap.size, iq, none⟩ (.int .u32 (o1 : Nat))).cell? ⟨w.heap.size, iq + 1, none⟩ = some (.int .u32 ((0 : Nat) : Int)) := by
        rw [World.cell?_setCell_other _ _ _ _ (by intro e; injection e; omega)]; exact hcell3
      have HR := Lib.hid R
      have EIQ := Lib.hid eiq'
      have wq1 : IntKind.i64.wrap ((iq : Int) + 1) = (iq : Int) + 1 := IntWalk.i64_in _ (by omega)
      have hiqS : (iq : Int) < (S : Int) := by omega
      have hiqS2 : (iq : Int) + 1 < (S : Int) := by omega
      clear R hol hok hv hz ht0 hblk hkeep et elo ehh' eo1 eiq' hz1 hor2
      go_wp2_with fail
      obtain ⟨r1, r2, r3, r4, r5, r6, r7, r8⟩ := HR.out
      have e0 := EIQ.out
      subst e0
      exact ⟨⟨i + 1, _, by omega, by go_num, r4, r5, r6, r7, r8, HB2.out, HK2.out⟩, by simp [intOf]; omega⟩
    · obtain rfl : i = n := by omega
      rw [List.take_of_length_le (by have := HLN.out; omega), HVAL.out, ← HPW.out] at hv
      have hsl := Sl.of_blk hblk
      rw [hol] at hsl
      have HV := Lib.hid hv
      have HSL := Lib.hid hsl
      have HB3 := Lib.hid (HBW.out.trans (hkeep.below (B := w.heap.size) HBW.out.size (fun k e => by omega)))
      have hln : os.length ≤ 1000000000000 := by rw [hol]; omega
      have HLT := Lib.hid (show x * 2 ^ N < pw (k + N / 32 + 1) by
        rw [HPW.out, ← HQ.out, show k + q + 1 = k + (q + 1) by omega, pw_add]
        refine Nat.mul_lt_mul'' HX.out ?_
        rw [pw_succ, Nat.mul_comm]
        have hp : 2 ^ s ≤ 2147483648 := by have := Nat.pow_le_pow_right (n := 2) (by decide) (show s ≤ 31 by omega); simpa using this
        exact Nat.mul_lt_mul_of_pos_right (by omega) (pw_pos q))
      clear hv hsl hblk hkeep hol hz ht0
      go_wp2_with fail
      refine (rtrim_any _ os _ HSL.out hok hln).mono ?_
      rintro e w2 ⟨v2, rfl, hr2, rfl⟩
      rw [HV.out] at hr2
      have HR2 := Lib.hid hr2
      clear hr2
      go_wp2
      go_ret
      exact ⟨_, rfl, ⟨HR2.out, HLT.out⟩, HB3.out⟩
end Go.Proofs.YtfohgkabmdhhaaaGreatDoor
