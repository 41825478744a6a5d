/- Contracts of the document's whole numbers. -/
import Derived.Test.YtfhilapjpabeeabDoorT6
import Derived.Test.YtfhilapjpabeeabDoorI2
namespace Go.Proofs.YtfhilapjpabeeabDoor
open Go.RowKit Cin

theorem refB_part {w : World} {ad : Option Addr} {len cap k : Nat} {b : Bool} {z : Int} (h : IntB 80 w (.agg #[.bool b, .slice ad len cap]) z k) : RefB w (.slice ad len cap) z.natAbs k := by
  obtain ⟨⟨s, e, r⟩, hk⟩ := h
  injection e with e
  injection e with e
  simp only [List.cons.injEq, and_true] at e
  obtain ⟨_, rfl⟩ := e
  exact ⟨r, hk⟩
theorem refB_len {w : World} {ad : Option Addr} {len cap n k : Nat} (h : RefB w (.slice ad len cap) n k) : len = 0 ↔ n = 0 := by
  obtain ⟨⟨xs, hs, ho, hnm, rfl⟩, _⟩ := h
  have hl := hs.len
  constructor
  · intro e
    rw [List.length_eq_zero_iff.1 (hl.trans e)]; rfl
  · intro e
    rw [norm_val_zero hnm e] at hl
    exact hl.symm

set_option maxHeartbeats 800000 in
/-- IntFrom: with a sign. -/
theorem rfrom_any (b : Bool) (v : Value) (n k : Nat) (w : World) (h : RefB w v n k) :
    Calls Tryd.prog 40 #[.bool b, v] w fun e w' => ∃ v', e = .returned v' ∧ IntB 80 w' v' (sg b n) k ∧ Below w.heap.size w w' := by
  obtain ⟨ad, len, cap, xs, rfl, _⟩ := h.1.shape
  have hl := refB_len h
  have H := Lib.hid h
  clear h
  cases b
  · clear hl
    go_enter Tryd.func40, Tryd.ntmps40
    go_wp2_with fail
    refine bodyPost_ret (v := .agg #[.bool false, .slice ad len cap]) (by simp [results, Tryd.results40, go_sem]) rfl ⟨_, rfl, intB_of (b := false) (H.out.1.below (bel_alloc _ _)) H.out.2 rfl, bel_alloc _ _⟩
  · by_cases h0 : n = 0
    · have hz : len = 0 := hl.2 h0
      subst hz
      have HI := Lib.hid (fun W (h : RefV 80 W (.slice ad 0 cap) n) => intB_of (b := true) (bb := false) h H.out.2 (by rw [decide_eq_true h0]; rfl))
      clear hl h0
      go_enter Tryd.func40, Tryd.ntmps40
      go_wp2_with fail
      refine bodyPost_ret (v := .agg #[.bool false, .slice ad 0 cap]) (by simp [results, Tryd.results40, go_sem]) rfl ⟨_, rfl, HI.out _ (H.out.1.below (bel_alloc _ _)), bel_alloc _ _⟩
    · have hz : 0 < len := Nat.pos_of_ne_zero fun e => h0 (hl.1 e)
      have HI := Lib.hid (fun W (h : RefV 80 W (.slice ad len cap) n) => intB_of (b := true) (bb := true) h H.out.2 (by rw [decide_eq_false h0]; rfl))
      clear hl h0
      go_enter Tryd.func40, Tryd.ntmps40
      go_wp2_with fail
      refine bodyPost_ret (v := .agg #[.bool true, .slice ad len cap]) (by simp [results, Tryd.results40, go_sem, hz]) rfl ⟨_, rfl, HI.out _ (H.out.1.below (bel_alloc _ _)), bel_alloc _ _⟩

set_option maxHeartbeats 800000 in
/-- Sign: -1, 0, 1. -/
theorem rsign_any (v : Value) (z : Int) (k : Nat) (w : World) (h : IntB 80 w v z k) :
    Calls Tryd.prog 12 #[v] w fun e w' => e = .returned (.int .i64 (sgnZ z)) ∧ Below w.heap.size w w' := by
  obtain ⟨ad, len, cap, rfl, hr⟩ := h.shape
  have hl := refB_len (refB_part h)
  clear h hr
  by_cases h0 : z = 0
  · have hz : len = 0 := hl.2 (by omega)
    subst hz h0
    clear hl
    go_enter Tryd.func12, Tryd.ntmps12
    go_wp2_with fail
    go_ret
    exact ⟨rfl, bel_alloc _ _⟩
  · have hz : ((len : Int) == 0) = false := beq_eq_false_iff_ne.2 (by have := fun e => h0 (Int.natAbs_eq_zero.1 (hl.1 e)); omega)
    clear hl
    by_cases hn : z < 0
    · rw [decide_eq_true hn, show sgnZ z = -1 by unfold sgnZ; rw [if_pos hn]]
      go_enter Tryd.func12, Tryd.ntmps12
      go_wp2_with fail
      go_ret
      exact ⟨rfl, bel_alloc _ _⟩
    · rw [decide_eq_false hn, show sgnZ z = 1 by unfold sgnZ; rw [if_neg hn, if_pos (by omega)]]
      go_enter Tryd.func12, Tryd.ntmps12
      go_wp2_with fail
      go_ret
      exact ⟨rfl, bel_alloc _ _⟩

set_option maxRecDepth 100000 in
set_option maxHeartbeats 1600000 in
/-- MulInt. -/
theorem rimul_any (v u : Value) (x y : Int) (k j : Nat) (w : World) (h : IntB 80 w v x k) (h' : IntB 80 w u y j) (hk : k ≤ 5000000) (hj : j ≤ 5000000) :
    Calls Tryd.prog 48 #[v, u] w fun e w' => ∃ v', e = .returned v' ∧ IntB 80 w' v' (x * y) (k + j) ∧ Below w.heap.size w w' := by
  obtain ⟨ad, len, cap, rfl, hr⟩ := h.shape
  obtain ⟨ad', len', cap', rfl, hr'⟩ := h'.shape
  have H := Lib.hid (refB_part h)
  have H' := Lib.hid (refB_part h')
  clear h hr h' hr'
  generalize hbx : decide (x < 0) = bx
  generalize hby : decide (y < 0) = bz
  have HSG := Lib.hid (show sg (!(bx == bz)) (x.natAbs * y.natAbs) = x * y by rw [← hbx, ← hby]; exact sg_mul x y)
  clear hbx hby
  go_enter Tryd.func48, Tryd.ntmps48
  go_wp2_with fail
  have hh := heldN3 (w := w) (c0 := #[Value.bool bx, Value.slice ad len cap]) (t0 := 29) (c1 := #[Value.bool bz, Value.slice ad' len' cap']) (t1 := 29) (c2 := #[Value.bool false, Value.slice none 0 0]) (t2 := 29)
  have hbX := bel_alloc3 w (Obj.cells #[Value.bool bx, Value.slice ad len cap] 29) (Obj.cells #[Value.bool bz, Value.slice ad' len' cap'] 29) (Obj.cells #[Value.bool false, Value.slice none 0 0] 29)
  generalize ((w.alloc (Obj.cells #[Value.bool bx, Value.slice ad len cap] 29)).alloc (Obj.cells #[Value.bool bz, Value.slice ad' len' cap'] 29)).alloc (Obj.cells #[Value.bool false, Value.slice none 0 0] 29) = X at *
  have hc0 := cell0 hh.1
  have hc1 := cell1 hh.1
  have hd0 := cell0 hh.2.1
  have hd1 := cell1 hh.2.1
  have HSL := Lib.hid (Slot.of (n := 2) hh.2.2.1 rfl)
  have HBX := Lib.hid hbX
  clear hh hbX
  refine wp_region_sched (fun w' => w'.cell? ⟨w.heap.size, 0, none⟩ = some (.bool bx) ∧ w'.cell? ⟨w.heap.size, 1, none⟩ = some (.slice ad len cap) ∧ w'.cell? ⟨w.heap.size + 1, 0, none⟩ = some (.bool bz) ∧ w'.cell? ⟨w.heap.size + 1, 1, none⟩ = some (.slice ad' len' cap') ∧ Slot w' (w.heap.size + 1 + 1) 29 2 ∧ Below w.heap.size w w') [(0, true), (1, true), (2, true), (3, true), (4, true), (5, true), (6, true), (7, true), (8, true), (9, false), (10, false), (11, false)] (by kernel_rfl) (by kernel_rfl) ?_ (fun hHeld => ?_)
  · (try dsimp only)
    exact ⟨hc0, hc1, hd0, hd1, HSL.out.drew, HBX.out.drew⟩
  try dsimp only at hHeld
  repeat (refine wpSched_at (by simp only [List.getElem?_toArray, List.getElem?_cons_zero, List.getElem?_cons_succ]; rfl) ?_; (first | (apply wpAt_take rfl; (intro wx hSx; (try dsimp only at hSx); go_simp; (try with_reducible rfl)); simp only [Act.put, List.setIfInBounds_toArray, List.set_cons_zero, List.set_cons_succ]) | (refine wpAt_skip rfl ?_; simp only [Act.put, List.setIfInBounds_toArray, List.set_cons_zero, List.set_cons_succ]) | (refine wpAt_pass rfl hHeld ?_; simp only [Act.put, List.setIfInBounds_toArray, List.set_cons_zero, List.set_cons_succ]) | (refine wpAt_eff rfl (fun K hK => ?_); ((obtain ⟨x0, y0, hx0, hy0, hfx0, hfy0⟩ := hHeld.2.2.2.2.1.two); (try simp only [cell_drew, frozen_drew] at hx0 hy0 hfx0 hfy0)); go_simp; (first | (go_at_call 72; (with_reducible refine (rmulB (.slice ad len cap) (.slice ad' len' cap') x.natAbs y.natAbs k j _ ?_ ?_ (by omega) (by omega)).mono ?_); (exact H.out.below hHeld.2.2.2.2.2); (exact H'.out.below hHeld.2.2.2.2.2); rintro e w' ⟨vf, rfl, hn, hb⟩; (try replace NF := Lib.hid (NF.out.below hb)); have NF := Lib.hid hn; have hS := And.intro trivial (And.intro (cell_below hHeld.1 hb) (And.intro (cell_below hHeld.2.1 hb) (And.intro (cell_below hHeld.2.2.1 hb) (And.intro (cell_below hHeld.2.2.2.1 hb) (And.intro (hHeld.2.2.2.2.1.below hb) (bel_on hHeld.2.2.2.2.2 hb)))))); clear hb hHeld hn) | (go_at_call 40; (with_reducible refine (rfrom_any (!(bx == bz)) vf (x.natAbs * y.natAbs) (k + j) _ ?_).mono ?_); (exact NF.out); rintro e w' ⟨vs, rfl, hn, hb⟩; (try replace NF := Lib.hid (NF.out.below hb)); have NS := Lib.hid hn; (rw [HSG.out] at NS); obtain ⟨bbR, adR, lenR, capR, rfl, hrR⟩ := NS.out.shape2; have hS := And.intro trivial (And.intro (cell_below hHeld.1 hb) (And.intro (cell_below hHeld.2.1 hb) (And.intro (cell_below hHeld.2.2.1 hb) (And.intro (cell_below hHeld.2.2.2.1 hb) (And.intro (hHeld.2.2.2.2.1.below hb) (bel_on hHeld.2.2.2.2.2 hb)))))); clear hb hHeld hn) | (try simp only [cell_drew, slot_drew, below_drew] at hHeld)); (refine hK.out _ _ ?_ (fun hHeld => ?_)); ((try dsimp only); ((try simp only [cell_drew, slot_drew, below_drew]); refine ⟨?_, ?_, ?_, ?_, ?_, ?_⟩; (first | exact hS.2.1 | with_reducible exact cell_set hHeld.1 (by omega) | with_reducible exact cell_set (cell_set hHeld.1 (by omega)) (by omega)); (first | exact hS.2.2.1 | with_reducible exact cell_set hHeld.2.1 (by omega) | with_reducible exact cell_set (cell_set hHeld.2.1 (by omega)) (by omega)); (first | exact hS.2.2.2.1 | with_reducible exact cell_set hHeld.2.2.1 (by omega) | with_reducible exact cell_set (cell_set hHeld.2.2.1 (by omega)) (by omega)); (first | exact hS.2.2.2.2.1 | with_reducible exact cell_set hHeld.2.2.2.1 (by omega) | with_reducible exact cell_set (cell_set hHeld.2.2.2.1 (by omega)) (by omega)); (first | exact hS.2.2.2.2.2.1 | with_reducible exact hHeld.2.2.2.2.1.set _ _ _ | with_reducible exact (hHeld.2.2.2.2.1.set _ _ _).set _ _ _); (first | exact hS.2.2.2.2.2.2 | with_reducible exact bel_set1 hHeld.2.2.2.2.2 (by omega) | with_reducible exact bel_set2 hHeld.2.2.2.2.2 (by omega) (by omega)))); clear hK K; (try clear hS); (try clear hfx0 hx0 x0); (try clear hfy0 hy0 y0); (try clear hfx1 hx1 x1); (try clear hfy1 hy1 y1); (try dsimp only at hHeld))))
  refine wpSched_nil ?_
  rename_i hOld
  have HRR := Lib.hid (fin_int NS.out hOld.2.2.2.2.1 (by decide) hOld.2.2.2.2.2 (by omega))
  clear hOld hHeld 
  go_wp2_with fail
  refine bodyPost_ret (v := .agg #[.bool bbR, .slice adR lenR capR]) (by simp [results, Tryd.results48, go_sem, HRR.out.2.2.1, HRR.out.2.2.2]) rfl (⟨_, rfl, HRR.out.1.mono (by omega), HRR.out.2.1⟩)

theorem sg_same2 {x y : Int} (h : decide (x < 0) = decide (y < 0)) : sg (decide (x < 0)) (x.natAbs + y.natAbs) = x + y := by
  have := sg_same (n := y.natAbs) h
  rw [sg_of] at this
  rw [h]; exact this
theorem sg_left2 {x y : Int} (h : decide (x < 0) = !decide (y < 0)) (hl : y.natAbs ≤ x.natAbs) : sg (decide (x < 0)) (x.natAbs - y.natAbs) = x + y := by
  have := sg_left h hl
  rw [sg_of] at this
  rw [h]; exact this
theorem sg_right2 {x y : Int} (h : decide (x < 0) = !decide (y < 0)) (hl : x.natAbs < y.natAbs) : sg (decide (y < 0)) (y.natAbs - x.natAbs) = x + y := by
  have := sg_right h hl
  rwa [sg_of] at this

set_option maxHeartbeats 800000 in
/-- IntText. -/
theorem ritext_any (v : Value) (z : Int) (k : Nat) (w : World) (h : IntB 80 w v z k) (hk : k ≤ 1000000) :
    Calls Tryd.prog 15 #[v] w fun e w' => e = .returned (.string (intS z)) ∧ Below w.heap.size w w' := by
  obtain ⟨ad, len, cap, rfl, hr⟩ := h.shape
  have H := Lib.hid (refB_part h)
  have hlen : (decS z.natAbs).size ≤ 10 * k + 1 := dec_len_pw h.2
  clear h hr
  by_cases h0 : z < 0
  · rw [decide_eq_true h0, intS_neg h0]
    go_enter Tryd.func15, Tryd.ntmps15
    go_wp2_with fail
    refine (rtextB _ z.natAbs k _ (H.out.below (bel_alloc _ _)) hk).mono ?_
    rintro e w1 ⟨rfl, hb⟩
    have HB := Lib.hid (bel_on (bel_alloc _ _) hb)
    clear hb
    go_wp2
    go_ret
    exact ⟨rfl, HB.out⟩
  · rw [decide_eq_false h0, intS_pos h0]
    go_enter Tryd.func15, Tryd.ntmps15
    go_wp2_with fail
    refine (rtextB _ z.natAbs k _ (H.out.below (bel_alloc _ _)) hk).mono ?_
    rintro e w1 ⟨rfl, hb⟩
    have HB := Lib.hid (bel_on (bel_alloc _ _) hb)
    clear hb
    go_wp2
    go_ret
    exact ⟨rfl, HB.out⟩

set_option maxHeartbeats 800000 in
/-- Text. -/
theorem itext_any (v : Value) (z : Int) (k : Nat) (w : World) (h : IntB 80 w v z k) (hk : k ≤ 1000000) (hT : Tabs w) :
    Calls Tryd.prog 13 #[v] w fun e w' => e = .returned (.string (intS z)) ∧ Below w.heap.size w w' := by
  obtain ⟨ad, len, cap, rfl, hr⟩ := h.shape
  have H := Lib.hid h.part.1
  have HT := Lib.hid hT
  have hlen : (decS z.natAbs).size ≤ 10 * k + 1 := dec_len_pw h.2
  clear h hr hT
  by_cases h0 : z < 0
  · rw [decide_eq_true h0, intS_neg h0]
    go_enter Tryd.func13, Tryd.ntmps13
    go_wp2_with fail
    refine (text_any _ z.natAbs k _ (H.out.below (bel_alloc _ _)) hk (HT.out.below (bel_alloc _ _))).mono ?_
    rintro e w1 ⟨rfl, hb⟩
    have HB := Lib.hid (bel_on (bel_alloc _ _) hb)
    clear hb
    go_wp2
    go_ret
    exact ⟨rfl, HB.out⟩
  · rw [decide_eq_false h0, intS_pos h0]
    go_enter Tryd.func13, Tryd.ntmps13
    go_wp2_with fail
    refine (text_any _ z.natAbs k _ (H.out.below (bel_alloc _ _)) hk (HT.out.below (bel_alloc _ _))).mono ?_
    rintro e w1 ⟨rfl, hb⟩
    have HB := Lib.hid (bel_on (bel_alloc _ _) hb)
    clear hb
    go_wp2
    go_ret
    exact ⟨rfl, HB.out⟩

end Go.Proofs.YtfhilapjpabeeabDoor
