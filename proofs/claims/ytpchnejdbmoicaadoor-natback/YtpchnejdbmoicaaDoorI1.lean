/- Contracts of whole's isZero, fresh, signed. -/
import Derived.Test.YtpchnejdbmoicaaDoorWS
import Derived.Test.YtpchnejdbmoicaaDoorW3
import Derived.Test.YtpchnejdbmoicaaDoorI0
import Derived.Test.YtpchnejdbmoicaaDoorSched
namespace Go.Proofs.YtpchnejdbmoicaaDoor
open Go.RowKit Cin

set_option maxHeartbeats 400000 in
/-- isZero: is it 0? -/
theorem isZero_any (v : Value) (n k : Nat) (w : World) (h : NatB 68 w v n k) (hk : k ≤ 10000000) :
    Calls Tryd.prog 78 #[v] w fun e w' => e = .returned (.bool (decide (n = 0))) ∧ Below w.heap.size w w' := by
  obtain ⟨ad, len, cap, rfl, hr⟩ := h.shape
  have H := Lib.hid h
  clear h hr
  go_enter Tryd.func78, Tryd.ntmps78
  go_wp2_with fail
  refine (bits_any _ n k _ (H.out.1.below (bel_alloc _ _)) H.out.2 (by omega)).mono ?_
  rintro e w1 ⟨j, rfl, hj, hb⟩
  have he : ((j : Int) == 0) = decide (n = 0) := by
    by_cases h0 : n = 0
    · subst h0
      rw [hj.unique IsBl.zero]; rfl
    · rw [decide_eq_false h0, beq_eq_false_iff_ne]
      intro e
      have := hj.1
      rw [show j = 0 by omega] at this
      omega
  have HB := Lib.hid (bel_on (bel_alloc _ _) hb)
  clear hb hj
  go_wp2
  go_ret
  exact ⟨rfl, HB.out⟩

theorem addB (v u : Value) (x y a b : Nat) (w : World) (h : NatB 68 w v x a) (h' : NatB 68 w u y b) (ha : a ≤ 10000000) (hb : b ≤ 10000000) :
    Calls Tryd.prog 30 #[v, u] w fun e w' => ∃ v', e = .returned v' ∧ NatB 68 w' v' (x + y) (a + b + 1) ∧ Below w.heap.size w w' :=
  (add_any v u x y (a + b) w h.1 h'.1 (lt_pw_mono h.2 (by omega)) (lt_pw_mono h'.2 (by omega)) (by omega)).mono fun _ _ ⟨v', e, hn, hw⟩ => ⟨v', e, ⟨hn, by have := pw_big a b; have := h.2; have := h'.2; omega⟩, hw⟩
theorem mulB (v u : Value) (x y a b : Nat) (w : World) (h : NatB 68 w v x a) (h' : NatB 68 w u y b) (ha : a ≤ 10000000) (hb : b ≤ 10000000) :
    Calls Tryd.prog 31 #[v, u] w fun e w' => ∃ v', e = .returned v' ∧ NatB 68 w' v' (x * y) (a + b) ∧ Below w.heap.size w w' :=
  (mul_any v u x y (a + b) w h.1 h'.1 (lt_pw_mono h.2 (by omega)) (lt_pw_mono h'.2 (by omega)) (by omega)).mono fun _ _ ⟨v', e, hn, hw⟩ => ⟨v', e, ⟨hn, lt_pw_mul h.2 h'.2⟩, hw⟩
theorem subB (v u : Value) (x y a b : Nat) (w : World) (h : NatB 68 w v x a) (h' : NatB 68 w u y b) (ha : a ≤ 10000000) (hb : b ≤ 10000000) (hle : y ≤ x) :
    Calls Tryd.prog 79 #[v, u] w fun e w' => ∃ v', e = .returned (.tuple #[v', .bool true]) ∧ NatB 68 w' v' (x - y) a ∧ Below w.heap.size w w' :=
  (sub_any v u x y (a + b) w h.1 h'.1 (lt_pw_mono h.2 (by omega)) (lt_pw_mono h'.2 (by omega)) (by omega) hle).mono fun _ _ ⟨v', e, hn, hw⟩ => ⟨v', e, ⟨hn, by have := h.2; omega⟩, hw⟩
theorem subLessB (v u : Value) (x y a b : Nat) (w : World) (h : NatB 68 w v x a) (h' : NatB 68 w u y b) (ha : a ≤ 10000000) (hb : b ≤ 10000000) (hlt : x < y) :
    Calls Tryd.prog 79 #[v, u] w fun e w' => e = .returned (.tuple #[.agg #[.slice none 0 0], .bool false]) ∧ Below w.heap.size w w' :=
  sub_less v u x y (a + b) w h.1 h'.1 (lt_pw_mono h.2 (by omega)) (lt_pw_mono h'.2 (by omega)) (by omega) hlt
theorem cmpB (v u : Value) (x y a b : Nat) (w : World) (h : NatB 68 w v x a) (h' : NatB 68 w u y b) (ha : a ≤ 10000000) (hb : b ≤ 10000000) :
    Calls Tryd.prog 29 #[v, u] w fun e w' => e = .returned (.int .i64 (cmpI x y)) ∧ Below w.heap.size w w' :=
  cmp_any v u x y (a + b) w h.1 h'.1 (lt_pw_mono h.2 (by omega)) (lt_pw_mono h'.2 (by omega)) (by omega)
theorem ofB (v : Nat) (w : World) (hv : v < 18446744073709551616) :
    Calls Tryd.prog 45 #[.int .u64 v] w fun e w' => ∃ v', e = .returned v' ∧ NatB 68 w' v' v 2 ∧ Below w.heap.size w w' :=
  (of_any v w hv).mono fun _ _ ⟨v', e, hn, hw⟩ => ⟨v', e, ⟨hn, hv⟩, hw⟩

set_option maxHeartbeats 400000 in
/-- fresh: the same number in memory of its own. -/
theorem fresh_any (v : Value) (n k : Nat) (w : World) (h : NatB 68 w v n k) (hk : k ≤ 10000000) :
    Calls Tryd.prog 83 #[v] w fun e w' => ∃ v', e = .returned v' ∧ NatB 68 w' v' n k ∧ Below w.heap.size w w' := by
  obtain ⟨ad, len, cap, rfl, hr⟩ := h.shape
  have H := Lib.hid h
  clear h hr
  go_enter Tryd.func83, Tryd.ntmps83
  go_wp2_with fail
  refine (addB _ _ n 0 k 0 _ (H.out.below (bel_alloc2 _ _ _)) ⟨NatV.zero _ _, by decide⟩ hk (by decide)).mono ?_
  rintro e w1 ⟨v1, rfl, hn, hb⟩
  obtain ⟨ad1, len1, cap1, rfl, hr⟩ := hn.shape
  have hh := (heldN2 (w := w)).below hb
  have hc := cell0 hh.2.1
  have hf := free_of hh.2.1 0
  have HR := Lib.hid (fin_nat (tn := 25) (bel_on (bel_alloc2 _ _ _) hb) hh.2.1 (by decide) hr (by omega) 0)
  clear hb hn hr hh
  go_wp2
  refine bodyPost_ret (v := .agg #[.slice ad1 len1 cap1]) (by simp [results, Tryd.results83, go_sem, World.cell?_setCell_same _ _ _ hc]) rfl ⟨_, rfl, ?_⟩
  exact ⟨⟨HR.out.1, H.out.2⟩, HR.out.2⟩

set_option maxRecDepth 100000 in
set_option maxHeartbeats 800000 in
/-- signed: with a sign. -/
theorem signed_any (b : Bool) (v : Value) (n k : Nat) (w : World) (h : NatB 68 w v n k) (hk : k ≤ 10000000) :
    Calls Tryd.prog 80 #[.bool b, v] w fun e w' => ∃ v', e = .returned v' ∧ IntB 68 w' v' (sg b n) k ∧ Below w.heap.size w w' := by
  obtain ⟨ad, len, cap, rfl, hr⟩ := h.shape
  have H := Lib.hid h
  clear h hr
  go_enter Tryd.func80, Tryd.ntmps80
  go_wp2_with fail
  have hh := heldN2 (w := w) (c0 := #[Value.slice ad len cap]) (t0 := 25) (c1 := #[Value.bool false, Value.slice none 0 0]) (t1 := 51)
  have hbX := bel_alloc2 w (Obj.cells #[Value.slice ad len cap] 25) (Obj.cells #[Value.bool false, Value.slice none 0 0] 51)
  have hsX : w.heap.size + 1 < ((w.alloc (Obj.cells #[Value.slice ad len cap] 25)).alloc (Obj.cells #[Value.bool false, Value.slice none 0 0] 51)).heap.size := by simp
  generalize (w.alloc (Obj.cells #[Value.slice ad len cap] 25)).alloc (Obj.cells #[Value.bool false, Value.slice none 0 0] 51) = X at *
  have hc0 := cell0 hh.1
  have HSL := Lib.hid (Slot.of (n := 2) hh.2.1 rfl)
  have HX := Lib.hid (H.out.below hbX)
  have HBX := Lib.hid hbX
  clear hh hbX
  have HR0 := Lib.hid (show RefV 68 w (.slice ad len cap) n from by obtain ⟨s, e, hs⟩ := H.out.1; injection e with e; injection e with e; simp only [List.cons.injEq, and_true] at e; rw [e]; exact hs)
  cases b
  ·
    refine wp_region_sched (fun w' => w'.cell? ⟨w.heap.size, 0, none⟩ = some (.slice ad len cap) ∧ Slot w' (w.heap.size + 1) 51 2 ∧ Below w.heap.size w w') [(0, true), (1, true), (2, true), (6, true), (3, false), (4, true), (5, true), (7, true), (8, false)] (by kernel_rfl) (by kernel_rfl) ?_ (fun hHeld => ?_)
    · (try dsimp only)
      exact ⟨hc0, HSL.out.drew, HBX.out.drew⟩
    try dsimp only at hHeld
    repeat (refine wpSched_at (by simp only [List.getElem?_toArray, List.getElem?_cons_zero, List.getElem?_cons_succ]; rfl) ?_; (first | (apply wpAt_take rfl; (intro wx hSx; (try dsimp only at hSx); go_simp; (try with_reducible rfl)); simp only [Act.put, List.setIfInBounds_toArray, List.set_cons_zero, List.set_cons_succ]) | (refine wpAt_skip rfl ?_; simp only [Act.put, List.setIfInBounds_toArray, List.set_cons_zero, List.set_cons_succ]) | (refine wpAt_pass rfl hHeld ?_; simp only [Act.put, List.setIfInBounds_toArray, List.set_cons_zero, List.set_cons_succ]) | (refine wpAt_eff rfl (fun K hK => ?_); ((obtain ⟨x0, y0, hx0, hy0, hfx0, hfy0⟩ := hHeld.2.1.two); (try simp only [cell_drew, frozen_drew] at hx0 hy0 hfx0 hfy0)); go_simp; (first | (try simp only [cell_drew, slot_drew, below_drew] at hHeld)); (refine hK.out _ _ ?_ (fun hHeld => ?_)); ((try dsimp only); ((try simp only [cell_drew, slot_drew, below_drew]); refine ⟨?_, ?_, ?_⟩; (first | exact hS.2.1 | with_reducible exact cell_set hHeld.1 (by omega) | with_reducible exact cell_set (cell_set hHeld.1 (by omega)) (by omega)); (first | exact hS.2.2.1 | with_reducible exact hHeld.2.1.set _ _ _ | with_reducible exact (hHeld.2.1.set _ _ _).set _ _ _); (first | exact hS.2.2.2 | with_reducible exact bel_set1 hHeld.2.2 (by omega) | with_reducible exact bel_set2 hHeld.2.2 (by omega) (by omega)))); clear hK K; (try clear hS); (try clear hfx0 hx0 x0); (try clear hfy0 hy0 y0); (try clear hfx1 hx1 x1); (try clear hfy1 hy1 y1); (try dsimp only at hHeld))))
    refine wpSched_nil ?_
    go_wp2_with fail
    obtain ⟨hr0, hr1⟩ := HSL.out.set2 (.bool false) (.slice ad len cap)
    have hrf := ((HR0.out.below HBX.out).slot HSL.out (by decide) 0 (.bool false)).slot (HSL.out.set (w.heap.size + 1) 0 _) (by decide) 1 (.slice ad len cap)
    refine bodyPost_ret (v := .agg #[.bool false, .slice ad len cap]) (by simp [results, Tryd.results80, go_sem, hr0, hr1]) rfl ⟨_, rfl, intB_of hrf H.out.2 (by simp), hHeld.2.2⟩
  ·
    refine wp_region_sched (fun w' => w'.cell? ⟨w.heap.size, 0, none⟩ = some (.slice ad len cap) ∧ Slot w' (w.heap.size + 1) 51 2 ∧ Below w.heap.size w w') [(0, true), (1, true), (2, true), (6, true), (3, false), (4, true), (5, true), (7, true), (8, false)] (by kernel_rfl) (by kernel_rfl) ?_ (fun hHeld => ?_)
    · (try dsimp only)
      exact ⟨hc0, HSL.out.drew, HBX.out.drew⟩
    try dsimp only at hHeld
    repeat (refine wpSched_at (by simp only [List.getElem?_toArray, List.getElem?_cons_zero, List.getElem?_cons_succ]; rfl) ?_; (first | (apply wpAt_take rfl; (intro wx hSx; (try dsimp only at hSx); go_simp; (try with_reducible rfl)); simp only [Act.put, List.setIfInBounds_toArray, List.set_cons_zero, List.set_cons_succ]) | (refine wpAt_skip rfl ?_; simp only [Act.put, List.setIfInBounds_toArray, List.set_cons_zero, List.set_cons_succ]) | (refine wpAt_pass rfl hHeld ?_; simp only [Act.put, List.setIfInBounds_toArray, List.set_cons_zero, List.set_cons_succ]) | (refine wpAt_eff rfl (fun K hK => ?_); ((obtain ⟨x0, y0, hx0, hy0, hfx0, hfy0⟩ := hHeld.2.1.two); (try simp only [cell_drew, frozen_drew] at hx0 hy0 hfx0 hfy0)); go_simp; (first | (go_at_call 78; (with_reducible refine (isZero_any (.agg #[.slice ad len cap]) n k _ ?_ hk).mono ?_); (exact H.out.below hHeld.2.2); rintro e w' ⟨rfl, hb⟩; have hS := And.intro trivial (And.intro (cell_below hHeld.1 hb) (And.intro (hHeld.2.1.below hb) (bel_on hHeld.2.2 hb))); clear hb hHeld) | (try simp only [cell_drew, slot_drew, below_drew] at hHeld)); (refine hK.out _ _ ?_ (fun hHeld => ?_)); ((try dsimp only); ((try simp only [cell_drew, slot_drew, below_drew]); refine ⟨?_, ?_, ?_⟩; (first | exact hS.2.1 | with_reducible exact cell_set hHeld.1 (by omega) | with_reducible exact cell_set (cell_set hHeld.1 (by omega)) (by omega)); (first | exact hS.2.2.1 | with_reducible exact hHeld.2.1.set _ _ _ | with_reducible exact (hHeld.2.1.set _ _ _).set _ _ _); (first | exact hS.2.2.2 | with_reducible exact bel_set1 hHeld.2.2 (by omega) | with_reducible exact bel_set2 hHeld.2.2 (by omega) (by omega)))); clear hK K; (try clear hS); (try clear hfx0 hx0 x0); (try clear hfy0 hy0 y0); (try clear hfx1 hx1 x1); (try clear hfy1 hy1 y1); (try dsimp only at hHeld))))
    refine wpSched_nil ?_
    rename_i hOld
    go_wp2_with fail
    obtain ⟨hr0, hr1⟩ := hOld.2.1.set2 (.bool (!decide (n = 0))) (.slice ad len cap)
    have hrf := ((HR0.out.below hOld.2.2).slot hOld.2.1 (by decide) 0 (.bool (!decide (n = 0)))).slot (hOld.2.1.set (w.heap.size + 1) 0 _) (by decide) 1 (.slice ad len cap)
    refine bodyPost_ret (v := .agg #[.bool (!decide (n = 0)), .slice ad len cap]) (by simp [results, Tryd.results80, go_sem, hr0, hr1]) rfl ⟨_, rfl, intB_of hrf H.out.2 (by simp), hHeld.2.2⟩

end Go.Proofs.YtpchnejdbmoicaaDoor
