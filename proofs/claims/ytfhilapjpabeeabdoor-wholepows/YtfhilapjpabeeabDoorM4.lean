/- The law WholePows. -/
import Derived.Test.YtfhilapjpabeeabDoorI4
import Derived.Test.YtfhilapjpabeeabDoorI7
import Derived.Test.YtfhilapjpabeeabDoorK1
namespace Go.Proofs.YtfhilapjpabeeabDoor
open Go.RowKit Cin

set_option maxRecDepth 100000 in
set_option maxHeartbeats 8000000 in
/-- The law holds of every text and every int. -/
theorem wholePows_any (a : ByteArray) (n : Int) (w : World) (hT : Tabs w) (hn0 : -9223372036854775808 ≤ n) (hn1 : n < 9223372036854775808) :
    Calls Tryd.prog 4 #[.string a, .int .i64 n] w fun e w' => e = .returned (.bool true) ∧ Below w.heap.size w w' := by
  have HTT := Lib.hid hT
  have HN := Lib.hid (And.intro hn0 hn1)
  clear hT hn0 hn1
  go_enter Tryd.func4, Tryd.ntmps4
  go_wp2_with fail
  refine (num_uni a _).mono ?_
  rintro e w1 ⟨ok1, b1, ad1, l1, c1, d1, ae1, m1, e1, rfl, hI1, hb1⟩
  have hbA := bel_alloc2 w1 (Obj.cells #[Value.bool b1, Value.slice ad1 l1 c1] 26) (Obj.cells #[Value.bool d1, Value.slice ae1 m1 e1] 29)
  have HB1 := Lib.hid (bel_on hb1 hbA)
  have HI1 := Lib.hid (fun h => And.intro ((hI1.out h).1.below hbA) ((hI1.out h).2.below hbA))
  have hh := (heldN2 (w := w1) (c0 := #[Value.bool b1, Value.slice ad1 l1 c1]) (t0 := 26) (c1 := #[Value.bool d1, Value.slice ae1 m1 e1]) (t1 := 29))
  obtain ⟨hp0, hp1⟩ := cell_pair hh.1
  obtain ⟨hx0, hx1⟩ := cell_pair hh.2.1
  clear hI1 hb1 hbA hh
  cases ok1
  · go_wp2_with fail
    refine (alive2_any _).mono ?_
    rintro e w4 ⟨rfl, hb4⟩
    have HB4 := Lib.hid (bel_on HB1.out hb4)
    clear hb4
    go_wp2
    go_ret
    exact ⟨rfl, HB4.out⟩
  · by_cases hsz : 12 < a.size
    · have hd : decide ((12 : Int) < (a.size : Int)) = true := by rw [decide_eq_true_iff]; omega
      go_wp2_with fail
      refine (alive2_any _).mono ?_
      rintro e w4 ⟨rfl, hb4⟩
      have HB4 := Lib.hid (bel_on HB1.out hb4)
      clear hb4
      go_wp2
      go_ret
      exact ⟨rfl, HB4.out⟩
    · have hd : decide ((12 : Int) < (a.size : Int)) = false := by rw [decide_eq_false_iff_not]; omega
      have HP := Lib.hid (HI1.out rfl).1
      have HX := Lib.hid (HI1.out rfl).2
      clear HI1
      go_wp2_with fail
      generalize (w1.alloc (Obj.cells #[Value.bool b1, Value.slice ad1 l1 c1] 26)).alloc (Obj.cells #[Value.bool d1, Value.slice ae1 m1 e1] 29) = X at *
      refine (alive2_any _).mono ?_
      rintro e w4 ⟨rfl, hb4⟩
      replace hp0 := cell_below hp0 hb4
      replace hp1 := cell_below hp1 hb4
      replace hx0 := cell_below hx0 hb4
      replace hx1 := cell_below hx1 hb4
      replace HP := Lib.hid ((HP.out.below hb4).below (Below.refl _ w4).drew)
      replace HX := Lib.hid ((HX.out.below hb4).below (Below.refl _ w4).drew)
      have HB4 := Lib.hid (bel_on HB1.out hb4)
      clear hb4
      generalize intVal a = x at *
      go_wp2_with fail
      refine wp_region_sched (fun w' => w'.cell? ⟨w1.heap.size, 0, none⟩ = some (.bool b1) ∧ w'.cell? ⟨w1.heap.size, 1, none⟩ = some (.slice ad1 l1 c1) ∧ w'.cell? ⟨w1.heap.size + 1, 0, none⟩ = some (.bool d1) ∧ w'.cell? ⟨w1.heap.size + 1, 1, none⟩ = some (.slice ae1 m1 e1) ∧ Below w.heap.size w w') [(0, true), (1, true), (4, true), (5, true), (2, false), (3, false), (6, false), (7, false), (8, true), (9, true)] (by kernel_rfl) (by kernel_rfl) ?_ (fun hHeld => ?_)
      · (try dsimp only)
        exact ⟨hp0, hp1, hx0, hx1, HB4.out.drew⟩
      try dsimp only at hHeld
      repeat (refine wpSched_at (by simp only [List.getElem?_toArray, List.getElem?_cons_zero, List.getElem?_cons_succ]; rfl) ?_; (first | (apply wpAt_take rfl; (intro wx hSx; (try dsimp only at hSx); go_simp; (try with_reducible rfl)); simp only [Act.put, List.setIfInBounds_toArray, List.set_cons_zero, List.set_cons_succ]) | (refine wpAt_skip rfl ?_; simp only [Act.put, List.setIfInBounds_toArray, List.set_cons_zero, List.set_cons_succ]) | (refine wpAt_pass rfl hHeld ?_; simp only [Act.put, List.setIfInBounds_toArray, List.set_cons_zero, List.set_cons_succ]) | (refine wpAt_eff rfl (fun K hK => ?_); (skip); go_simp; (first | (go_at_call 16; (with_reducible refine (pow_any (.agg #[.bool b1, .slice ad1 l1 c1]) x n 21 _ ?_ (by decide) (by decide) HN.out.1 HN.out.2).mono ?_); (exact HP.out); rintro e w' ⟨vp, rfl, hn, hb⟩; (try replace HP := Lib.hid (HP.out.below hb)); (try replace HX := Lib.hid (HX.out.below hb)); (try replace NP := Lib.hid (NP.out.below hb)); (try replace NX := Lib.hid (NX.out.below hb)); have NP := Lib.hid hn; have hS := And.intro trivial (And.intro (cell_below hHeld.1 hb) (And.intro (cell_below hHeld.2.1 hb) (And.intro (cell_below hHeld.2.2.1 hb) (And.intro (cell_below hHeld.2.2.2.1 hb) (bel_on hHeld.2.2.2.2 hb))))); clear hb hHeld hn) | (go_at_call 13; (with_reducible refine (itext_any vp (x ^ cut255 n) (21 * 255 + 1) _ ?_ (by decide) ?_).mono ?_); (exact NP.out); (exact HTT.out.below hHeld.2.2.2.2); rintro e w' ⟨rfl, hb⟩; (try replace HP := Lib.hid (HP.out.below hb)); (try replace HX := Lib.hid (HX.out.below hb)); (try replace NP := Lib.hid (NP.out.below hb)); (try replace NX := Lib.hid (NX.out.below hb)); have hS := And.intro trivial (And.intro (cell_below hHeld.1 hb) (And.intro (cell_below hHeld.2.1 hb) (And.intro (cell_below hHeld.2.2.1 hb) (And.intro (cell_below hHeld.2.2.2.1 hb) (bel_on hHeld.2.2.2.2 hb))))); clear hb hHeld) | (go_at_call 17; (with_reducible refine (rpow_any (.agg #[.bool d1, .slice ae1 m1 e1]) x n 21 _ ?_ (by decide) (by decide) HN.out.1 HN.out.2).mono ?_); (exact HX.out); rintro e w' ⟨vx, rfl, hn, hb⟩; (try replace HP := Lib.hid (HP.out.below hb)); (try replace HX := Lib.hid (HX.out.below hb)); (try replace NP := Lib.hid (NP.out.below hb)); (try replace NX := Lib.hid (NX.out.below hb)); have NX := Lib.hid hn; have hS := And.intro trivial (And.intro (cell_below hHeld.1 hb) (And.intro (cell_below hHeld.2.1 hb) (And.intro (cell_below hHeld.2.2.1 hb) (And.intro (cell_below hHeld.2.2.2.1 hb) (bel_on hHeld.2.2.2.2 hb))))); clear hb hHeld hn) | (go_at_call 15; (with_reducible refine (ritext_any vx (x ^ cut255 n) (21 * 255 + 1) _ ?_ (by decide)).mono ?_); (exact NX.out); rintro e w' ⟨rfl, hb⟩; (try replace HP := Lib.hid (HP.out.below hb)); (try replace HX := Lib.hid (HX.out.below hb)); (try replace NP := Lib.hid (NP.out.below hb)); (try replace NX := Lib.hid (NX.out.below hb)); have hS := And.intro trivial (And.intro (cell_below hHeld.1 hb) (And.intro (cell_below hHeld.2.1 hb) (And.intro (cell_below hHeld.2.2.1 hb) (And.intro (cell_below hHeld.2.2.2.1 hb) (bel_on hHeld.2.2.2.2 hb))))); clear hb hHeld)); (refine hK.out _ _ ?_ (fun hHeld => ?_)); ((try dsimp only); ((try simp only [cell_drew, slot_drew, below_drew]); refine ⟨?_, ?_, ?_, ?_, ?_⟩; (first | exact hS.2.1 | with_reducible exact cell_set hHeld.1 (by omega) | with_reducible exact cell_set (cell_set hHeld.1 (by omega)) (by omega)); (first | exact hS.2.2.1 | with_reducible exact cell_set hHeld.2.1 (by omega) | with_reducible exact cell_set (cell_set hHeld.2.1 (by omega)) (by omega)); (first | exact hS.2.2.2.1 | with_reducible exact cell_set hHeld.2.2.1 (by omega) | with_reducible exact cell_set (cell_set hHeld.2.2.1 (by omega)) (by omega)); (first | exact hS.2.2.2.2.1 | with_reducible exact cell_set hHeld.2.2.2.1 (by omega) | with_reducible exact cell_set (cell_set hHeld.2.2.2.1 (by omega)) (by omega)); (first | exact hS.2.2.2.2.2 | with_reducible exact bel_set1 hHeld.2.2.2.2 (by omega) | with_reducible exact bel_set2 hHeld.2.2.2.2 (by omega) (by omega)))); clear hK K; (try clear hS); (try clear hfx0 hx0 x0); (try clear hfy0 hy0 y0); (try clear hfx1 hx1 x1); (try clear hfy1 hy1 y1); (try dsimp only at hHeld))))
      refine wpSched_nil ?_
      have HE := Lib.hid hHeld.2.2.2.2
      clear hHeld
      go_wp2_with fail
      go_ret
      exact ⟨rfl, HE.out⟩

end Go.Proofs.YtfhilapjpabeeabDoor
