/- The law WholeWords. -/
import Derived.Test.YtfhilapjpabeeabDoorI7
namespace Go.Proofs.YtfhilapjpabeeabDoor
open Go.RowKit Cin

theorem bits64 {n k : Nat} (h : n < 18446744073709551616) (hk : IsBl n k) : decide ((k : Int) ≤ 64) = true := by
  rw [decide_eq_true_iff]
  rcases hk.2 with rfl | h2
  · decide
  · rcases Nat.lt_or_ge 64 k with h3 | h3
    · have := Nat.pow_le_pow_right (n := 2) (by decide) (show 64 ≤ k - 1 by omega)
      omega
    · omega

theorem ofB_zero (w : World) : Calls Tryd.prog 20 #[.int .u64 0] w fun e w' => ∃ v', e = .returned v' ∧ NatB 80 w' v' 0 2 ∧ Below w.heap.size w w' := ofB 0 w (by decide)
theorem lowB_zero (v : Value) (w : World) (h : NatB 80 w v 0 2) : Calls Tryd.prog 22 #[v] w fun e w' => e = .returned (.int .u64 0) ∧ Below w.heap.size w w' := lowB v 0 w h

set_option maxRecDepth 100000 in
set_option maxHeartbeats 8000000 in
/-- The law holds of every word and every sign. -/
theorem wholeWords_any (v : Int) (below : Bool) (w : World) (h0 : -9223372036854775808 ≤ v) (h1 : v < 9223372036854775808) :
    Calls Tryd.prog 5 #[.int .i64 v, .bool below] w fun e w' => e = .returned (.bool true) ∧ Below w.heap.size w w' := by
  by_cases hv : v < 0
  · obtain ⟨n, rfl, hn0, hnb⟩ : ∃ n : Nat, v = -(n : Int) ∧ 0 < n ∧ n ≤ 9223372036854775808 := ⟨v.natAbs, by omega, by omega, by omega⟩
    have hd : decide (-(n : Int) < 0) = true := decide_eq_true hv
    have hd2 : decide ((0 : Int) < -(n : Int)) = false := by rw [decide_eq_false_iff_not]; omega
    have hd3 : decide ((0 : Int) < (n : Int)) = true := by rw [decide_eq_true_iff]; omega
    have ew : -(-(n : Int) + 1) + 1 = (n : Int) := by omega
    have hn64 : n < 18446744073709551616 := by omega
    have HNA := Lib.hid (show (-(n : Int)).natAbs = n by omega)
    have HES := Lib.hid (show sgnZ (-(n : Int)) = -1 by unfold sgnZ; rw [if_pos hv])
    have HEC := Lib.hid (show cmpZ (sg true n) (-(n : Int)) = 0 by unfold cmpZ sg; simp)
    clear hv
    go_enter Tryd.func5, Tryd.ntmps5
    go_wp2_with fail
    refine (iof_any (-(n : Int)) _ h0 h1).mono ?_
    rintro e w1 ⟨v1, rfl, hn1, hb1⟩
    obtain ⟨b1, ad1, l1, c1, rfl, hs1⟩ := hn1.shape2
    have HA := Lib.hid hn1
    have HB1 := Lib.hid (bel_on hb1 (bel_alloc w1 (Obj.cells #[Value.bool b1, Value.slice ad1 l1 c1] 26)))
    have hc0 := cell0 (heldN1 (w := w1) (c0 := #[Value.bool b1, Value.slice ad1 l1 c1]) (t0 := 26)).1
    have hc1 := cell1 (heldN1 (w := w1) (c0 := #[Value.bool b1, Value.slice ad1 l1 c1]) (t0 := 26)).1
    clear hn1 hb1 hs1
    cases below
    · have HET := Lib.hid (show sgnZ (sg false n) = 1 by unfold sgnZ sg; simp; omega)
      have HN1 := Lib.hid (HA.out.below (bel_alloc w1 (Obj.cells #[Value.bool b1, Value.slice ad1 l1 c1] 26)))
      go_wp2_with fail
      generalize w1.alloc (Obj.cells #[Value.bool b1, Value.slice ad1 l1 c1] 26) = X1 at *
      refine (ofB n _ hn64).mono ?_
      rintro e w2 ⟨v2, rfl, hn2, hb2⟩
      have HO := Lib.hid hn2
      have HB2 := Lib.hid hb2
      clear hn2 hb2
      go_wp2_with fail
      refine (from_any false v2 n 2 _ HO.out (by decide)).mono ?_
      rintro e w3 ⟨v3, rfl, hn3, hb3⟩
      obtain ⟨b2, ad2, l2, c2, rfl, hs3⟩ := hn3.shape2
      have hbY := bel_alloc w3 (Obj.cells #[Value.bool b2, Value.slice ad2 l2 c2] 26)
      have hd0 := cell0 (heldN1 (w := w3) (c0 := #[Value.bool b2, Value.slice ad2 l2 c2]) (t0 := 26)).1
      have hd1 := cell1 (heldN1 (w := w3) (c0 := #[Value.bool b2, Value.slice ad2 l2 c2]) (t0 := 26)).1
      have he0 := cell_below (cell_below (cell_below hc0 HB2.out) hb3) hbY
      have he1 := cell_below (cell_below (cell_below hc1 HB2.out) hb3) hbY
      have HAY := Lib.hid (((HN1.out.below HB2.out).below hb3).below hbY)
      have HBY := Lib.hid (hn3.below hbY)
      have HB3 := Lib.hid (bel_on (bel_on (bel_on HB1.out HB2.out) hb3) hbY)
      clear hn3 hb3 hbY hs3 hc0 hc1 HO HB2 HN1 HB1
      go_wp2_with fail
      generalize w3.alloc (Obj.cells #[Value.bool b2, Value.slice ad2 l2 c2] 26) = Y at *
      have HA := Lib.hid (HAY.out.below (Below.refl _ Y).drew)
      have HB := Lib.hid (HBY.out.below (Below.refl _ Y).drew)
      have eS : sgnZ (-(n : Int)) = (-1) := HES.out
      have eT : sgnZ (sg false n) = 1 := HET.out
      have eC : cmpZ (sg true n) (-(n : Int)) = 0 := HEC.out
      clear HAY HBY
      refine wp_region_sched (fun w' => w'.cell? ⟨w1.heap.size, 0, none⟩ = some (.bool b1) ∧ w'.cell? ⟨w1.heap.size, 1, none⟩ = some (.slice ad1 l1 c1) ∧ w'.cell? ⟨w3.heap.size, 0, none⟩ = some (.bool b2) ∧ w'.cell? ⟨w3.heap.size, 1, none⟩ = some (.slice ad2 l2 c2) ∧ Below w.heap.size w w') [(0, false), (1, true), (2, true), (5, true), (3, false), (4, false), (6, true), (7, true), (8, true), (9, true), (10, false), (11, false), (12, true), (13, true), (14, true), (15, true), (17, true), (16, false), (18, true), (19, true), (20, true), (21, true), (23, true), (22, false), (24, true), (25, true), (26, true), (27, true), (28, true), (29, true), (32, true), (30, false), (31, false), (33, false), (34, true), (35, true), (36, true)] (by kernel_rfl) (by kernel_rfl) ?_ (fun hHeld => ?_)
      · (try dsimp only)
        exact ⟨he0, he1, hd0, hd1, HB3.out.drew⟩
      try dsimp only at hHeld
      repeat (refine wpSched_at (by simp only [List.getElem?_toArray, List.getElem?_cons_zero, List.getElem?_cons_succ]; rfl) ?_; (first | (apply wpAt_take rfl; (intro wx hSx; (try dsimp only at hSx); go_simp; (try with_reducible rfl)); simp only [Act.put, List.setIfInBounds_toArray, List.set_cons_zero, List.set_cons_succ]) | (refine wpAt_skip rfl ?_; simp only [Act.put, List.setIfInBounds_toArray, List.set_cons_zero, List.set_cons_succ]) | (refine wpAt_pass rfl hHeld ?_; simp only [Act.put, List.setIfInBounds_toArray, List.set_cons_zero, List.set_cons_succ]) | (refine wpAt_eff rfl (fun K hK => ?_); (skip); go_simp; (first | (go_at_call 10; (with_reducible refine (alive2_any _).mono ?_); rintro e w' ⟨rfl, hb⟩; (try replace HA := Lib.hid (HA.out.below hb)); (try replace HB := Lib.hid (HB.out.below hb)); (try replace NA := Lib.hid (NA.out.below hb)); (try replace NO := Lib.hid (NO.out.below hb)); (try replace NF := Lib.hid (NF.out.below hb)); have hS := And.intro trivial (And.intro (cell_below hHeld.1 hb) (And.intro (cell_below hHeld.2.1 hb) (And.intro (cell_below hHeld.2.2.1 hb) (And.intro (cell_below hHeld.2.2.2.1 hb) (bel_on hHeld.2.2.2.2 hb))))); clear hb hHeld) | (go_at_call 21; (with_reducible refine (abs_any (.agg #[.bool b1, .slice ad1 l1 c1]) (-(n : Int)) 2 _ ?_ (by decide)).mono ?_); (exact HA.out); rintro e w' ⟨va, rfl, hn, hb⟩; (try replace HA := Lib.hid (HA.out.below hb)); (try replace HB := Lib.hid (HB.out.below hb)); (try replace NA := Lib.hid (NA.out.below hb)); (try replace NO := Lib.hid (NO.out.below hb)); (try replace NF := Lib.hid (NF.out.below hb)); have NA := Lib.hid hn; rw [HNA.out] at NA; have hS := And.intro trivial (And.intro (cell_below hHeld.1 hb) (And.intro (cell_below hHeld.2.1 hb) (And.intro (cell_below hHeld.2.2.1 hb) (And.intro (cell_below hHeld.2.2.2.1 hb) (bel_on hHeld.2.2.2.2 hb))))); clear hb hHeld hn) | (go_at_call 22; (with_reducible refine (lowB va n _ ?_).mono ?_); (exact NA.out); rintro e w' ⟨rfl, hb⟩; (try replace HA := Lib.hid (HA.out.below hb)); (try replace HB := Lib.hid (HB.out.below hb)); (try replace NA := Lib.hid (NA.out.below hb)); (try replace NO := Lib.hid (NO.out.below hb)); (try replace NF := Lib.hid (NF.out.below hb)); have hS := And.intro trivial (And.intro (cell_below hHeld.1 hb) (And.intro (cell_below hHeld.2.1 hb) (And.intro (cell_below hHeld.2.2.1 hb) (And.intro (cell_below hHeld.2.2.2.1 hb) (bel_on hHeld.2.2.2.2 hb))))); clear hb hHeld) | (go_at_call 23; (with_reducible refine (bits_any va n 2 _ ?_ ?_ (by decide)).mono ?_); (exact NA.out.1); (exact NA.out.2); rintro e w' ⟨kk, rfl, hkk, hb⟩; (try replace HA := Lib.hid (HA.out.below hb)); (try replace HB := Lib.hid (HB.out.below hb)); (try replace NA := Lib.hid (NA.out.below hb)); (try replace NO := Lib.hid (NO.out.below hb)); (try replace NF := Lib.hid (NF.out.below hb)); have hk64 := bits64 hn64 hkk; have hS := And.intro trivial (And.intro (cell_below hHeld.1 hb) (And.intro (cell_below hHeld.2.1 hb) (And.intro (cell_below hHeld.2.2.1 hb) (And.intro (cell_below hHeld.2.2.2.1 hb) (bel_on hHeld.2.2.2.2 hb))))); clear hb hHeld) | (go_at_call 24; (with_reducible refine (sign_any (.agg #[.bool b1, .slice ad1 l1 c1]) (-(n : Int)) 2 _ ?_ (by decide)).mono ?_); (exact HA.out); rintro e w' ⟨rfl, hb⟩; (try replace HA := Lib.hid (HA.out.below hb)); (try replace HB := Lib.hid (HB.out.below hb)); (try replace NA := Lib.hid (NA.out.below hb)); (try replace NO := Lib.hid (NO.out.below hb)); (try replace NF := Lib.hid (NF.out.below hb)); rw [eS]; have hS := And.intro trivial (And.intro (cell_below hHeld.1 hb) (And.intro (cell_below hHeld.2.1 hb) (And.intro (cell_below hHeld.2.2.1 hb) (And.intro (cell_below hHeld.2.2.2.1 hb) (bel_on hHeld.2.2.2.2 hb))))); clear hb hHeld) | (go_at_call 24; (with_reducible refine (sign_any (.agg #[.bool b2, .slice ad2 l2 c2]) (sg false n) 2 _ ?_ (by decide)).mono ?_); (exact HB.out); rintro e w' ⟨rfl, hb⟩; (try replace HA := Lib.hid (HA.out.below hb)); (try replace HB := Lib.hid (HB.out.below hb)); (try replace NA := Lib.hid (NA.out.below hb)); (try replace NO := Lib.hid (NO.out.below hb)); (try replace NF := Lib.hid (NF.out.below hb)); rw [eT]; have hS := And.intro trivial (And.intro (cell_below hHeld.1 hb) (And.intro (cell_below hHeld.2.1 hb) (And.intro (cell_below hHeld.2.2.1 hb) (And.intro (cell_below hHeld.2.2.2.1 hb) (bel_on hHeld.2.2.2.2 hb))))); clear hb hHeld) | (go_at_call 20; (with_reducible refine (ofB n _ hn64).mono ?_); rintro e w' ⟨vo, rfl, hn, hb⟩; (try replace HA := Lib.hid (HA.out.below hb)); (try replace HB := Lib.hid (HB.out.below hb)); (try replace NA := Lib.hid (NA.out.below hb)); (try replace NO := Lib.hid (NO.out.below hb)); (try replace NF := Lib.hid (NF.out.below hb)); have NO := Lib.hid hn; have hS := And.intro trivial (And.intro (cell_below hHeld.1 hb) (And.intro (cell_below hHeld.2.1 hb) (And.intro (cell_below hHeld.2.2.1 hb) (And.intro (cell_below hHeld.2.2.2.1 hb) (bel_on hHeld.2.2.2.2 hb))))); clear hb hHeld hn) | (go_at_call 19; (with_reducible refine (from_any true vo n 2 _ ?_ (by decide)).mono ?_); (exact NO.out); rintro e w' ⟨vf, rfl, hn, hb⟩; (try replace HA := Lib.hid (HA.out.below hb)); (try replace HB := Lib.hid (HB.out.below hb)); (try replace NA := Lib.hid (NA.out.below hb)); (try replace NO := Lib.hid (NO.out.below hb)); (try replace NF := Lib.hid (NF.out.below hb)); have NF := Lib.hid hn; have hS := And.intro trivial (And.intro (cell_below hHeld.1 hb) (And.intro (cell_below hHeld.2.1 hb) (And.intro (cell_below hHeld.2.2.1 hb) (And.intro (cell_below hHeld.2.2.2.1 hb) (bel_on hHeld.2.2.2.2 hb))))); clear hb hHeld hn) | (go_at_call 25; (with_reducible refine (icmp_any vf (.agg #[.bool b1, .slice ad1 l1 c1]) (sg true n) (-(n : Int)) 2 2 _ ?_ ?_ (by decide) (by decide)).mono ?_); (exact NF.out); (exact HA.out); rintro e w' ⟨rfl, hb⟩; (try replace HA := Lib.hid (HA.out.below hb)); (try replace HB := Lib.hid (HB.out.below hb)); (try replace NA := Lib.hid (NA.out.below hb)); (try replace NO := Lib.hid (NO.out.below hb)); (try replace NF := Lib.hid (NF.out.below hb)); rw [eC]; have hS := And.intro trivial (And.intro (cell_below hHeld.1 hb) (And.intro (cell_below hHeld.2.1 hb) (And.intro (cell_below hHeld.2.2.1 hb) (And.intro (cell_below hHeld.2.2.2.1 hb) (bel_on hHeld.2.2.2.2 hb))))); clear hb hHeld)); (refine hK.out _ _ ?_ (fun hHeld => ?_)); ((try dsimp only); ((try simp only [cell_drew, slot_drew, below_drew]); refine ⟨?_, ?_, ?_, ?_, ?_⟩; (first | exact hS.2.1 | with_reducible exact cell_set hHeld.1 (by omega) | with_reducible exact cell_set (cell_set hHeld.1 (by omega)) (by omega)); (first | exact hS.2.2.1 | with_reducible exact cell_set hHeld.2.1 (by omega) | with_reducible exact cell_set (cell_set hHeld.2.1 (by omega)) (by omega)); (first | exact hS.2.2.2.1 | with_reducible exact cell_set hHeld.2.2.1 (by omega) | with_reducible exact cell_set (cell_set hHeld.2.2.1 (by omega)) (by omega)); (first | exact hS.2.2.2.2.1 | with_reducible exact cell_set hHeld.2.2.2.1 (by omega) | with_reducible exact cell_set (cell_set hHeld.2.2.2.1 (by omega)) (by omega)); (first | exact hS.2.2.2.2.2 | with_reducible exact bel_set1 hHeld.2.2.2.2 (by omega) | with_reducible exact bel_set2 hHeld.2.2.2.2 (by omega) (by omega)))); clear hK K; (try clear hS); (try clear hfx0 hx0 x0); (try clear hfy0 hy0 y0); (try clear hfx1 hx1 x1); (try clear hfy1 hy1 y1); (try dsimp only at hHeld))))
      refine wpSched_nil ?_
      have HE := Lib.hid hHeld.2.2.2.2
      clear hHeld
      go_wp2_with fail
      go_ret
      exact ⟨rfl, HE.out⟩
    · have HET := Lib.hid (show sgnZ (sg true n) = (-1) by unfold sgnZ sg; simp; omega)
      have HN1 := Lib.hid (HA.out.below (bel_alloc w1 (Obj.cells #[Value.bool b1, Value.slice ad1 l1 c1] 26)))
      go_wp2_with fail
      generalize w1.alloc (Obj.cells #[Value.bool b1, Value.slice ad1 l1 c1] 26) = X1 at *
      refine (ofB n _ hn64).mono ?_
      rintro e w2 ⟨v2, rfl, hn2, hb2⟩
      have HO := Lib.hid hn2
      have HB2 := Lib.hid hb2
      clear hn2 hb2
      go_wp2_with fail
      refine (from_any true v2 n 2 _ HO.out (by decide)).mono ?_
      rintro e w3 ⟨v3, rfl, hn3, hb3⟩
      obtain ⟨b2, ad2, l2, c2, rfl, hs3⟩ := hn3.shape2
      have hbY := bel_alloc w3 (Obj.cells #[Value.bool b2, Value.slice ad2 l2 c2] 26)
      have hd0 := cell0 (heldN1 (w := w3) (c0 := #[Value.bool b2, Value.slice ad2 l2 c2]) (t0 := 26)).1
      have hd1 := cell1 (heldN1 (w := w3) (c0 := #[Value.bool b2, Value.slice ad2 l2 c2]) (t0 := 26)).1
      have he0 := cell_below (cell_below (cell_below hc0 HB2.out) hb3) hbY
      have he1 := cell_below (cell_below (cell_below hc1 HB2.out) hb3) hbY
      have HAY := Lib.hid (((HN1.out.below HB2.out).below hb3).below hbY)
      have HBY := Lib.hid (hn3.below hbY)
      have HB3 := Lib.hid (bel_on (bel_on (bel_on HB1.out HB2.out) hb3) hbY)
      clear hn3 hb3 hbY hs3 hc0 hc1 HO HB2 HN1 HB1
      go_wp2_with fail
      generalize w3.alloc (Obj.cells #[Value.bool b2, Value.slice ad2 l2 c2] 26) = Y at *
      have HA := Lib.hid (HAY.out.below (Below.refl _ Y).drew)
      have HB := Lib.hid (HBY.out.below (Below.refl _ Y).drew)
      have eS : sgnZ (-(n : Int)) = (-1) := HES.out
      have eT : sgnZ (sg true n) = (-1) := HET.out
      have eC : cmpZ (sg true n) (-(n : Int)) = 0 := HEC.out
      clear HAY HBY
      refine wp_region_sched (fun w' => w'.cell? ⟨w1.heap.size, 0, none⟩ = some (.bool b1) ∧ w'.cell? ⟨w1.heap.size, 1, none⟩ = some (.slice ad1 l1 c1) ∧ w'.cell? ⟨w3.heap.size, 0, none⟩ = some (.bool b2) ∧ w'.cell? ⟨w3.heap.size, 1, none⟩ = some (.slice ad2 l2 c2) ∧ Below w.heap.size w w') [(0, false), (1, true), (2, true), (5, true), (3, false), (4, false), (6, true), (7, true), (8, true), (9, true), (10, false), (11, false), (12, true), (13, true), (14, true), (15, true), (17, true), (16, false), (18, true), (19, true), (20, true), (21, true), (23, true), (22, false), (24, true), (25, true), (26, true), (27, true), (28, true), (29, true), (32, true), (30, false), (31, false), (33, false), (34, true), (35, true), (36, true)] (by kernel_rfl) (by kernel_rfl) ?_ (fun hHeld => ?_)
      · (try dsimp only)
        exact ⟨he0, he1, hd0, hd1, HB3.out.drew⟩
      try dsimp only at hHeld
      repeat (refine wpSched_at (by simp only [List.getElem?_toArray, List.getElem?_cons_zero, List.getElem?_cons_succ]; rfl) ?_; (first | (apply wpAt_take rfl; (intro wx hSx; (try dsimp only at hSx); go_simp; (try with_reducible rfl)); simp only [Act.put, List.setIfInBounds_toArray, List.set_cons_zero, List.set_cons_succ]) | (refine wpAt_skip rfl ?_; simp only [Act.put, List.setIfInBounds_toArray, List.set_cons_zero, List.set_cons_succ]) | (refine wpAt_pass rfl hHeld ?_; simp only [Act.put, List.setIfInBounds_toArray, List.set_cons_zero, List.set_cons_succ]) | (refine wpAt_eff rfl (fun K hK => ?_); (skip); go_simp; (first | (go_at_call 10; (with_reducible refine (alive2_any _).mono ?_); rintro e w' ⟨rfl, hb⟩; (try replace HA := Lib.hid (HA.out.below hb)); (try replace HB := Lib.hid (HB.out.below hb)); (try replace NA := Lib.hid (NA.out.below hb)); (try replace NO := Lib.hid (NO.out.below hb)); (try replace NF := Lib.hid (NF.out.below hb)); have hS := And.intro trivial (And.intro (cell_below hHeld.1 hb) (And.intro (cell_below hHeld.2.1 hb) (And.intro (cell_below hHeld.2.2.1 hb) (And.intro (cell_below hHeld.2.2.2.1 hb) (bel_on hHeld.2.2.2.2 hb))))); clear hb hHeld) | (go_at_call 21; (with_reducible refine (abs_any (.agg #[.bool b1, .slice ad1 l1 c1]) (-(n : Int)) 2 _ ?_ (by decide)).mono ?_); (exact HA.out); rintro e w' ⟨va, rfl, hn, hb⟩; (try replace HA := Lib.hid (HA.out.below hb)); (try replace HB := Lib.hid (HB.out.below hb)); (try replace NA := Lib.hid (NA.out.below hb)); (try replace NO := Lib.hid (NO.out.below hb)); (try replace NF := Lib.hid (NF.out.below hb)); have NA := Lib.hid hn; rw [HNA.out] at NA; have hS := And.intro trivial (And.intro (cell_below hHeld.1 hb) (And.intro (cell_below hHeld.2.1 hb) (And.intro (cell_below hHeld.2.2.1 hb) (And.intro (cell_below hHeld.2.2.2.1 hb) (bel_on hHeld.2.2.2.2 hb))))); clear hb hHeld hn) | (go_at_call 22; (with_reducible refine (lowB va n _ ?_).mono ?_); (exact NA.out); rintro e w' ⟨rfl, hb⟩; (try replace HA := Lib.hid (HA.out.below hb)); (try replace HB := Lib.hid (HB.out.below hb)); (try replace NA := Lib.hid (NA.out.below hb)); (try replace NO := Lib.hid (NO.out.below hb)); (try replace NF := Lib.hid (NF.out.below hb)); have hS := And.intro trivial (And.intro (cell_below hHeld.1 hb) (And.intro (cell_below hHeld.2.1 hb) (And.intro (cell_below hHeld.2.2.1 hb) (And.intro (cell_below hHeld.2.2.2.1 hb) (bel_on hHeld.2.2.2.2 hb))))); clear hb hHeld) | (go_at_call 23; (with_reducible refine (bits_any va n 2 _ ?_ ?_ (by decide)).mono ?_); (exact NA.out.1); (exact NA.out.2); rintro e w' ⟨kk, rfl, hkk, hb⟩; (try replace HA := Lib.hid (HA.out.below hb)); (try replace HB := Lib.hid (HB.out.below hb)); (try replace NA := Lib.hid (NA.out.below hb)); (try replace NO := Lib.hid (NO.out.below hb)); (try replace NF := Lib.hid (NF.out.below hb)); have hk64 := bits64 hn64 hkk; have hS := And.intro trivial (And.intro (cell_below hHeld.1 hb) (And.intro (cell_below hHeld.2.1 hb) (And.intro (cell_below hHeld.2.2.1 hb) (And.intro (cell_below hHeld.2.2.2.1 hb) (bel_on hHeld.2.2.2.2 hb))))); clear hb hHeld) | (go_at_call 24; (with_reducible refine (sign_any (.agg #[.bool b1, .slice ad1 l1 c1]) (-(n : Int)) 2 _ ?_ (by decide)).mono ?_); (exact HA.out); rintro e w' ⟨rfl, hb⟩; (try replace HA := Lib.hid (HA.out.below hb)); (try replace HB := Lib.hid (HB.out.below hb)); (try replace NA := Lib.hid (NA.out.below hb)); (try replace NO := Lib.hid (NO.out.below hb)); (try replace NF := Lib.hid (NF.out.below hb)); rw [eS]; have hS := And.intro trivial (And.intro (cell_below hHeld.1 hb) (And.intro (cell_below hHeld.2.1 hb) (And.intro (cell_below hHeld.2.2.1 hb) (And.intro (cell_below hHeld.2.2.2.1 hb) (bel_on hHeld.2.2.2.2 hb))))); clear hb hHeld) | (go_at_call 24; (with_reducible refine (sign_any (.agg #[.bool b2, .slice ad2 l2 c2]) (sg true n) 2 _ ?_ (by decide)).mono ?_); (exact HB.out); rintro e w' ⟨rfl, hb⟩; (try replace HA := Lib.hid (HA.out.below hb)); (try replace HB := Lib.hid (HB.out.below hb)); (try replace NA := Lib.hid (NA.out.below hb)); (try replace NO := Lib.hid (NO.out.below hb)); (try replace NF := Lib.hid (NF.out.below hb)); rw [eT]; have hS := And.intro trivial (And.intro (cell_below hHeld.1 hb) (And.intro (cell_below hHeld.2.1 hb) (And.intro (cell_below hHeld.2.2.1 hb) (And.intro (cell_below hHeld.2.2.2.1 hb) (bel_on hHeld.2.2.2.2 hb))))); clear hb hHeld) | (go_at_call 20; (with_reducible refine (ofB n _ hn64).mono ?_); rintro e w' ⟨vo, rfl, hn, hb⟩; (try replace HA := Lib.hid (HA.out.below hb)); (try replace HB := Lib.hid (HB.out.below hb)); (try replace NA := Lib.hid (NA.out.below hb)); (try replace NO := Lib.hid (NO.out.below hb)); (try replace NF := Lib.hid (NF.out.below hb)); have NO := Lib.hid hn; have hS := And.intro trivial (And.intro (cell_below hHeld.1 hb) (And.intro (cell_below hHeld.2.1 hb) (And.intro (cell_below hHeld.2.2.1 hb) (And.intro (cell_below hHeld.2.2.2.1 hb) (bel_on hHeld.2.2.2.2 hb))))); clear hb hHeld hn) | (go_at_call 19; (with_reducible refine (from_any true vo n 2 _ ?_ (by decide)).mono ?_); (exact NO.out); rintro e w' ⟨vf, rfl, hn, hb⟩; (try replace HA := Lib.hid (HA.out.below hb)); (try replace HB := Lib.hid (HB.out.below hb)); (try replace NA := Lib.hid (NA.out.below hb)); (try replace NO := Lib.hid (NO.out.below hb)); (try replace NF := Lib.hid (NF.out.below hb)); have NF := Lib.hid hn; have hS := And.intro trivial (And.intro (cell_below hHeld.1 hb) (And.intro (cell_below hHeld.2.1 hb) (And.intro (cell_below hHeld.2.2.1 hb) (And.intro (cell_below hHeld.2.2.2.1 hb) (bel_on hHeld.2.2.2.2 hb))))); clear hb hHeld hn) | (go_at_call 25; (with_reducible refine (icmp_any vf (.agg #[.bool b1, .slice ad1 l1 c1]) (sg true n) (-(n : Int)) 2 2 _ ?_ ?_ (by decide) (by decide)).mono ?_); (exact NF.out); (exact HA.out); rintro e w' ⟨rfl, hb⟩; (try replace HA := Lib.hid (HA.out.below hb)); (try replace HB := Lib.hid (HB.out.below hb)); (try replace NA := Lib.hid (NA.out.below hb)); (try replace NO := Lib.hid (NO.out.below hb)); (try replace NF := Lib.hid (NF.out.below hb)); rw [eC]; have hS := And.intro trivial (And.intro (cell_below hHeld.1 hb) (And.intro (cell_below hHeld.2.1 hb) (And.intro (cell_below hHeld.2.2.1 hb) (And.intro (cell_below hHeld.2.2.2.1 hb) (bel_on hHeld.2.2.2.2 hb))))); clear hb hHeld)); (refine hK.out _ _ ?_ (fun hHeld => ?_)); ((try dsimp only); ((try simp only [cell_drew, slot_drew, below_drew]); refine ⟨?_, ?_, ?_, ?_, ?_⟩; (first | exact hS.2.1 | with_reducible exact cell_set hHeld.1 (by omega) | with_reducible exact cell_set (cell_set hHeld.1 (by omega)) (by omega)); (first | exact hS.2.2.1 | with_reducible exact cell_set hHeld.2.1 (by omega) | with_reducible exact cell_set (cell_set hHeld.2.1 (by omega)) (by omega)); (first | exact hS.2.2.2.1 | with_reducible exact cell_set hHeld.2.2.1 (by omega) | with_reducible exact cell_set (cell_set hHeld.2.2.1 (by omega)) (by omega)); (first | exact hS.2.2.2.2.1 | with_reducible exact cell_set hHeld.2.2.2.1 (by omega) | with_reducible exact cell_set (cell_set hHeld.2.2.2.1 (by omega)) (by omega)); (first | exact hS.2.2.2.2.2 | with_reducible exact bel_set1 hHeld.2.2.2.2 (by omega) | with_reducible exact bel_set2 hHeld.2.2.2.2 (by omega) (by omega)))); clear hK K; (try clear hS); (try clear hfx0 hx0 x0); (try clear hfy0 hy0 y0); (try clear hfx1 hx1 x1); (try clear hfy1 hy1 y1); (try dsimp only at hHeld))))
      refine wpSched_nil ?_
      have HE := Lib.hid hHeld.2.2.2.2
      clear hHeld
      go_wp2_with fail
      go_ret
      exact ⟨rfl, HE.out⟩
  · obtain ⟨n, rfl⟩ := Int.eq_ofNat_of_zero_le (show 0 ≤ v by omega)
    have hd : decide ((n : Int) < 0) = false := decide_eq_false hv
    have hn64 : n < 18446744073709551616 := by omega
    have HNA := Lib.hid (show ((n : Int)).natAbs = n by omega)
    have HEC := Lib.hid (show cmpZ (sg false n) (n : Int) = 0 by unfold cmpZ sg; simp)
    clear hv
    by_cases hz : n = 0
    · subst hz
      have HNA := Lib.hid (show ((0 : Int)).natAbs = 0 from rfl)
      have HEC := Lib.hid (show cmpZ (sg false 0) 0 = 0 from rfl)
      have HES := Lib.hid (show sgnZ 0 = 0 from rfl)
      clear hd
      go_enter Tryd.func5, Tryd.ntmps5
      go_wp2_with fail
      refine (iof_any 0 _ (by decide) (by decide)).mono ?_
      rintro e w1 ⟨v1, rfl, hn1, hb1⟩
      obtain ⟨b1, ad1, l1, c1, rfl, hs1⟩ := hn1.shape2
      have HA := Lib.hid hn1
      have HB1 := Lib.hid (bel_on hb1 (bel_alloc w1 (Obj.cells #[Value.bool b1, Value.slice ad1 l1 c1] 26)))
      have hc0 := cell0 (heldN1 (w := w1) (c0 := #[Value.bool b1, Value.slice ad1 l1 c1]) (t0 := 26)).1
      have hc1 := cell1 (heldN1 (w := w1) (c0 := #[Value.bool b1, Value.slice ad1 l1 c1]) (t0 := 26)).1
      clear hn1 hb1 hs1
      cases below
      · have HET := Lib.hid (show sgnZ (sg false 0) = 0 by unfold sgnZ sg; simp)
        have HN1 := Lib.hid (HA.out.below (bel_alloc w1 (Obj.cells #[Value.bool b1, Value.slice ad1 l1 c1] 26)))
        go_wp2_with fail
        generalize w1.alloc (Obj.cells #[Value.bool b1, Value.slice ad1 l1 c1] 26) = X1 at *
        refine (ofB_zero _).mono ?_
        rintro e w2 ⟨v2, rfl, hn2, hb2⟩
        have HO := Lib.hid hn2
        have HB2 := Lib.hid hb2
        clear hn2 hb2
        go_wp2_with fail
        refine (from_any false v2 0 2 _ HO.out (by decide)).mono ?_
        rintro e w3 ⟨v3, rfl, hn3, hb3⟩
        obtain ⟨b2, ad2, l2, c2, rfl, hs3⟩ := hn3.shape2
        have hbY := bel_alloc w3 (Obj.cells #[Value.bool b2, Value.slice ad2 l2 c2] 26)
        have hd0 := cell0 (heldN1 (w := w3) (c0 := #[Value.bool b2, Value.slice ad2 l2 c2]) (t0 := 26)).1
        have hd1 := cell1 (heldN1 (w := w3) (c0 := #[Value.bool b2, Value.slice ad2 l2 c2]) (t0 := 26)).1
        have he0 := cell_below (cell_below (cell_below hc0 HB2.out) hb3) hbY
        have he1 := cell_below (cell_below (cell_below hc1 HB2.out) hb3) hbY
        have HAY := Lib.hid (((HN1.out.below HB2.out).below hb3).below hbY)
        have HBY := Lib.hid (hn3.below hbY)
        have HB3 := Lib.hid (bel_on (bel_on (bel_on HB1.out HB2.out) hb3) hbY)
        clear hn3 hb3 hbY hs3 hc0 hc1 HO HB2 HN1 HB1
        go_wp2_with fail
        generalize w3.alloc (Obj.cells #[Value.bool b2, Value.slice ad2 l2 c2] 26) = Y at *
        have HA := Lib.hid (HAY.out.below (Below.refl _ Y).drew)
        have HB := Lib.hid (HBY.out.below (Below.refl _ Y).drew)
        have eS : sgnZ 0 = 0 := HES.out
        have eT : sgnZ (sg false 0) = 0 := HET.out
        have eC : cmpZ (sg false 0) 0 = 0 := HEC.out
        clear HAY HBY
        refine wp_region_sched (fun w' => w'.cell? ⟨w1.heap.size, 0, none⟩ = some (.bool b1) ∧ w'.cell? ⟨w1.heap.size, 1, none⟩ = some (.slice ad1 l1 c1) ∧ w'.cell? ⟨w3.heap.size, 0, none⟩ = some (.bool b2) ∧ w'.cell? ⟨w3.heap.size, 1, none⟩ = some (.slice ad2 l2 c2) ∧ Below w.heap.size w w') [(0, false), (1, true), (2, true), (5, true), (3, false), (4, false), (6, true), (7, true), (8, true), (9, true), (10, false), (11, false), (12, true), (13, true), (14, true), (15, true), (17, true), (16, false), (18, true), (19, true), (20, true), (21, true), (23, true), (22, false), (24, true), (25, true), (26, true), (27, true), (28, true), (29, true), (32, true), (30, false), (31, false), (33, false), (34, true), (35, true), (36, true)] (by kernel_rfl) (by kernel_rfl) ?_ (fun hHeld => ?_)
        · (try dsimp only)
          exact ⟨he0, he1, hd0, hd1, HB3.out.drew⟩
        try dsimp only at hHeld
        repeat (refine wpSched_at (by simp only [List.getElem?_toArray, List.getElem?_cons_zero, List.getElem?_cons_succ]; rfl) ?_; (first | (apply wpAt_take rfl; (intro wx hSx; (try dsimp only at hSx); go_simp; (try with_reducible rfl)); simp only [Act.put, List.setIfInBounds_toArray, List.set_cons_zero, List.set_cons_succ]) | (refine wpAt_skip rfl ?_; simp only [Act.put, List.setIfInBounds_toArray, List.set_cons_zero, List.set_cons_succ]) | (refine wpAt_pass rfl hHeld ?_; simp only [Act.put, List.setIfInBounds_toArray, List.set_cons_zero, List.set_cons_succ]) | (refine wpAt_eff rfl (fun K hK => ?_); (skip); go_simp; (first | (go_at_call 10; (with_reducible refine (alive2_any _).mono ?_); rintro e w' ⟨rfl, hb⟩; (try replace HA := Lib.hid (HA.out.below hb)); (try replace HB := Lib.hid (HB.out.below hb)); (try replace NA := Lib.hid (NA.out.below hb)); (try replace NO := Lib.hid (NO.out.below hb)); (try replace NF := Lib.hid (NF.out.below hb)); have hS := And.intro trivial (And.intro (cell_below hHeld.1 hb) (And.intro (cell_below hHeld.2.1 hb) (And.intro (cell_below hHeld.2.2.1 hb) (And.intro (cell_below hHeld.2.2.2.1 hb) (bel_on hHeld.2.2.2.2 hb))))); clear hb hHeld) | (go_at_call 21; (with_reducible refine (abs_any (.agg #[.bool b1, .slice ad1 l1 c1]) 0 2 _ ?_ (by decide)).mono ?_); (exact HA.out); rintro e w' ⟨va, rfl, hn, hb⟩; (try replace HA := Lib.hid (HA.out.below hb)); (try replace HB := Lib.hid (HB.out.below hb)); (try replace NA := Lib.hid (NA.out.below hb)); (try replace NO := Lib.hid (NO.out.below hb)); (try replace NF := Lib.hid (NF.out.below hb)); have NA := Lib.hid hn; rw [HNA.out] at NA; have hS := And.intro trivial (And.intro (cell_below hHeld.1 hb) (And.intro (cell_below hHeld.2.1 hb) (And.intro (cell_below hHeld.2.2.1 hb) (And.intro (cell_below hHeld.2.2.2.1 hb) (bel_on hHeld.2.2.2.2 hb))))); clear hb hHeld hn) | (go_at_call 22; (with_reducible refine (lowB_zero va _ ?_).mono ?_); (exact NA.out); rintro e w' ⟨rfl, hb⟩; (try replace HA := Lib.hid (HA.out.below hb)); (try replace HB := Lib.hid (HB.out.below hb)); (try replace NA := Lib.hid (NA.out.below hb)); (try replace NO := Lib.hid (NO.out.below hb)); (try replace NF := Lib.hid (NF.out.below hb)); have hS := And.intro trivial (And.intro (cell_below hHeld.1 hb) (And.intro (cell_below hHeld.2.1 hb) (And.intro (cell_below hHeld.2.2.1 hb) (And.intro (cell_below hHeld.2.2.2.1 hb) (bel_on hHeld.2.2.2.2 hb))))); clear hb hHeld) | (go_at_call 23; (with_reducible refine (bits_any va 0 2 _ ?_ ?_ (by decide)).mono ?_); (exact NA.out.1); (exact NA.out.2); rintro e w' ⟨kk, rfl, hkk, hb⟩; (try replace HA := Lib.hid (HA.out.below hb)); (try replace HB := Lib.hid (HB.out.below hb)); (try replace NA := Lib.hid (NA.out.below hb)); (try replace NO := Lib.hid (NO.out.below hb)); (try replace NF := Lib.hid (NF.out.below hb)); have hk64 := bits64 (by decide) hkk; have hS := And.intro trivial (And.intro (cell_below hHeld.1 hb) (And.intro (cell_below hHeld.2.1 hb) (And.intro (cell_below hHeld.2.2.1 hb) (And.intro (cell_below hHeld.2.2.2.1 hb) (bel_on hHeld.2.2.2.2 hb))))); clear hb hHeld) | (go_at_call 24; (with_reducible refine (sign_any (.agg #[.bool b1, .slice ad1 l1 c1]) 0 2 _ ?_ (by decide)).mono ?_); (exact HA.out); rintro e w' ⟨rfl, hb⟩; (try replace HA := Lib.hid (HA.out.below hb)); (try replace HB := Lib.hid (HB.out.below hb)); (try replace NA := Lib.hid (NA.out.below hb)); (try replace NO := Lib.hid (NO.out.below hb)); (try replace NF := Lib.hid (NF.out.below hb)); rw [eS]; have hS := And.intro trivial (And.intro (cell_below hHeld.1 hb) (And.intro (cell_below hHeld.2.1 hb) (And.intro (cell_below hHeld.2.2.1 hb) (And.intro (cell_below hHeld.2.2.2.1 hb) (bel_on hHeld.2.2.2.2 hb))))); clear hb hHeld) | (go_at_call 24; (with_reducible refine (sign_any (.agg #[.bool b2, .slice ad2 l2 c2]) (sg false 0) 2 _ ?_ (by decide)).mono ?_); (exact HB.out); rintro e w' ⟨rfl, hb⟩; (try replace HA := Lib.hid (HA.out.below hb)); (try replace HB := Lib.hid (HB.out.below hb)); (try replace NA := Lib.hid (NA.out.below hb)); (try replace NO := Lib.hid (NO.out.below hb)); (try replace NF := Lib.hid (NF.out.below hb)); rw [eT]; have hS := And.intro trivial (And.intro (cell_below hHeld.1 hb) (And.intro (cell_below hHeld.2.1 hb) (And.intro (cell_below hHeld.2.2.1 hb) (And.intro (cell_below hHeld.2.2.2.1 hb) (bel_on hHeld.2.2.2.2 hb))))); clear hb hHeld) | (go_at_call 20; (with_reducible refine (ofB_zero _).mono ?_); rintro e w' ⟨vo, rfl, hn, hb⟩; (try replace HA := Lib.hid (HA.out.below hb)); (try replace HB := Lib.hid (HB.out.below hb)); (try replace NA := Lib.hid (NA.out.below hb)); (try replace NO := Lib.hid (NO.out.below hb)); (try replace NF := Lib.hid (NF.out.below hb)); have NO := Lib.hid hn; have hS := And.intro trivial (And.intro (cell_below hHeld.1 hb) (And.intro (cell_below hHeld.2.1 hb) (And.intro (cell_below hHeld.2.2.1 hb) (And.intro (cell_below hHeld.2.2.2.1 hb) (bel_on hHeld.2.2.2.2 hb))))); clear hb hHeld hn) | (go_at_call 19; (with_reducible refine (from_any false vo 0 2 _ ?_ (by decide)).mono ?_); (exact NO.out); rintro e w' ⟨vf, rfl, hn, hb⟩; (try replace HA := Lib.hid (HA.out.below hb)); (try replace HB := Lib.hid (HB.out.below hb)); (try replace NA := Lib.hid (NA.out.below hb)); (try replace NO := Lib.hid (NO.out.below hb)); (try replace NF := Lib.hid (NF.out.below hb)); have NF := Lib.hid hn; have hS := And.intro trivial (And.intro (cell_below hHeld.1 hb) (And.intro (cell_below hHeld.2.1 hb) (And.intro (cell_below hHeld.2.2.1 hb) (And.intro (cell_below hHeld.2.2.2.1 hb) (bel_on hHeld.2.2.2.2 hb))))); clear hb hHeld hn) | (go_at_call 25; (with_reducible refine (icmp_any vf (.agg #[.bool b1, .slice ad1 l1 c1]) (sg false 0) 0 2 2 _ ?_ ?_ (by decide) (by decide)).mono ?_); (exact NF.out); (exact HA.out); rintro e w' ⟨rfl, hb⟩; (try replace HA := Lib.hid (HA.out.below hb)); (try replace HB := Lib.hid (HB.out.below hb)); (try replace NA := Lib.hid (NA.out.below hb)); (try replace NO := Lib.hid (NO.out.below hb)); (try replace NF := Lib.hid (NF.out.below hb)); rw [eC]; have hS := And.intro trivial (And.intro (cell_below hHeld.1 hb) (And.intro (cell_below hHeld.2.1 hb) (And.intro (cell_below hHeld.2.2.1 hb) (And.intro (cell_below hHeld.2.2.2.1 hb) (bel_on hHeld.2.2.2.2 hb))))); clear hb hHeld)); (refine hK.out _ _ ?_ (fun hHeld => ?_)); ((try dsimp only); ((try simp only [cell_drew, slot_drew, below_drew]); refine ⟨?_, ?_, ?_, ?_, ?_⟩; (first | exact hS.2.1 | with_reducible exact cell_set hHeld.1 (by omega) | with_reducible exact cell_set (cell_set hHeld.1 (by omega)) (by omega)); (first | exact hS.2.2.1 | with_reducible exact cell_set hHeld.2.1 (by omega) | with_reducible exact cell_set (cell_set hHeld.2.1 (by omega)) (by omega)); (first | exact hS.2.2.2.1 | with_reducible exact cell_set hHeld.2.2.1 (by omega) | with_reducible exact cell_set (cell_set hHeld.2.2.1 (by omega)) (by omega)); (first | exact hS.2.2.2.2.1 | with_reducible exact cell_set hHeld.2.2.2.1 (by omega) | with_reducible exact cell_set (cell_set hHeld.2.2.2.1 (by omega)) (by omega)); (first | exact hS.2.2.2.2.2 | with_reducible exact bel_set1 hHeld.2.2.2.2 (by omega) | with_reducible exact bel_set2 hHeld.2.2.2.2 (by omega) (by omega)))); clear hK K; (try clear hS); (try clear hfx0 hx0 x0); (try clear hfy0 hy0 y0); (try clear hfx1 hx1 x1); (try clear hfy1 hy1 y1); (try dsimp only at hHeld))))
        refine wpSched_nil ?_
        have HE := Lib.hid hHeld.2.2.2.2
        clear hHeld
        go_wp2_with fail
        go_ret
        exact ⟨rfl, HE.out⟩
      · have HET := Lib.hid (show sgnZ (sg true 0) = 0 by unfold sgnZ sg; simp)
        have HN1 := Lib.hid (HA.out.below (bel_alloc w1 (Obj.cells #[Value.bool b1, Value.slice ad1 l1 c1] 26)))
        go_wp2_with fail
        generalize w1.alloc (Obj.cells #[Value.bool b1, Value.slice ad1 l1 c1] 26) = X1 at *
        refine (ofB_zero _).mono ?_
        rintro e w2 ⟨v2, rfl, hn2, hb2⟩
        have HO := Lib.hid hn2
        have HB2 := Lib.hid hb2
        clear hn2 hb2
        go_wp2_with fail
        refine (from_any true v2 0 2 _ HO.out (by decide)).mono ?_
        rintro e w3 ⟨v3, rfl, hn3, hb3⟩
        obtain ⟨b2, ad2, l2, c2, rfl, hs3⟩ := hn3.shape2
        have hbY := bel_alloc w3 (Obj.cells #[Value.bool b2, Value.slice ad2 l2 c2] 26)
        have hd0 := cell0 (heldN1 (w := w3) (c0 := #[Value.bool b2, Value.slice ad2 l2 c2]) (t0 := 26)).1
        have hd1 := cell1 (heldN1 (w := w3) (c0 := #[Value.bool b2, Value.slice ad2 l2 c2]) (t0 := 26)).1
        have he0 := cell_below (cell_below (cell_below hc0 HB2.out) hb3) hbY
        have he1 := cell_below (cell_below (cell_below hc1 HB2.out) hb3) hbY
        have HAY := Lib.hid (((HN1.out.below HB2.out).below hb3).below hbY)
        have HBY := Lib.hid (hn3.below hbY)
        have HB3 := Lib.hid (bel_on (bel_on (bel_on HB1.out HB2.out) hb3) hbY)
        clear hn3 hb3 hbY hs3 hc0 hc1 HO HB2 HN1 HB1
        go_wp2_with fail
        generalize w3.alloc (Obj.cells #[Value.bool b2, Value.slice ad2 l2 c2] 26) = Y at *
        have HA := Lib.hid (HAY.out.below (Below.refl _ Y).drew)
        have HB := Lib.hid (HBY.out.below (Below.refl _ Y).drew)
        have eS : sgnZ 0 = 0 := HES.out
        have eT : sgnZ (sg true 0) = 0 := HET.out
        have eC : cmpZ (sg false 0) 0 = 0 := HEC.out
        clear HAY HBY
        refine wp_region_sched (fun w' => w'.cell? ⟨w1.heap.size, 0, none⟩ = some (.bool b1) ∧ w'.cell? ⟨w1.heap.size, 1, none⟩ = some (.slice ad1 l1 c1) ∧ w'.cell? ⟨w3.heap.size, 0, none⟩ = some (.bool b2) ∧ w'.cell? ⟨w3.heap.size, 1, none⟩ = some (.slice ad2 l2 c2) ∧ Below w.heap.size w w') [(0, false), (1, true), (2, true), (5, true), (3, false), (4, false), (6, true), (7, true), (8, true), (9, true), (10, false), (11, false), (12, true), (13, true), (14, true), (15, true), (17, true), (16, false), (18, true), (19, true), (20, true), (21, true), (23, true), (22, false), (24, true), (25, true), (26, true), (27, true), (28, true), (29, true), (32, true), (30, false), (31, false), (33, false), (34, true), (35, true), (36, true)] (by kernel_rfl) (by kernel_rfl) ?_ (fun hHeld => ?_)
        · (try dsimp only)
          exact ⟨he0, he1, hd0, hd1, HB3.out.drew⟩
        try dsimp only at hHeld
        repeat (refine wpSched_at (by simp only [List.getElem?_toArray, List.getElem?_cons_zero, List.getElem?_cons_succ]; rfl) ?_; (first | (apply wpAt_take rfl; (intro wx hSx; (try dsimp only at hSx); go_simp; (try with_reducible rfl)); simp only [Act.put, List.setIfInBounds_toArray, List.set_cons_zero, List.set_cons_succ]) | (refine wpAt_skip rfl ?_; simp only [Act.put, List.setIfInBounds_toArray, List.set_cons_zero, List.set_cons_succ]) | (refine wpAt_pass rfl hHeld ?_; simp only [Act.put, List.setIfInBounds_toArray, List.set_cons_zero, List.set_cons_succ]) | (refine wpAt_eff rfl (fun K hK => ?_); (skip); go_simp; (first | (go_at_call 10; (with_reducible refine (alive2_any _).mono ?_); rintro e w' ⟨rfl, hb⟩; (try replace HA := Lib.hid (HA.out.below hb)); (try replace HB := Lib.hid (HB.out.below hb)); (try replace NA := Lib.hid (NA.out.below hb)); (try replace NO := Lib.hid (NO.out.below hb)); (try replace NF := Lib.hid (NF.out.below hb)); have hS := And.intro trivial (And.intro (cell_below hHeld.1 hb) (And.intro (cell_below hHeld.2.1 hb) (And.intro (cell_below hHeld.2.2.1 hb) (And.intro (cell_below hHeld.2.2.2.1 hb) (bel_on hHeld.2.2.2.2 hb))))); clear hb hHeld) | (go_at_call 21; (with_reducible refine (abs_any (.agg #[.bool b1, .slice ad1 l1 c1]) 0 2 _ ?_ (by decide)).mono ?_); (exact HA.out); rintro e w' ⟨va, rfl, hn, hb⟩; (try replace HA := Lib.hid (HA.out.below hb)); (try replace HB := Lib.hid (HB.out.below hb)); (try replace NA := Lib.hid (NA.out.below hb)); (try replace NO := Lib.hid (NO.out.below hb)); (try replace NF := Lib.hid (NF.out.below hb)); have NA := Lib.hid hn; rw [HNA.out] at NA; have hS := And.intro trivial (And.intro (cell_below hHeld.1 hb) (And.intro (cell_below hHeld.2.1 hb) (And.intro (cell_below hHeld.2.2.1 hb) (And.intro (cell_below hHeld.2.2.2.1 hb) (bel_on hHeld.2.2.2.2 hb))))); clear hb hHeld hn) | (go_at_call 22; (with_reducible refine (lowB_zero va _ ?_).mono ?_); (exact NA.out); rintro e w' ⟨rfl, hb⟩; (try replace HA := Lib.hid (HA.out.below hb)); (try replace HB := Lib.hid (HB.out.below hb)); (try replace NA := Lib.hid (NA.out.below hb)); (try replace NO := Lib.hid (NO.out.below hb)); (try replace NF := Lib.hid (NF.out.below hb)); have hS := And.intro trivial (And.intro (cell_below hHeld.1 hb) (And.intro (cell_below hHeld.2.1 hb) (And.intro (cell_below hHeld.2.2.1 hb) (And.intro (cell_below hHeld.2.2.2.1 hb) (bel_on hHeld.2.2.2.2 hb))))); clear hb hHeld) | (go_at_call 23; (with_reducible refine (bits_any va 0 2 _ ?_ ?_ (by decide)).mono ?_); (exact NA.out.1); (exact NA.out.2); rintro e w' ⟨kk, rfl, hkk, hb⟩; (try replace HA := Lib.hid (HA.out.below hb)); (try replace HB := Lib.hid (HB.out.below hb)); (try replace NA := Lib.hid (NA.out.below hb)); (try replace NO := Lib.hid (NO.out.below hb)); (try replace NF := Lib.hid (NF.out.below hb)); have hk64 := bits64 (by decide) hkk; have hS := And.intro trivial (And.intro (cell_below hHeld.1 hb) (And.intro (cell_below hHeld.2.1 hb) (And.intro (cell_below hHeld.2.2.1 hb) (And.intro (cell_below hHeld.2.2.2.1 hb) (bel_on hHeld.2.2.2.2 hb))))); clear hb hHeld) | (go_at_call 24; (with_reducible refine (sign_any (.agg #[.bool b1, .slice ad1 l1 c1]) 0 2 _ ?_ (by decide)).mono ?_); (exact HA.out); rintro e w' ⟨rfl, hb⟩; (try replace HA := Lib.hid (HA.out.below hb)); (try replace HB := Lib.hid (HB.out.below hb)); (try replace NA := Lib.hid (NA.out.below hb)); (try replace NO := Lib.hid (NO.out.below hb)); (try replace NF := Lib.hid (NF.out.below hb)); rw [eS]; have hS := And.intro trivial (And.intro (cell_below hHeld.1 hb) (And.intro (cell_below hHeld.2.1 hb) (And.intro (cell_below hHeld.2.2.1 hb) (And.intro (cell_below hHeld.2.2.2.1 hb) (bel_on hHeld.2.2.2.2 hb))))); clear hb hHeld) | (go_at_call 24; (with_reducible refine (sign_any (.agg #[.bool b2, .slice ad2 l2 c2]) (sg true 0) 2 _ ?_ (by decide)).mono ?_); (exact HB.out); rintro e w' ⟨rfl, hb⟩; (try replace HA := Lib.hid (HA.out.below hb)); (try replace HB := Lib.hid (HB.out.below hb)); (try replace NA := Lib.hid (NA.out.below hb)); (try replace NO := Lib.hid (NO.out.below hb)); (try replace NF := Lib.hid (NF.out.below hb)); rw [eT]; have hS := And.intro trivial (And.intro (cell_below hHeld.1 hb) (And.intro (cell_below hHeld.2.1 hb) (And.intro (cell_below hHeld.2.2.1 hb) (And.intro (cell_below hHeld.2.2.2.1 hb) (bel_on hHeld.2.2.2.2 hb))))); clear hb hHeld) | (go_at_call 20; (with_reducible refine (ofB_zero _).mono ?_); rintro e w' ⟨vo, rfl, hn, hb⟩; (try replace HA := Lib.hid (HA.out.below hb)); (try replace HB := Lib.hid (HB.out.below hb)); (try replace NA := Lib.hid (NA.out.below hb)); (try replace NO := Lib.hid (NO.out.below hb)); (try replace NF := Lib.hid (NF.out.below hb)); have NO := Lib.hid hn; have hS := And.intro trivial (And.intro (cell_below hHeld.1 hb) (And.intro (cell_below hHeld.2.1 hb) (And.intro (cell_below hHeld.2.2.1 hb) (And.intro (cell_below hHeld.2.2.2.1 hb) (bel_on hHeld.2.2.2.2 hb))))); clear hb hHeld hn) | (go_at_call 19; (with_reducible refine (from_any false vo 0 2 _ ?_ (by decide)).mono ?_); (exact NO.out); rintro e w' ⟨vf, rfl, hn, hb⟩; (try replace HA := Lib.hid (HA.out.below hb)); (try replace HB := Lib.hid (HB.out.below hb)); (try replace NA := Lib.hid (NA.out.below hb)); (try replace NO := Lib.hid (NO.out.below hb)); (try replace NF := Lib.hid (NF.out.below hb)); have NF := Lib.hid hn; have hS := And.intro trivial (And.intro (cell_below hHeld.1 hb) (And.intro (cell_below hHeld.2.1 hb) (And.intro (cell_below hHeld.2.2.1 hb) (And.intro (cell_below hHeld.2.2.2.1 hb) (bel_on hHeld.2.2.2.2 hb))))); clear hb hHeld hn) | (go_at_call 25; (with_reducible refine (icmp_any vf (.agg #[.bool b1, .slice ad1 l1 c1]) (sg false 0) 0 2 2 _ ?_ ?_ (by decide) (by decide)).mono ?_); (exact NF.out); (exact HA.out); rintro e w' ⟨rfl, hb⟩; (try replace HA := Lib.hid (HA.out.below hb)); (try replace HB := Lib.hid (HB.out.below hb)); (try replace NA := Lib.hid (NA.out.below hb)); (try replace NO := Lib.hid (NO.out.below hb)); (try replace NF := Lib.hid (NF.out.below hb)); rw [eC]; have hS := And.intro trivial (And.intro (cell_below hHeld.1 hb) (And.intro (cell_below hHeld.2.1 hb) (And.intro (cell_below hHeld.2.2.1 hb) (And.intro (cell_below hHeld.2.2.2.1 hb) (bel_on hHeld.2.2.2.2 hb))))); clear hb hHeld)); (refine hK.out _ _ ?_ (fun hHeld => ?_)); ((try dsimp only); ((try simp only [cell_drew, slot_drew, below_drew]); refine ⟨?_, ?_, ?_, ?_, ?_⟩; (first | exact hS.2.1 | with_reducible exact cell_set hHeld.1 (by omega) | with_reducible exact cell_set (cell_set hHeld.1 (by omega)) (by omega)); (first | exact hS.2.2.1 | with_reducible exact cell_set hHeld.2.1 (by omega) | with_reducible exact cell_set (cell_set hHeld.2.1 (by omega)) (by omega)); (first | exact hS.2.2.2.1 | with_reducible exact cell_set hHeld.2.2.1 (by omega) | with_reducible exact cell_set (cell_set hHeld.2.2.1 (by omega)) (by omega)); (first | exact hS.2.2.2.2.1 | with_reducible exact cell_set hHeld.2.2.2.1 (by omega) | with_reducible exact cell_set (cell_set hHeld.2.2.2.1 (by omega)) (by omega)); (first | exact hS.2.2.2.2.2 | with_reducible exact bel_set1 hHeld.2.2.2.2 (by omega) | with_reducible exact bel_set2 hHeld.2.2.2.2 (by omega) (by omega)))); clear hK K; (try clear hS); (try clear hfx0 hx0 x0); (try clear hfy0 hy0 y0); (try clear hfx1 hx1 x1); (try clear hfy1 hy1 y1); (try dsimp only at hHeld))))
        refine wpSched_nil ?_
        have HE := Lib.hid hHeld.2.2.2.2
        clear hHeld
        go_wp2_with fail
        go_ret
        exact ⟨rfl, HE.out⟩
    · have hn0 : 0 < n := by omega
      have HES := Lib.hid (show sgnZ (n : Int) = 1 by unfold sgnZ; rw [if_neg (by omega), if_pos (by omega)])
      have hd3 : decide ((0 : Int) < (n : Int)) = true := by rw [decide_eq_true_iff]; omega
      clear hz
      go_enter Tryd.func5, Tryd.ntmps5
      go_wp2_with fail
      refine (iof_any (n : Int) _ h0 h1).mono ?_
      rintro e w1 ⟨v1, rfl, hn1, hb1⟩
      obtain ⟨b1, ad1, l1, c1, rfl, hs1⟩ := hn1.shape2
      have HA := Lib.hid hn1
      have HB1 := Lib.hid (bel_on hb1 (bel_alloc w1 (Obj.cells #[Value.bool b1, Value.slice ad1 l1 c1] 26)))
      have hc0 := cell0 (heldN1 (w := w1) (c0 := #[Value.bool b1, Value.slice ad1 l1 c1]) (t0 := 26)).1
      have hc1 := cell1 (heldN1 (w := w1) (c0 := #[Value.bool b1, Value.slice ad1 l1 c1]) (t0 := 26)).1
      clear hn1 hb1 hs1
      cases below
      · have HET := Lib.hid (show sgnZ (sg false n) = 1 by unfold sgnZ sg; simp; omega)
        have HN1 := Lib.hid (HA.out.below (bel_alloc w1 (Obj.cells #[Value.bool b1, Value.slice ad1 l1 c1] 26)))
        go_wp2_with fail
        generalize w1.alloc (Obj.cells #[Value.bool b1, Value.slice ad1 l1 c1] 26) = X1 at *
        refine (ofB n _ hn64).mono ?_
        rintro e w2 ⟨v2, rfl, hn2, hb2⟩
        have HO := Lib.hid hn2
        have HB2 := Lib.hid hb2
        clear hn2 hb2
        go_wp2_with fail
        refine (from_any false v2 n 2 _ HO.out (by decide)).mono ?_
        rintro e w3 ⟨v3, rfl, hn3, hb3⟩
        obtain ⟨b2, ad2, l2, c2, rfl, hs3⟩ := hn3.shape2
        have hbY := bel_alloc w3 (Obj.cells #[Value.bool b2, Value.slice ad2 l2 c2] 26)
        have hd0 := cell0 (heldN1 (w := w3) (c0 := #[Value.bool b2, Value.slice ad2 l2 c2]) (t0 := 26)).1
        have hd1 := cell1 (heldN1 (w := w3) (c0 := #[Value.bool b2, Value.slice ad2 l2 c2]) (t0 := 26)).1
        have he0 := cell_below (cell_below (cell_below hc0 HB2.out) hb3) hbY
        have he1 := cell_below (cell_below (cell_below hc1 HB2.out) hb3) hbY
        have HAY := Lib.hid (((HN1.out.below HB2.out).below hb3).below hbY)
        have HBY := Lib.hid (hn3.below hbY)
        have HB3 := Lib.hid (bel_on (bel_on (bel_on HB1.out HB2.out) hb3) hbY)
        clear hn3 hb3 hbY hs3 hc0 hc1 HO HB2 HN1 HB1
        go_wp2_with fail
        generalize w3.alloc (Obj.cells #[Value.bool b2, Value.slice ad2 l2 c2] 26) = Y at *
        have HA := Lib.hid (HAY.out.below (Below.refl _ Y).drew)
        have HB := Lib.hid (HBY.out.below (Below.refl _ Y).drew)
        have eS : sgnZ (n : Int) = 1 := HES.out
        have eT : sgnZ (sg false n) = 1 := HET.out
        have eC : cmpZ (sg false n) (n : Int) = 0 := HEC.out
        clear HAY HBY
        refine wp_region_sched (fun w' => w'.cell? ⟨w1.heap.size, 0, none⟩ = some (.bool b1) ∧ w'.cell? ⟨w1.heap.size, 1, none⟩ = some (.slice ad1 l1 c1) ∧ w'.cell? ⟨w3.heap.size, 0, none⟩ = some (.bool b2) ∧ w'.cell? ⟨w3.heap.size, 1, none⟩ = some (.slice ad2 l2 c2) ∧ Below w.heap.size w w') [(0, false), (1, true), (2, true), (5, true), (3, false), (4, false), (6, true), (7, true), (8, true), (9, true), (10, false), (11, false), (12, true), (13, true), (14, true), (15, true), (17, true), (16, false), (18, true), (19, true), (20, true), (21, true), (23, true), (22, false), (24, true), (25, true), (26, true), (27, true), (28, true), (29, true), (32, true), (30, false), (31, false), (33, false), (34, true), (35, true), (36, true)] (by kernel_rfl) (by kernel_rfl) ?_ (fun hHeld => ?_)
        · (try dsimp only)
          exact ⟨he0, he1, hd0, hd1, HB3.out.drew⟩
        try dsimp only at hHeld
        repeat (refine wpSched_at (by simp only [List.getElem?_toArray, List.getElem?_cons_zero, List.getElem?_cons_succ]; rfl) ?_; (first | (apply wpAt_take rfl; (intro wx hSx; (try dsimp only at hSx); go_simp; (try with_reducible rfl)); simp only [Act.put, List.setIfInBounds_toArray, List.set_cons_zero, List.set_cons_succ]) | (refine wpAt_skip rfl ?_; simp only [Act.put, List.setIfInBounds_toArray, List.set_cons_zero, List.set_cons_succ]) | (refine wpAt_pass rfl hHeld ?_; simp only [Act.put, List.setIfInBounds_toArray, List.set_cons_zero, List.set_cons_succ]) | (refine wpAt_eff rfl (fun K hK => ?_); (skip); go_simp; (first | (go_at_call 10; (with_reducible refine (alive2_any _).mono ?_); rintro e w' ⟨rfl, hb⟩; (try replace HA := Lib.hid (HA.out.below hb)); (try replace HB := Lib.hid (HB.out.below hb)); (try replace NA := Lib.hid (NA.out.below hb)); (try replace NO := Lib.hid (NO.out.below hb)); (try replace NF := Lib.hid (NF.out.below hb)); have hS := And.intro trivial (And.intro (cell_below hHeld.1 hb) (And.intro (cell_below hHeld.2.1 hb) (And.intro (cell_below hHeld.2.2.1 hb) (And.intro (cell_below hHeld.2.2.2.1 hb) (bel_on hHeld.2.2.2.2 hb))))); clear hb hHeld) | (go_at_call 21; (with_reducible refine (abs_any (.agg #[.bool b1, .slice ad1 l1 c1]) (n : Int) 2 _ ?_ (by decide)).mono ?_); (exact HA.out); rintro e w' ⟨va, rfl, hn, hb⟩; (try replace HA := Lib.hid (HA.out.below hb)); (try replace HB := Lib.hid (HB.out.below hb)); (try replace NA := Lib.hid (NA.out.below hb)); (try replace NO := Lib.hid (NO.out.below hb)); (try replace NF := Lib.hid (NF.out.below hb)); have NA := Lib.hid hn; rw [HNA.out] at NA; have hS := And.intro trivial (And.intro (cell_below hHeld.1 hb) (And.intro (cell_below hHeld.2.1 hb) (And.intro (cell_below hHeld.2.2.1 hb) (And.intro (cell_below hHeld.2.2.2.1 hb) (bel_on hHeld.2.2.2.2 hb))))); clear hb hHeld hn) | (go_at_call 22; (with_reducible refine (lowB va n _ ?_).mono ?_); (exact NA.out); rintro e w' ⟨rfl, hb⟩; (try replace HA := Lib.hid (HA.out.below hb)); (try replace HB := Lib.hid (HB.out.below hb)); (try replace NA := Lib.hid (NA.out.below hb)); (try replace NO := Lib.hid (NO.out.below hb)); (try replace NF := Lib.hid (NF.out.below hb)); have hS := And.intro trivial (And.intro (cell_below hHeld.1 hb) (And.intro (cell_below hHeld.2.1 hb) (And.intro (cell_below hHeld.2.2.1 hb) (And.intro (cell_below hHeld.2.2.2.1 hb) (bel_on hHeld.2.2.2.2 hb))))); clear hb hHeld) | (go_at_call 23; (with_reducible refine (bits_any va n 2 _ ?_ ?_ (by decide)).mono ?_); (exact NA.out.1); (exact NA.out.2); rintro e w' ⟨kk, rfl, hkk, hb⟩; (try replace HA := Lib.hid (HA.out.below hb)); (try replace HB := Lib.hid (HB.out.below hb)); (try replace NA := Lib.hid (NA.out.below hb)); (try replace NO := Lib.hid (NO.out.below hb)); (try replace NF := Lib.hid (NF.out.below hb)); have hk64 := bits64 hn64 hkk; have hS := And.intro trivial (And.intro (cell_below hHeld.1 hb) (And.intro (cell_below hHeld.2.1 hb) (And.intro (cell_below hHeld.2.2.1 hb) (And.intro (cell_below hHeld.2.2.2.1 hb) (bel_on hHeld.2.2.2.2 hb))))); clear hb hHeld) | (go_at_call 24; (with_reducible refine (sign_any (.agg #[.bool b1, .slice ad1 l1 c1]) (n : Int) 2 _ ?_ (by decide)).mono ?_); (exact HA.out); rintro e w' ⟨rfl, hb⟩; (try replace HA := Lib.hid (HA.out.below hb)); (try replace HB := Lib.hid (HB.out.below hb)); (try replace NA := Lib.hid (NA.out.below hb)); (try replace NO := Lib.hid (NO.out.below hb)); (try replace NF := Lib.hid (NF.out.below hb)); rw [eS]; have hS := And.intro trivial (And.intro (cell_below hHeld.1 hb) (And.intro (cell_below hHeld.2.1 hb) (And.intro (cell_below hHeld.2.2.1 hb) (And.intro (cell_below hHeld.2.2.2.1 hb) (bel_on hHeld.2.2.2.2 hb))))); clear hb hHeld) | (go_at_call 24; (with_reducible refine (sign_any (.agg #[.bool b2, .slice ad2 l2 c2]) (sg false n) 2 _ ?_ (by decide)).mono ?_); (exact HB.out); rintro e w' ⟨rfl, hb⟩; (try replace HA := Lib.hid (HA.out.below hb)); (try replace HB := Lib.hid (HB.out.below hb)); (try replace NA := Lib.hid (NA.out.below hb)); (try replace NO := Lib.hid (NO.out.below hb)); (try replace NF := Lib.hid (NF.out.below hb)); rw [eT]; have hS := And.intro trivial (And.intro (cell_below hHeld.1 hb) (And.intro (cell_below hHeld.2.1 hb) (And.intro (cell_below hHeld.2.2.1 hb) (And.intro (cell_below hHeld.2.2.2.1 hb) (bel_on hHeld.2.2.2.2 hb))))); clear hb hHeld) | (go_at_call 20; (with_reducible refine (ofB n _ hn64).mono ?_); rintro e w' ⟨vo, rfl, hn, hb⟩; (try replace HA := Lib.hid (HA.out.below hb)); (try replace HB := Lib.hid (HB.out.below hb)); (try replace NA := Lib.hid (NA.out.below hb)); (try replace NO := Lib.hid (NO.out.below hb)); (try replace NF := Lib.hid (NF.out.below hb)); have NO := Lib.hid hn; have hS := And.intro trivial (And.intro (cell_below hHeld.1 hb) (And.intro (cell_below hHeld.2.1 hb) (And.intro (cell_below hHeld.2.2.1 hb) (And.intro (cell_below hHeld.2.2.2.1 hb) (bel_on hHeld.2.2.2.2 hb))))); clear hb hHeld hn) | (go_at_call 19; (with_reducible refine (from_any false vo n 2 _ ?_ (by decide)).mono ?_); (exact NO.out); rintro e w' ⟨vf, rfl, hn, hb⟩; (try replace HA := Lib.hid (HA.out.below hb)); (try replace HB := Lib.hid (HB.out.below hb)); (try replace NA := Lib.hid (NA.out.below hb)); (try replace NO := Lib.hid (NO.out.below hb)); (try replace NF := Lib.hid (NF.out.below hb)); have NF := Lib.hid hn; have hS := And.intro trivial (And.intro (cell_below hHeld.1 hb) (And.intro (cell_below hHeld.2.1 hb) (And.intro (cell_below hHeld.2.2.1 hb) (And.intro (cell_below hHeld.2.2.2.1 hb) (bel_on hHeld.2.2.2.2 hb))))); clear hb hHeld hn) | (go_at_call 25; (with_reducible refine (icmp_any vf (.agg #[.bool b1, .slice ad1 l1 c1]) (sg false n) (n : Int) 2 2 _ ?_ ?_ (by decide) (by decide)).mono ?_); (exact NF.out); (exact HA.out); rintro e w' ⟨rfl, hb⟩; (try replace HA := Lib.hid (HA.out.below hb)); (try replace HB := Lib.hid (HB.out.below hb)); (try replace NA := Lib.hid (NA.out.below hb)); (try replace NO := Lib.hid (NO.out.below hb)); (try replace NF := Lib.hid (NF.out.below hb)); rw [eC]; have hS := And.intro trivial (And.intro (cell_below hHeld.1 hb) (And.intro (cell_below hHeld.2.1 hb) (And.intro (cell_below hHeld.2.2.1 hb) (And.intro (cell_below hHeld.2.2.2.1 hb) (bel_on hHeld.2.2.2.2 hb))))); clear hb hHeld)); (refine hK.out _ _ ?_ (fun hHeld => ?_)); ((try dsimp only); ((try simp only [cell_drew, slot_drew, below_drew]); refine ⟨?_, ?_, ?_, ?_, ?_⟩; (first | exact hS.2.1 | with_reducible exact cell_set hHeld.1 (by omega) | with_reducible exact cell_set (cell_set hHeld.1 (by omega)) (by omega)); (first | exact hS.2.2.1 | with_reducible exact cell_set hHeld.2.1 (by omega) | with_reducible exact cell_set (cell_set hHeld.2.1 (by omega)) (by omega)); (first | exact hS.2.2.2.1 | with_reducible exact cell_set hHeld.2.2.1 (by omega) | with_reducible exact cell_set (cell_set hHeld.2.2.1 (by omega)) (by omega)); (first | exact hS.2.2.2.2.1 | with_reducible exact cell_set hHeld.2.2.2.1 (by omega) | with_reducible exact cell_set (cell_set hHeld.2.2.2.1 (by omega)) (by omega)); (first | exact hS.2.2.2.2.2 | with_reducible exact bel_set1 hHeld.2.2.2.2 (by omega) | with_reducible exact bel_set2 hHeld.2.2.2.2 (by omega) (by omega)))); clear hK K; (try clear hS); (try clear hfx0 hx0 x0); (try clear hfy0 hy0 y0); (try clear hfx1 hx1 x1); (try clear hfy1 hy1 y1); (try dsimp only at hHeld))))
        refine wpSched_nil ?_
        have HE := Lib.hid hHeld.2.2.2.2
        clear hHeld
        go_wp2_with fail
        go_ret
        exact ⟨rfl, HE.out⟩
      · have HET := Lib.hid (show sgnZ (sg true n) = (-1) by unfold sgnZ sg; simp; omega)
        have HN1 := Lib.hid (HA.out.below (bel_alloc w1 (Obj.cells #[Value.bool b1, Value.slice ad1 l1 c1] 26)))
        go_wp2_with fail
        generalize w1.alloc (Obj.cells #[Value.bool b1, Value.slice ad1 l1 c1] 26) = X1 at *
        refine (ofB n _ hn64).mono ?_
        rintro e w2 ⟨v2, rfl, hn2, hb2⟩
        have HO := Lib.hid hn2
        have HB2 := Lib.hid hb2
        clear hn2 hb2
        go_wp2_with fail
        refine (from_any true v2 n 2 _ HO.out (by decide)).mono ?_
        rintro e w3 ⟨v3, rfl, hn3, hb3⟩
        obtain ⟨b2, ad2, l2, c2, rfl, hs3⟩ := hn3.shape2
        have hbY := bel_alloc w3 (Obj.cells #[Value.bool b2, Value.slice ad2 l2 c2] 26)
        have hd0 := cell0 (heldN1 (w := w3) (c0 := #[Value.bool b2, Value.slice ad2 l2 c2]) (t0 := 26)).1
        have hd1 := cell1 (heldN1 (w := w3) (c0 := #[Value.bool b2, Value.slice ad2 l2 c2]) (t0 := 26)).1
        have he0 := cell_below (cell_below (cell_below hc0 HB2.out) hb3) hbY
        have he1 := cell_below (cell_below (cell_below hc1 HB2.out) hb3) hbY
        have HAY := Lib.hid (((HN1.out.below HB2.out).below hb3).below hbY)
        have HBY := Lib.hid (hn3.below hbY)
        have HB3 := Lib.hid (bel_on (bel_on (bel_on HB1.out HB2.out) hb3) hbY)
        clear hn3 hb3 hbY hs3 hc0 hc1 HO HB2 HN1 HB1
        go_wp2_with fail
        generalize w3.alloc (Obj.cells #[Value.bool b2, Value.slice ad2 l2 c2] 26) = Y at *
        have HA := Lib.hid (HAY.out.below (Below.refl _ Y).drew)
        have HB := Lib.hid (HBY.out.below (Below.refl _ Y).drew)
        have eS : sgnZ (n : Int) = 1 := HES.out
        have eT : sgnZ (sg true n) = (-1) := HET.out
        have eC : cmpZ (sg false n) (n : Int) = 0 := HEC.out
        clear HAY HBY
        refine wp_region_sched (fun w' => w'.cell? ⟨w1.heap.size, 0, none⟩ = some (.bool b1) ∧ w'.cell? ⟨w1.heap.size, 1, none⟩ = some (.slice ad1 l1 c1) ∧ w'.cell? ⟨w3.heap.size, 0, none⟩ = some (.bool b2) ∧ w'.cell? ⟨w3.heap.size, 1, none⟩ = some (.slice ad2 l2 c2) ∧ Below w.heap.size w w') [(0, false), (1, true), (2, true), (5, true), (3, false), (4, false), (6, true), (7, true), (8, true), (9, true), (10, false), (11, false), (12, true), (13, true), (14, true), (15, true), (17, true), (16, false), (18, true), (19, true), (20, true), (21, true), (23, true), (22, false), (24, true), (25, true), (26, true), (27, true), (28, true), (29, true), (32, true), (30, false), (31, false), (33, false), (34, true), (35, true), (36, true)] (by kernel_rfl) (by kernel_rfl) ?_ (fun hHeld => ?_)
        · (try dsimp only)
          exact ⟨he0, he1, hd0, hd1, HB3.out.drew⟩
        try dsimp only at hHeld
        repeat (refine wpSched_at (by simp only [List.getElem?_toArray, List.getElem?_cons_zero, List.getElem?_cons_succ]; rfl) ?_; (first | (apply wpAt_take rfl; (intro wx hSx; (try dsimp only at hSx); go_simp; (try with_reducible rfl)); simp only [Act.put, List.setIfInBounds_toArray, List.set_cons_zero, List.set_cons_succ]) | (refine wpAt_skip rfl ?_; simp only [Act.put, List.setIfInBounds_toArray, List.set_cons_zero, List.set_cons_succ]) | (refine wpAt_pass rfl hHeld ?_; simp only [Act.put, List.setIfInBounds_toArray, List.set_cons_zero, List.set_cons_succ]) | (refine wpAt_eff rfl (fun K hK => ?_); (skip); go_simp; (first | (go_at_call 10; (with_reducible refine (alive2_any _).mono ?_); rintro e w' ⟨rfl, hb⟩; (try replace HA := Lib.hid (HA.out.below hb)); (try replace HB := Lib.hid (HB.out.below hb)); (try replace NA := Lib.hid (NA.out.below hb)); (try replace NO := Lib.hid (NO.out.below hb)); (try replace NF := Lib.hid (NF.out.below hb)); have hS := And.intro trivial (And.intro (cell_below hHeld.1 hb) (And.intro (cell_below hHeld.2.1 hb) (And.intro (cell_below hHeld.2.2.1 hb) (And.intro (cell_below hHeld.2.2.2.1 hb) (bel_on hHeld.2.2.2.2 hb))))); clear hb hHeld) | (go_at_call 21; (with_reducible refine (abs_any (.agg #[.bool b1, .slice ad1 l1 c1]) (n : Int) 2 _ ?_ (by decide)).mono ?_); (exact HA.out); rintro e w' ⟨va, rfl, hn, hb⟩; (try replace HA := Lib.hid (HA.out.below hb)); (try replace HB := Lib.hid (HB.out.below hb)); (try replace NA := Lib.hid (NA.out.below hb)); (try replace NO := Lib.hid (NO.out.below hb)); (try replace NF := Lib.hid (NF.out.below hb)); have NA := Lib.hid hn; rw [HNA.out] at NA; have hS := And.intro trivial (And.intro (cell_below hHeld.1 hb) (And.intro (cell_below hHeld.2.1 hb) (And.intro (cell_below hHeld.2.2.1 hb) (And.intro (cell_below hHeld.2.2.2.1 hb) (bel_on hHeld.2.2.2.2 hb))))); clear hb hHeld hn) | (go_at_call 22; (with_reducible refine (lowB va n _ ?_).mono ?_); (exact NA.out); rintro e w' ⟨rfl, hb⟩; (try replace HA := Lib.hid (HA.out.below hb)); (try replace HB := Lib.hid (HB.out.below hb)); (try replace NA := Lib.hid (NA.out.below hb)); (try replace NO := Lib.hid (NO.out.below hb)); (try replace NF := Lib.hid (NF.out.below hb)); have hS := And.intro trivial (And.intro (cell_below hHeld.1 hb) (And.intro (cell_below hHeld.2.1 hb) (And.intro (cell_below hHeld.2.2.1 hb) (And.intro (cell_below hHeld.2.2.2.1 hb) (bel_on hHeld.2.2.2.2 hb))))); clear hb hHeld) | (go_at_call 23; (with_reducible refine (bits_any va n 2 _ ?_ ?_ (by decide)).mono ?_); (exact NA.out.1); (exact NA.out.2); rintro e w' ⟨kk, rfl, hkk, hb⟩; (try replace HA := Lib.hid (HA.out.below hb)); (try replace HB := Lib.hid (HB.out.below hb)); (try replace NA := Lib.hid (NA.out.below hb)); (try replace NO := Lib.hid (NO.out.below hb)); (try replace NF := Lib.hid (NF.out.below hb)); have hk64 := bits64 hn64 hkk; have hS := And.intro trivial (And.intro (cell_below hHeld.1 hb) (And.intro (cell_below hHeld.2.1 hb) (And.intro (cell_below hHeld.2.2.1 hb) (And.intro (cell_below hHeld.2.2.2.1 hb) (bel_on hHeld.2.2.2.2 hb))))); clear hb hHeld) | (go_at_call 24; (with_reducible refine (sign_any (.agg #[.bool b1, .slice ad1 l1 c1]) (n : Int) 2 _ ?_ (by decide)).mono ?_); (exact HA.out); rintro e w' ⟨rfl, hb⟩; (try replace HA := Lib.hid (HA.out.below hb)); (try replace HB := Lib.hid (HB.out.below hb)); (try replace NA := Lib.hid (NA.out.below hb)); (try replace NO := Lib.hid (NO.out.below hb)); (try replace NF := Lib.hid (NF.out.below hb)); rw [eS]; have hS := And.intro trivial (And.intro (cell_below hHeld.1 hb) (And.intro (cell_below hHeld.2.1 hb) (And.intro (cell_below hHeld.2.2.1 hb) (And.intro (cell_below hHeld.2.2.2.1 hb) (bel_on hHeld.2.2.2.2 hb))))); clear hb hHeld) | (go_at_call 24; (with_reducible refine (sign_any (.agg #[.bool b2, .slice ad2 l2 c2]) (sg true n) 2 _ ?_ (by decide)).mono ?_); (exact HB.out); rintro e w' ⟨rfl, hb⟩; (try replace HA := Lib.hid (HA.out.below hb)); (try replace HB := Lib.hid (HB.out.below hb)); (try replace NA := Lib.hid (NA.out.below hb)); (try replace NO := Lib.hid (NO.out.below hb)); (try replace NF := Lib.hid (NF.out.below hb)); rw [eT]; have hS := And.intro trivial (And.intro (cell_below hHeld.1 hb) (And.intro (cell_below hHeld.2.1 hb) (And.intro (cell_below hHeld.2.2.1 hb) (And.intro (cell_below hHeld.2.2.2.1 hb) (bel_on hHeld.2.2.2.2 hb))))); clear hb hHeld) | (go_at_call 20; (with_reducible refine (ofB n _ hn64).mono ?_); rintro e w' ⟨vo, rfl, hn, hb⟩; (try replace HA := Lib.hid (HA.out.below hb)); (try replace HB := Lib.hid (HB.out.below hb)); (try replace NA := Lib.hid (NA.out.below hb)); (try replace NO := Lib.hid (NO.out.below hb)); (try replace NF := Lib.hid (NF.out.below hb)); have NO := Lib.hid hn; have hS := And.intro trivial (And.intro (cell_below hHeld.1 hb) (And.intro (cell_below hHeld.2.1 hb) (And.intro (cell_below hHeld.2.2.1 hb) (And.intro (cell_below hHeld.2.2.2.1 hb) (bel_on hHeld.2.2.2.2 hb))))); clear hb hHeld hn) | (go_at_call 19; (with_reducible refine (from_any false vo n 2 _ ?_ (by decide)).mono ?_); (exact NO.out); rintro e w' ⟨vf, rfl, hn, hb⟩; (try replace HA := Lib.hid (HA.out.below hb)); (try replace HB := Lib.hid (HB.out.below hb)); (try replace NA := Lib.hid (NA.out.below hb)); (try replace NO := Lib.hid (NO.out.below hb)); (try replace NF := Lib.hid (NF.out.below hb)); have NF := Lib.hid hn; have hS := And.intro trivial (And.intro (cell_below hHeld.1 hb) (And.intro (cell_below hHeld.2.1 hb) (And.intro (cell_below hHeld.2.2.1 hb) (And.intro (cell_below hHeld.2.2.2.1 hb) (bel_on hHeld.2.2.2.2 hb))))); clear hb hHeld hn) | (go_at_call 25; (with_reducible refine (icmp_any vf (.agg #[.bool b1, .slice ad1 l1 c1]) (sg false n) (n : Int) 2 2 _ ?_ ?_ (by decide) (by decide)).mono ?_); (exact NF.out); (exact HA.out); rintro e w' ⟨rfl, hb⟩; (try replace HA := Lib.hid (HA.out.below hb)); (try replace HB := Lib.hid (HB.out.below hb)); (try replace NA := Lib.hid (NA.out.below hb)); (try replace NO := Lib.hid (NO.out.below hb)); (try replace NF := Lib.hid (NF.out.below hb)); rw [eC]; have hS := And.intro trivial (And.intro (cell_below hHeld.1 hb) (And.intro (cell_below hHeld.2.1 hb) (And.intro (cell_below hHeld.2.2.1 hb) (And.intro (cell_below hHeld.2.2.2.1 hb) (bel_on hHeld.2.2.2.2 hb))))); clear hb hHeld)); (refine hK.out _ _ ?_ (fun hHeld => ?_)); ((try dsimp only); ((try simp only [cell_drew, slot_drew, below_drew]); refine ⟨?_, ?_, ?_, ?_, ?_⟩; (first | exact hS.2.1 | with_reducible exact cell_set hHeld.1 (by omega) | with_reducible exact cell_set (cell_set hHeld.1 (by omega)) (by omega)); (first | exact hS.2.2.1 | with_reducible exact cell_set hHeld.2.1 (by omega) | with_reducible exact cell_set (cell_set hHeld.2.1 (by omega)) (by omega)); (first | exact hS.2.2.2.1 | with_reducible exact cell_set hHeld.2.2.1 (by omega) | with_reducible exact cell_set (cell_set hHeld.2.2.1 (by omega)) (by omega)); (first | exact hS.2.2.2.2.1 | with_reducible exact cell_set hHeld.2.2.2.1 (by omega) | with_reducible exact cell_set (cell_set hHeld.2.2.2.1 (by omega)) (by omega)); (first | exact hS.2.2.2.2.2 | with_reducible exact bel_set1 hHeld.2.2.2.2 (by omega) | with_reducible exact bel_set2 hHeld.2.2.2.2 (by omega) (by omega)))); clear hK K; (try clear hS); (try clear hfx0 hx0 x0); (try clear hfy0 hy0 y0); (try clear hfx1 hx1 x1); (try clear hfy1 hy1 y1); (try dsimp only at hHeld))))
        refine wpSched_nil ?_
        have HE := Lib.hid hHeld.2.2.2.2
        clear hHeld
        go_wp2_with fail
        go_ret
        exact ⟨rfl, HE.out⟩

end Go.Proofs.YtfhilapjpabeeabDoor
