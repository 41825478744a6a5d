/- The law WholeBack. -/
import Derived.Test.YtpchnejdbmoicaaDoorI4
import Derived.Test.YtpchnejdbmoicaaDoorI7
import Derived.Test.YtpchnejdbmoicaaDoorD6
import Derived.Test.YtpchnejdbmoicaaDoorB0
namespace Go.Proofs.YtpchnejdbmoicaaDoor
open Go.RowKit Cin

theorem cmpZ_eq' {a b : Int} (h : a = b) : cmpZ a b = 0 := by unfold cmpZ; rw [if_neg (by omega), if_neg (by omega)]
theorem cmpI_less {a b : Nat} (h : a < b) : cmpI a b = -1 := by unfold cmpI; rw [if_pos h]
theorem sgnZ_ne {y : Int} (h : y ≠ 0) : ∃ S : Int, sgnZ y = S ∧ (S == 0) = false := by
  refine ⟨_, rfl, ?_⟩
  unfold sgnZ
  split
  · rfl
  · rw [if_pos (by omega)]; rfl
theorem back_eq (x y : Int) (hy : y ≠ 0) : ∃ D R S T : Int, divQ x y = D ∧ divR x y = R ∧ sgnZ y = S ∧ sgnZ R = T ∧ cmpZ (D * y + R) x = 0 ∧ cmpI R.natAbs y.natAbs = -1 ∧ (S == 0) = false ∧ (T = 0 ∨ (T = S ∧ (T == 0) = false)) := by
  obtain ⟨h1, h2, h3⟩ := div_back x y hy
  obtain ⟨S, hS, hS0⟩ := sgnZ_ne hy
  refine ⟨_, _, S, _, rfl, rfl, hS, rfl, cmpZ_eq' h1, cmpI_less h2, hS0, ?_⟩
  rcases h3 with h | h
  · left; rw [h]; rfl
  · right; rw [h, hS]; exact ⟨rfl, hS0⟩

set_option maxRecDepth 100000 in
set_option maxHeartbeats 8000000 in
/-- The law holds of every two texts. -/
theorem wholeBack_any (a b : ByteArray) (w : World) :
    Calls Tryd.prog 8 #[.string a, .string b] w fun e w' => e = .returned (.bool true) ∧ Below w.heap.size w w' := by
  go_enter Tryd.func8, Tryd.ntmps8
  go_wp2_with fail
  refine (num_uni a _).mono ?_
  rintro e w1 ⟨ok1, b1, ad1, l1, c1, d1, ae1, m1, e1, rfl, hI1, hb1⟩
  have hbA1 := bel_alloc2 w1 (Obj.cells #[Value.bool b1, Value.slice ad1 l1 c1] 51) (Obj.cells #[Value.bool d1, Value.slice ae1 m1 e1] 53)
  have HB1 := Lib.hid (bel_on hb1 hbA1)
  have HI1 := Lib.hid (show ok1 = true → IntB 68 ((w1.alloc (Obj.cells #[Value.bool b1, Value.slice ad1 l1 c1] 51)).alloc (Obj.cells #[Value.bool d1, Value.slice ae1 m1 e1] 53)) (.agg #[.bool b1, .slice ad1 l1 c1]) (intVal a) 21 from fun h => (hI1.out h).1.below hbA1)
  have HC1 := Lib.hid (cell_pair (heldN2 (w := w1) (c0 := #[Value.bool b1, Value.slice ad1 l1 c1]) (t0 := 51) (c1 := #[Value.bool d1, Value.slice ae1 m1 e1]) (t1 := 53)).1)
  have hs1 := hb1.size
  clear hI1 hb1 hbA1
  go_wp2_with fail
  refine (num_uni b _).mono ?_
  rintro e w2 ⟨ok2, b2, ad2, l2, c2, d2, ae2, m2, e2, rfl, hI2, hb2⟩
  have hbA2 := bel_alloc2 w2 (Obj.cells #[Value.bool b2, Value.slice ad2 l2 c2] 51) (Obj.cells #[Value.bool d2, Value.slice ae2 m2 e2] 53)
  have HB2 := Lib.hid (bel_on (bel_on HB1.out hb2) hbA2)
  have HI2 := Lib.hid (show ok2 = true → IntB 68 ((w2.alloc (Obj.cells #[Value.bool b2, Value.slice ad2 l2 c2] 51)).alloc (Obj.cells #[Value.bool d2, Value.slice ae2 m2 e2] 53)) (.agg #[.bool b2, .slice ad2 l2 c2]) (intVal b) 21 from fun h => (hI2.out h).1.below hbA2)
  have HC2 := Lib.hid (cell_pair (heldN2 (w := w2) (c0 := #[Value.bool b2, Value.slice ad2 l2 c2]) (t0 := 51) (c1 := #[Value.bool d2, Value.slice ae2 m2 e2]) (t1 := 53)).1)
  have hs2 := hb2.size
  replace HI1 := Lib.hid (fun h => ((HI1.out h).below hb2).below hbA2)
  replace HC1 := Lib.hid (And.intro (cell_below (cell_below HC1.out.1 hb2) hbA2) (cell_below (cell_below HC1.out.2 hb2) hbA2))
  clear hI2 hb2 hbA2
  cases ok1
  · go_wp2_with fail
    refine (alive2_any _).mono ?_
    rintro e w4 ⟨rfl, hb4⟩
    have HB4 := Lib.hid (bel_on HB2.out hb4)
    clear hb4
    go_wp2
    go_ret
    exact ⟨rfl, HB4.out⟩
  cases ok2
  · go_wp2_with fail
    refine (alive2_any _).mono ?_
    rintro e w4 ⟨rfl, hb4⟩
    have HB4 := Lib.hid (bel_on HB2.out hb4)
    clear hb4
    go_wp2
    go_ret
    exact ⟨rfl, HB4.out⟩
  · have HP := Lib.hid (HI1.out rfl)
    have HQ := Lib.hid (HI2.out rfl)
    have hp0 := HC1.out.1
    have hp1 := HC1.out.2
    have hq0 := HC2.out.1
    have hq1 := HC2.out.2
    clear HI1 HI2 HC1 HC2
    go_wp2_with fail
    generalize (w2.alloc (Obj.cells #[Value.bool b2, Value.slice ad2 l2 c2] 51)).alloc (Obj.cells #[Value.bool d2, Value.slice ae2 m2 e2] 53) = X at *
    generalize intVal a = x at *
    generalize intVal b = y at *
    refine (sign_any _ y 21 _ HQ.out (by decide)).mono ?_
    rintro e w3 ⟨rfl, hb3⟩
    replace HP := Lib.hid (HP.out.below hb3)
    replace HQ := Lib.hid (HQ.out.below hb3)
    replace hp0 := cell_below hp0 hb3
    replace hp1 := cell_below hp1 hb3
    replace hq0 := cell_below hq0 hb3
    replace hq1 := cell_below hq1 hb3
    have HB3 := Lib.hid (bel_on HB2.out hb3)
    clear hb3
    by_cases hy : y = 0
    · subst hy
      rw [show sgnZ 0 = 0 from rfl]
      go_wp2_with fail
      refine (alive2_any _).mono ?_
      rintro e w4 ⟨rfl, hb4⟩
      have HB4 := Lib.hid (bel_on HB3.out hb4)
      clear hb4
      go_wp2
      go_ret
      exact ⟨rfl, HB4.out⟩
    obtain ⟨D, R, S, T, eD, eR, eS, eT, e1, e2, hS0, hT⟩ := back_eq x y hy
    rw [eS]
    go_wp2_with fail
    refine (alive2_any _).mono ?_
    rintro e w4 ⟨rfl, hb4⟩
    replace HP := Lib.hid (HP.out.below hb4)
    replace HQ := Lib.hid (HQ.out.below hb4)
    replace hp0 := cell_below hp0 hb4
    replace hp1 := cell_below hp1 hb4
    replace hq0 := cell_below hq0 hb4
    replace hq1 := cell_below hq1 hb4
    have HB4 := Lib.hid (bel_on HB3.out hb4)
    clear hb4
    have ES := Lib.hid eS
    have ET := Lib.hid eT
    have E1 := Lib.hid e1
    have E2 := Lib.hid e2
    have HT := Lib.hid hT
    clear eS eT e1 e2 hT hS0
    go_wp2_with fail
    refine (idiv_of _ _ x y 21 21 _ HP.out HQ.out (by decide) (by decide) (divTells _ _ 21 21 (by decide) (by decide) (by omega)) hy).mono ?_
    rintro e w5 ⟨vd, vr, rfl, hd5, hr5, hb5⟩
    rw [eD] at hd5
    rw [eR] at hr5
    clear eD eR
    obtain ⟨b4, ad4, l4, c4, rfl, _⟩ := hd5.shape2
    obtain ⟨b5, ad5, l5, c5, rfl, _⟩ := hr5.shape2
    have hbA5 := bel_alloc2 w5 (Obj.cells #[Value.bool b4, Value.slice ad4 l4 c4] 51) (Obj.cells #[Value.bool b5, Value.slice ad5 l5 c5] 51)
    have hh5 := heldN2 (w := w5) (c0 := #[Value.bool b4, Value.slice ad4 l4 c4]) (t0 := 51) (c1 := #[Value.bool b5, Value.slice ad5 l5 c5]) (t1 := 51)
    have HD := Lib.hid (hd5.below hbA5)
    have HR := Lib.hid (hr5.below hbA5)
    replace HP := Lib.hid (HP.out.below hb5)
    replace HQ := Lib.hid (HQ.out.below hb5)
    replace hp0 := cell_below hp0 hb5
    replace hp1 := cell_below hp1 hb5
    replace hq0 := cell_below hq0 hb5
    replace hq1 := cell_below hq1 hb5
    replace HP := Lib.hid (HP.out.below hbA5)
    replace HQ := Lib.hid (HQ.out.below hbA5)
    replace hp0 := cell_below hp0 hbA5
    replace hp1 := cell_below hp1 hbA5
    replace hq0 := cell_below hq0 hbA5
    replace hq1 := cell_below hq1 hbA5
    have hd0 := (cell_pair hh5.1).1
    have hd1 := (cell_pair hh5.1).2
    have hr0 := (cell_pair hh5.2.1).1
    have hr1 := (cell_pair hh5.2.1).2
    have HB5 := Lib.hid (bel_on (bel_on HB4.out hb5) hbA5)
    clear hd5 hr5 hb5 hbA5 hh5
    rcases HT.out with hT0 | ⟨hTS, hT0⟩
    all_goals
      clear HT
      go_wp2_with fail
      generalize hX5 : (w5.alloc (Obj.cells #[Value.bool b4, Value.slice ad4 l4 c4] 51)).alloc (Obj.cells #[Value.bool b5, Value.slice ad5 l5 c5] 51) = X5 at *
      clear hX5
      replace HP := Lib.hid (HP.out.below (Below.refl _ X5).drew)
      replace HQ := Lib.hid (HQ.out.below (Below.refl _ X5).drew)
      replace HD := Lib.hid (HD.out.below (Below.refl _ X5).drew)
      replace HR := Lib.hid (HR.out.below (Below.refl _ X5).drew)
    · subst hT0
      refine wp_region_sched (fun w' => w'.cell? ⟨w1.heap.size, 0, none⟩ = some (.bool b1) ∧ w'.cell? ⟨w1.heap.size, 1, none⟩ = some (.slice ad1 l1 c1) ∧ w'.cell? ⟨w2.heap.size, 0, none⟩ = some (.bool b2) ∧ w'.cell? ⟨w2.heap.size, 1, none⟩ = some (.slice ad2 l2 c2) ∧ w'.cell? ⟨w5.heap.size, 0, none⟩ = some (.bool b4) ∧ w'.cell? ⟨w5.heap.size, 1, none⟩ = some (.slice ad4 l4 c4) ∧ w'.cell? ⟨w5.heap.size + 1, 0, none⟩ = some (.bool b5) ∧ w'.cell? ⟨w5.heap.size + 1, 1, none⟩ = some (.slice ad5 l5 c5) ∧ Below w.heap.size w w') [(0, true), (1, true), (2, true), (3, true), (5, true), (7, true), (4, false), (6, false), (8, false), (9, true), (10, true), (11, true), (12, true), (14, true), (13, false), (15, false), (16, false), (17, true), (18, true), (19, true), (20, true), (21, false), (22, true), (23, true), (24, true), (26, true), (25, false), (27, false), (28, true), (29, true), (30, true), (31, true)] (by kernel_rfl) (by kernel_rfl) ?_ (fun hHeld => ?_)
      · (try dsimp only)
        exact ⟨hp0, hp1, hq0, hq1, hd0, hd1, hr0, hr1, HB5.out.drew⟩
      try dsimp only at hHeld
      repeat (refine wpSched_at (by simp only [List.getElem?_toArray, List.getElem?_cons_zero, List.getElem?_cons_succ]; rfl) ?_; (first | (apply wpAt_take rfl; (intro wx hSx; (try dsimp only at hSx); go_simp; (try with_reducible rfl)); simp only [Act.put, List.setIfInBounds_toArray, List.set_cons_zero, List.set_cons_succ]) | (refine wpAt_skip rfl ?_; simp only [Act.put, List.setIfInBounds_toArray, List.set_cons_zero, List.set_cons_succ]) | (refine wpAt_pass rfl hHeld ?_; simp only [Act.put, List.setIfInBounds_toArray, List.set_cons_zero, List.set_cons_succ]) | (refine wpAt_eff rfl (fun K hK => ?_); (skip); go_simp; (first | (go_at_call 42; (with_reducible refine (imul_any (.agg #[.bool b4, .slice ad4 l4 c4]) (.agg #[.bool b2, .slice ad2 l2 c2]) D y 24 21 _ ?_ ?_ (by decide) (by decide)).mono ?_); (exact HD.out); (exact HQ.out); rintro e w' ⟨vm1, rfl, hn, hb⟩; (try replace HP := Lib.hid (HP.out.below hb)); (try replace HQ := Lib.hid (HQ.out.below hb)); (try replace HD := Lib.hid (HD.out.below hb)); (try replace HR := Lib.hid (HR.out.below hb)); (try replace Nm1 := Lib.hid (Nm1.out.below hb)); (try replace Na1 := Lib.hid (Na1.out.below hb)); (try replace Nn1 := Lib.hid (Nn1.out.below hb)); (try replace Nn2 := Lib.hid (Nn2.out.below hb)); have Nm1 := Lib.hid hn; have hS := And.intro trivial (And.intro (cell_below hHeld.1 hb) (And.intro (cell_below hHeld.2.1 hb) (And.intro (cell_below hHeld.2.2.1 hb) (And.intro (cell_below hHeld.2.2.2.1 hb) (And.intro (cell_below hHeld.2.2.2.2.1 hb) (And.intro (cell_below hHeld.2.2.2.2.2.1 hb) (And.intro (cell_below hHeld.2.2.2.2.2.2.1 hb) (And.intro (cell_below hHeld.2.2.2.2.2.2.2.1 hb) (bel_on hHeld.2.2.2.2.2.2.2.2 hb))))))))); clear hb hHeld hn) | (go_at_call 41; (with_reducible refine (iadd_any vm1 (.agg #[.bool b5, .slice ad5 l5 c5]) (D * y) R (24 + 21) 21 _ ?_ ?_ (by decide) (by decide)).mono ?_); (exact Nm1.out); (exact HR.out); rintro e w' ⟨va1, rfl, hn, hb⟩; (try replace HP := Lib.hid (HP.out.below hb)); (try replace HQ := Lib.hid (HQ.out.below hb)); (try replace HD := Lib.hid (HD.out.below hb)); (try replace HR := Lib.hid (HR.out.below hb)); (try replace Nm1 := Lib.hid (Nm1.out.below hb)); (try replace Na1 := Lib.hid (Na1.out.below hb)); (try replace Nn1 := Lib.hid (Nn1.out.below hb)); (try replace Nn2 := Lib.hid (Nn2.out.below hb)); have Na1 := Lib.hid hn; have hS := And.intro trivial (And.intro (cell_below hHeld.1 hb) (And.intro (cell_below hHeld.2.1 hb) (And.intro (cell_below hHeld.2.2.1 hb) (And.intro (cell_below hHeld.2.2.2.1 hb) (And.intro (cell_below hHeld.2.2.2.2.1 hb) (And.intro (cell_below hHeld.2.2.2.2.2.1 hb) (And.intro (cell_below hHeld.2.2.2.2.2.2.1 hb) (And.intro (cell_below hHeld.2.2.2.2.2.2.2.1 hb) (bel_on hHeld.2.2.2.2.2.2.2.2 hb))))))))); clear hb hHeld hn) | (go_at_call 40; (with_reducible refine (icmp_any va1 (.agg #[.bool b1, .slice ad1 l1 c1]) ((D * y) + R) x ((24 + 21) + 21 + 1) 21 _ ?_ ?_ (by decide) (by decide)).mono ?_); (exact Na1.out); (exact HP.out); rintro e w' ⟨rfl, hb⟩; (try replace HP := Lib.hid (HP.out.below hb)); (try replace HQ := Lib.hid (HQ.out.below hb)); (try replace HD := Lib.hid (HD.out.below hb)); (try replace HR := Lib.hid (HR.out.below hb)); (try replace Nm1 := Lib.hid (Nm1.out.below hb)); (try replace Na1 := Lib.hid (Na1.out.below hb)); (try replace Nn1 := Lib.hid (Nn1.out.below hb)); (try replace Nn2 := Lib.hid (Nn2.out.below hb)); rw [E1.out]; have hS := And.intro trivial (And.intro (cell_below hHeld.1 hb) (And.intro (cell_below hHeld.2.1 hb) (And.intro (cell_below hHeld.2.2.1 hb) (And.intro (cell_below hHeld.2.2.2.1 hb) (And.intro (cell_below hHeld.2.2.2.2.1 hb) (And.intro (cell_below hHeld.2.2.2.2.2.1 hb) (And.intro (cell_below hHeld.2.2.2.2.2.2.1 hb) (And.intro (cell_below hHeld.2.2.2.2.2.2.2.1 hb) (bel_on hHeld.2.2.2.2.2.2.2.2 hb))))))))); clear hb hHeld) | (go_at_call 43; (with_reducible refine (abs_any (.agg #[.bool b5, .slice ad5 l5 c5]) R 21 _ ?_ (by decide)).mono ?_); (exact HR.out); rintro e w' ⟨vn1, rfl, hn, hb⟩; (try replace HP := Lib.hid (HP.out.below hb)); (try replace HQ := Lib.hid (HQ.out.below hb)); (try replace HD := Lib.hid (HD.out.below hb)); (try replace HR := Lib.hid (HR.out.below hb)); (try replace Nm1 := Lib.hid (Nm1.out.below hb)); (try replace Na1 := Lib.hid (Na1.out.below hb)); (try replace Nn1 := Lib.hid (Nn1.out.below hb)); (try replace Nn2 := Lib.hid (Nn2.out.below hb)); have Nn1 := Lib.hid hn; have hS := And.intro trivial (And.intro (cell_below hHeld.1 hb) (And.intro (cell_below hHeld.2.1 hb) (And.intro (cell_below hHeld.2.2.1 hb) (And.intro (cell_below hHeld.2.2.2.1 hb) (And.intro (cell_below hHeld.2.2.2.2.1 hb) (And.intro (cell_below hHeld.2.2.2.2.2.1 hb) (And.intro (cell_below hHeld.2.2.2.2.2.2.1 hb) (And.intro (cell_below hHeld.2.2.2.2.2.2.2.1 hb) (bel_on hHeld.2.2.2.2.2.2.2.2 hb))))))))); clear hb hHeld hn) | (go_at_call 43; (with_reducible refine (abs_any (.agg #[.bool b2, .slice ad2 l2 c2]) y 21 _ ?_ (by decide)).mono ?_); (exact HQ.out); rintro e w' ⟨vn2, rfl, hn, hb⟩; (try replace HP := Lib.hid (HP.out.below hb)); (try replace HQ := Lib.hid (HQ.out.below hb)); (try replace HD := Lib.hid (HD.out.below hb)); (try replace HR := Lib.hid (HR.out.below hb)); (try replace Nm1 := Lib.hid (Nm1.out.below hb)); (try replace Na1 := Lib.hid (Na1.out.below hb)); (try replace Nn1 := Lib.hid (Nn1.out.below hb)); (try replace Nn2 := Lib.hid (Nn2.out.below hb)); have Nn2 := Lib.hid hn; have hS := And.intro trivial (And.intro (cell_below hHeld.1 hb) (And.intro (cell_below hHeld.2.1 hb) (And.intro (cell_below hHeld.2.2.1 hb) (And.intro (cell_below hHeld.2.2.2.1 hb) (And.intro (cell_below hHeld.2.2.2.2.1 hb) (And.intro (cell_below hHeld.2.2.2.2.2.1 hb) (And.intro (cell_below hHeld.2.2.2.2.2.2.1 hb) (And.intro (cell_below hHeld.2.2.2.2.2.2.2.1 hb) (bel_on hHeld.2.2.2.2.2.2.2.2 hb))))))))); clear hb hHeld hn) | (go_at_call 29; (with_reducible refine (cmpB vn1 vn2 R.natAbs y.natAbs 21 21 _ ?_ ?_ (by decide) (by decide)).mono ?_); (exact Nn1.out); (exact Nn2.out); rintro e w' ⟨rfl, hb⟩; (try replace HP := Lib.hid (HP.out.below hb)); (try replace HQ := Lib.hid (HQ.out.below hb)); (try replace HD := Lib.hid (HD.out.below hb)); (try replace HR := Lib.hid (HR.out.below hb)); (try replace Nm1 := Lib.hid (Nm1.out.below hb)); (try replace Na1 := Lib.hid (Na1.out.below hb)); (try replace Nn1 := Lib.hid (Nn1.out.below hb)); (try replace Nn2 := Lib.hid (Nn2.out.below hb)); rw [E2.out]; have hS := And.intro trivial (And.intro (cell_below hHeld.1 hb) (And.intro (cell_below hHeld.2.1 hb) (And.intro (cell_below hHeld.2.2.1 hb) (And.intro (cell_below hHeld.2.2.2.1 hb) (And.intro (cell_below hHeld.2.2.2.2.1 hb) (And.intro (cell_below hHeld.2.2.2.2.2.1 hb) (And.intro (cell_below hHeld.2.2.2.2.2.2.1 hb) (And.intro (cell_below hHeld.2.2.2.2.2.2.2.1 hb) (bel_on hHeld.2.2.2.2.2.2.2.2 hb))))))))); clear hb hHeld) | (go_at_call 39; (with_reducible refine (sign_any (.agg #[.bool b5, .slice ad5 l5 c5]) R 21 _ ?_ (by decide)).mono ?_); (exact HR.out); rintro e w' ⟨rfl, hb⟩; (try replace HP := Lib.hid (HP.out.below hb)); (try replace HQ := Lib.hid (HQ.out.below hb)); (try replace HD := Lib.hid (HD.out.below hb)); (try replace HR := Lib.hid (HR.out.below hb)); (try replace Nm1 := Lib.hid (Nm1.out.below hb)); (try replace Na1 := Lib.hid (Na1.out.below hb)); (try replace Nn1 := Lib.hid (Nn1.out.below hb)); (try replace Nn2 := Lib.hid (Nn2.out.below hb)); rw [ET.out]; have hS := And.intro trivial (And.intro (cell_below hHeld.1 hb) (And.intro (cell_below hHeld.2.1 hb) (And.intro (cell_below hHeld.2.2.1 hb) (And.intro (cell_below hHeld.2.2.2.1 hb) (And.intro (cell_below hHeld.2.2.2.2.1 hb) (And.intro (cell_below hHeld.2.2.2.2.2.1 hb) (And.intro (cell_below hHeld.2.2.2.2.2.2.1 hb) (And.intro (cell_below hHeld.2.2.2.2.2.2.2.1 hb) (bel_on hHeld.2.2.2.2.2.2.2.2 hb))))))))); clear hb hHeld)); (refine hK.out _ _ ?_ (fun hHeld => ?_)); ((try dsimp only); ((try simp only [cell_drew, slot_drew, below_drew]); refine ⟨?_, ?_, ?_, ?_, ?_, ?_, ?_, ?_, ?_⟩; (first | exact hS.2.1 | with_reducible exact cell_set hHeld.1 (by omega) | with_reducible exact cell_set (cell_set hHeld.1 (by omega)) (by omega)); (first | exact hS.2.2.1 | with_reducible exact cell_set hHeld.2.1 (by omega) | with_reducible exact cell_set (cell_set hHeld.2.1 (by omega)) (by omega)); (first | exact hS.2.2.2.1 | with_reducible exact cell_set hHeld.2.2.1 (by omega) | with_reducible exact cell_set (cell_set hHeld.2.2.1 (by omega)) (by omega)); (first | exact hS.2.2.2.2.1 | with_reducible exact cell_set hHeld.2.2.2.1 (by omega) | with_reducible exact cell_set (cell_set hHeld.2.2.2.1 (by omega)) (by omega)); (first | exact hS.2.2.2.2.2.1 | with_reducible exact cell_set hHeld.2.2.2.2.1 (by omega) | with_reducible exact cell_set (cell_set hHeld.2.2.2.2.1 (by omega)) (by omega)); (first | exact hS.2.2.2.2.2.2.1 | with_reducible exact cell_set hHeld.2.2.2.2.2.1 (by omega) | with_reducible exact cell_set (cell_set hHeld.2.2.2.2.2.1 (by omega)) (by omega)); (first | exact hS.2.2.2.2.2.2.2.1 | with_reducible exact cell_set hHeld.2.2.2.2.2.2.1 (by omega) | with_reducible exact cell_set (cell_set hHeld.2.2.2.2.2.2.1 (by omega)) (by omega)); (first | exact hS.2.2.2.2.2.2.2.2.1 | with_reducible exact cell_set hHeld.2.2.2.2.2.2.2.1 (by omega) | with_reducible exact cell_set (cell_set hHeld.2.2.2.2.2.2.2.1 (by omega)) (by omega)); (first | exact hS.2.2.2.2.2.2.2.2.2 | with_reducible exact bel_set1 hHeld.2.2.2.2.2.2.2.2 (by omega) | with_reducible exact bel_set2 hHeld.2.2.2.2.2.2.2.2 (by omega) (by omega)))); clear hK K; (try clear hS); (try clear hfx0 hx0 x0); (try clear hfy0 hy0 y0); (try clear hfx1 hx1 x1); (try clear hfy1 hy1 y1); (try dsimp only at hHeld))))
      refine wpSched_nil ?_
      have HE := Lib.hid hHeld.2.2.2.2.2.2.2.2
      clear hHeld
      go_wp2_with fail
      go_ret
      exact ⟨rfl, HE.out⟩
    · subst hTS
      refine wp_region_sched (fun w' => w'.cell? ⟨w1.heap.size, 0, none⟩ = some (.bool b1) ∧ w'.cell? ⟨w1.heap.size, 1, none⟩ = some (.slice ad1 l1 c1) ∧ w'.cell? ⟨w2.heap.size, 0, none⟩ = some (.bool b2) ∧ w'.cell? ⟨w2.heap.size, 1, none⟩ = some (.slice ad2 l2 c2) ∧ w'.cell? ⟨w5.heap.size, 0, none⟩ = some (.bool b4) ∧ w'.cell? ⟨w5.heap.size, 1, none⟩ = some (.slice ad4 l4 c4) ∧ w'.cell? ⟨w5.heap.size + 1, 0, none⟩ = some (.bool b5) ∧ w'.cell? ⟨w5.heap.size + 1, 1, none⟩ = some (.slice ad5 l5 c5) ∧ Below w.heap.size w w') [(0, true), (1, true), (2, true), (3, true), (5, true), (7, true), (4, false), (6, false), (8, false), (9, true), (10, true), (11, true), (12, true), (14, true), (13, false), (15, false), (16, false), (17, true), (18, true), (19, true), (20, true), (21, false), (22, true), (23, true), (24, true), (26, true), (25, false), (27, false), (28, true), (29, true), (30, true), (31, true)] (by kernel_rfl) (by kernel_rfl) ?_ (fun hHeld => ?_)
      · (try dsimp only)
        exact ⟨hp0, hp1, hq0, hq1, hd0, hd1, hr0, hr1, HB5.out.drew⟩
      try dsimp only at hHeld
      repeat (refine wpSched_at (by simp only [List.getElem?_toArray, List.getElem?_cons_zero, List.getElem?_cons_succ]; rfl) ?_; (first | (apply wpAt_take rfl; (intro wx hSx; (try dsimp only at hSx); go_simp; (try with_reducible rfl)); simp only [Act.put, List.setIfInBounds_toArray, List.set_cons_zero, List.set_cons_succ]) | (refine wpAt_skip rfl ?_; simp only [Act.put, List.setIfInBounds_toArray, List.set_cons_zero, List.set_cons_succ]) | (refine wpAt_pass rfl hHeld ?_; simp only [Act.put, List.setIfInBounds_toArray, List.set_cons_zero, List.set_cons_succ]) | (refine wpAt_eff rfl (fun K hK => ?_); (skip); go_simp; (first | (go_at_call 42; (with_reducible refine (imul_any (.agg #[.bool b4, .slice ad4 l4 c4]) (.agg #[.bool b2, .slice ad2 l2 c2]) D y 24 21 _ ?_ ?_ (by decide) (by decide)).mono ?_); (exact HD.out); (exact HQ.out); rintro e w' ⟨vm1, rfl, hn, hb⟩; (try replace HP := Lib.hid (HP.out.below hb)); (try replace HQ := Lib.hid (HQ.out.below hb)); (try replace HD := Lib.hid (HD.out.below hb)); (try replace HR := Lib.hid (HR.out.below hb)); (try replace Nm1 := Lib.hid (Nm1.out.below hb)); (try replace Na1 := Lib.hid (Na1.out.below hb)); (try replace Nn1 := Lib.hid (Nn1.out.below hb)); (try replace Nn2 := Lib.hid (Nn2.out.below hb)); have Nm1 := Lib.hid hn; have hS := And.intro trivial (And.intro (cell_below hHeld.1 hb) (And.intro (cell_below hHeld.2.1 hb) (And.intro (cell_below hHeld.2.2.1 hb) (And.intro (cell_below hHeld.2.2.2.1 hb) (And.intro (cell_below hHeld.2.2.2.2.1 hb) (And.intro (cell_below hHeld.2.2.2.2.2.1 hb) (And.intro (cell_below hHeld.2.2.2.2.2.2.1 hb) (And.intro (cell_below hHeld.2.2.2.2.2.2.2.1 hb) (bel_on hHeld.2.2.2.2.2.2.2.2 hb))))))))); clear hb hHeld hn) | (go_at_call 41; (with_reducible refine (iadd_any vm1 (.agg #[.bool b5, .slice ad5 l5 c5]) (D * y) R (24 + 21) 21 _ ?_ ?_ (by decide) (by decide)).mono ?_); (exact Nm1.out); (exact HR.out); rintro e w' ⟨va1, rfl, hn, hb⟩; (try replace HP := Lib.hid (HP.out.below hb)); (try replace HQ := Lib.hid (HQ.out.below hb)); (try replace HD := Lib.hid (HD.out.below hb)); (try replace HR := Lib.hid (HR.out.below hb)); (try replace Nm1 := Lib.hid (Nm1.out.below hb)); (try replace Na1 := Lib.hid (Na1.out.below hb)); (try replace Nn1 := Lib.hid (Nn1.out.below hb)); (try replace Nn2 := Lib.hid (Nn2.out.below hb)); have Na1 := Lib.hid hn; have hS := And.intro trivial (And.intro (cell_below hHeld.1 hb) (And.intro (cell_below hHeld.2.1 hb) (And.intro (cell_below hHeld.2.2.1 hb) (And.intro (cell_below hHeld.2.2.2.1 hb) (And.intro (cell_below hHeld.2.2.2.2.1 hb) (And.intro (cell_below hHeld.2.2.2.2.2.1 hb) (And.intro (cell_below hHeld.2.2.2.2.2.2.1 hb) (And.intro (cell_below hHeld.2.2.2.2.2.2.2.1 hb) (bel_on hHeld.2.2.2.2.2.2.2.2 hb))))))))); clear hb hHeld hn) | (go_at_call 40; (with_reducible refine (icmp_any va1 (.agg #[.bool b1, .slice ad1 l1 c1]) ((D * y) + R) x ((24 + 21) + 21 + 1) 21 _ ?_ ?_ (by decide) (by decide)).mono ?_); (exact Na1.out); (exact HP.out); rintro e w' ⟨rfl, hb⟩; (try replace HP := Lib.hid (HP.out.below hb)); (try replace HQ := Lib.hid (HQ.out.below hb)); (try replace HD := Lib.hid (HD.out.below hb)); (try replace HR := Lib.hid (HR.out.below hb)); (try replace Nm1 := Lib.hid (Nm1.out.below hb)); (try replace Na1 := Lib.hid (Na1.out.below hb)); (try replace Nn1 := Lib.hid (Nn1.out.below hb)); (try replace Nn2 := Lib.hid (Nn2.out.below hb)); rw [E1.out]; have hS := And.intro trivial (And.intro (cell_below hHeld.1 hb) (And.intro (cell_below hHeld.2.1 hb) (And.intro (cell_below hHeld.2.2.1 hb) (And.intro (cell_below hHeld.2.2.2.1 hb) (And.intro (cell_below hHeld.2.2.2.2.1 hb) (And.intro (cell_below hHeld.2.2.2.2.2.1 hb) (And.intro (cell_below hHeld.2.2.2.2.2.2.1 hb) (And.intro (cell_below hHeld.2.2.2.2.2.2.2.1 hb) (bel_on hHeld.2.2.2.2.2.2.2.2 hb))))))))); clear hb hHeld) | (go_at_call 43; (with_reducible refine (abs_any (.agg #[.bool b5, .slice ad5 l5 c5]) R 21 _ ?_ (by decide)).mono ?_); (exact HR.out); rintro e w' ⟨vn1, rfl, hn, hb⟩; (try replace HP := Lib.hid (HP.out.below hb)); (try replace HQ := Lib.hid (HQ.out.below hb)); (try replace HD := Lib.hid (HD.out.below hb)); (try replace HR := Lib.hid (HR.out.below hb)); (try replace Nm1 := Lib.hid (Nm1.out.below hb)); (try replace Na1 := Lib.hid (Na1.out.below hb)); (try replace Nn1 := Lib.hid (Nn1.out.below hb)); (try replace Nn2 := Lib.hid (Nn2.out.below hb)); have Nn1 := Lib.hid hn; have hS := And.intro trivial (And.intro (cell_below hHeld.1 hb) (And.intro (cell_below hHeld.2.1 hb) (And.intro (cell_below hHeld.2.2.1 hb) (And.intro (cell_below hHeld.2.2.2.1 hb) (And.intro (cell_below hHeld.2.2.2.2.1 hb) (And.intro (cell_below hHeld.2.2.2.2.2.1 hb) (And.intro (cell_below hHeld.2.2.2.2.2.2.1 hb) (And.intro (cell_below hHeld.2.2.2.2.2.2.2.1 hb) (bel_on hHeld.2.2.2.2.2.2.2.2 hb))))))))); clear hb hHeld hn) | (go_at_call 43; (with_reducible refine (abs_any (.agg #[.bool b2, .slice ad2 l2 c2]) y 21 _ ?_ (by decide)).mono ?_); (exact HQ.out); rintro e w' ⟨vn2, rfl, hn, hb⟩; (try replace HP := Lib.hid (HP.out.below hb)); (try replace HQ := Lib.hid (HQ.out.below hb)); (try replace HD := Lib.hid (HD.out.below hb)); (try replace HR := Lib.hid (HR.out.below hb)); (try replace Nm1 := Lib.hid (Nm1.out.below hb)); (try replace Na1 := Lib.hid (Na1.out.below hb)); (try replace Nn1 := Lib.hid (Nn1.out.below hb)); (try replace Nn2 := Lib.hid (Nn2.out.below hb)); have Nn2 := Lib.hid hn; have hS := And.intro trivial (And.intro (cell_below hHeld.1 hb) (And.intro (cell_below hHeld.2.1 hb) (And.intro (cell_below hHeld.2.2.1 hb) (And.intro (cell_below hHeld.2.2.2.1 hb) (And.intro (cell_below hHeld.2.2.2.2.1 hb) (And.intro (cell_below hHeld.2.2.2.2.2.1 hb) (And.intro (cell_below hHeld.2.2.2.2.2.2.1 hb) (And.intro (cell_below hHeld.2.2.2.2.2.2.2.1 hb) (bel_on hHeld.2.2.2.2.2.2.2.2 hb))))))))); clear hb hHeld hn) | (go_at_call 29; (with_reducible refine (cmpB vn1 vn2 R.natAbs y.natAbs 21 21 _ ?_ ?_ (by decide) (by decide)).mono ?_); (exact Nn1.out); (exact Nn2.out); rintro e w' ⟨rfl, hb⟩; (try replace HP := Lib.hid (HP.out.below hb)); (try replace HQ := Lib.hid (HQ.out.below hb)); (try replace HD := Lib.hid (HD.out.below hb)); (try replace HR := Lib.hid (HR.out.below hb)); (try replace Nm1 := Lib.hid (Nm1.out.below hb)); (try replace Na1 := Lib.hid (Na1.out.below hb)); (try replace Nn1 := Lib.hid (Nn1.out.below hb)); (try replace Nn2 := Lib.hid (Nn2.out.below hb)); rw [E2.out]; have hS := And.intro trivial (And.intro (cell_below hHeld.1 hb) (And.intro (cell_below hHeld.2.1 hb) (And.intro (cell_below hHeld.2.2.1 hb) (And.intro (cell_below hHeld.2.2.2.1 hb) (And.intro (cell_below hHeld.2.2.2.2.1 hb) (And.intro (cell_below hHeld.2.2.2.2.2.1 hb) (And.intro (cell_below hHeld.2.2.2.2.2.2.1 hb) (And.intro (cell_below hHeld.2.2.2.2.2.2.2.1 hb) (bel_on hHeld.2.2.2.2.2.2.2.2 hb))))))))); clear hb hHeld) | (go_at_call 39; (with_reducible refine (sign_any (.agg #[.bool b5, .slice ad5 l5 c5]) R 21 _ ?_ (by decide)).mono ?_); (exact HR.out); rintro e w' ⟨rfl, hb⟩; (try replace HP := Lib.hid (HP.out.below hb)); (try replace HQ := Lib.hid (HQ.out.below hb)); (try replace HD := Lib.hid (HD.out.below hb)); (try replace HR := Lib.hid (HR.out.below hb)); (try replace Nm1 := Lib.hid (Nm1.out.below hb)); (try replace Na1 := Lib.hid (Na1.out.below hb)); (try replace Nn1 := Lib.hid (Nn1.out.below hb)); (try replace Nn2 := Lib.hid (Nn2.out.below hb)); rw [ET.out]; have hS := And.intro trivial (And.intro (cell_below hHeld.1 hb) (And.intro (cell_below hHeld.2.1 hb) (And.intro (cell_below hHeld.2.2.1 hb) (And.intro (cell_below hHeld.2.2.2.1 hb) (And.intro (cell_below hHeld.2.2.2.2.1 hb) (And.intro (cell_below hHeld.2.2.2.2.2.1 hb) (And.intro (cell_below hHeld.2.2.2.2.2.2.1 hb) (And.intro (cell_below hHeld.2.2.2.2.2.2.2.1 hb) (bel_on hHeld.2.2.2.2.2.2.2.2 hb))))))))); clear hb hHeld) | (go_at_call 39; (with_reducible refine (sign_any (.agg #[.bool b2, .slice ad2 l2 c2]) y 21 _ ?_ (by decide)).mono ?_); (exact HQ.out); rintro e w' ⟨rfl, hb⟩; (try replace HP := Lib.hid (HP.out.below hb)); (try replace HQ := Lib.hid (HQ.out.below hb)); (try replace HD := Lib.hid (HD.out.below hb)); (try replace HR := Lib.hid (HR.out.below hb)); (try replace Nm1 := Lib.hid (Nm1.out.below hb)); (try replace Na1 := Lib.hid (Na1.out.below hb)); (try replace Nn1 := Lib.hid (Nn1.out.below hb)); (try replace Nn2 := Lib.hid (Nn2.out.below hb)); rw [ES.out]; have hS := And.intro trivial (And.intro (cell_below hHeld.1 hb) (And.intro (cell_below hHeld.2.1 hb) (And.intro (cell_below hHeld.2.2.1 hb) (And.intro (cell_below hHeld.2.2.2.1 hb) (And.intro (cell_below hHeld.2.2.2.2.1 hb) (And.intro (cell_below hHeld.2.2.2.2.2.1 hb) (And.intro (cell_below hHeld.2.2.2.2.2.2.1 hb) (And.intro (cell_below hHeld.2.2.2.2.2.2.2.1 hb) (bel_on hHeld.2.2.2.2.2.2.2.2 hb))))))))); clear hb hHeld)); (refine hK.out _ _ ?_ (fun hHeld => ?_)); ((try dsimp only); ((try simp only [cell_drew, slot_drew, below_drew]); refine ⟨?_, ?_, ?_, ?_, ?_, ?_, ?_, ?_, ?_⟩; (first | exact hS.2.1 | with_reducible exact cell_set hHeld.1 (by omega) | with_reducible exact cell_set (cell_set hHeld.1 (by omega)) (by omega)); (first | exact hS.2.2.1 | with_reducible exact cell_set hHeld.2.1 (by omega) | with_reducible exact cell_set (cell_set hHeld.2.1 (by omega)) (by omega)); (first | exact hS.2.2.2.1 | with_reducible exact cell_set hHeld.2.2.1 (by omega) | with_reducible exact cell_set (cell_set hHeld.2.2.1 (by omega)) (by omega)); (first | exact hS.2.2.2.2.1 | with_reducible exact cell_set hHeld.2.2.2.1 (by omega) | with_reducible exact cell_set (cell_set hHeld.2.2.2.1 (by omega)) (by omega)); (first | exact hS.2.2.2.2.2.1 | with_reducible exact cell_set hHeld.2.2.2.2.1 (by omega) | with_reducible exact cell_set (cell_set hHeld.2.2.2.2.1 (by omega)) (by omega)); (first | exact hS.2.2.2.2.2.2.1 | with_reducible exact cell_set hHeld.2.2.2.2.2.1 (by omega) | with_reducible exact cell_set (cell_set hHeld.2.2.2.2.2.1 (by omega)) (by omega)); (first | exact hS.2.2.2.2.2.2.2.1 | with_reducible exact cell_set hHeld.2.2.2.2.2.2.1 (by omega) | with_reducible exact cell_set (cell_set hHeld.2.2.2.2.2.2.1 (by omega)) (by omega)); (first | exact hS.2.2.2.2.2.2.2.2.1 | with_reducible exact cell_set hHeld.2.2.2.2.2.2.2.1 (by omega) | with_reducible exact cell_set (cell_set hHeld.2.2.2.2.2.2.2.1 (by omega)) (by omega)); (first | exact hS.2.2.2.2.2.2.2.2.2 | with_reducible exact bel_set1 hHeld.2.2.2.2.2.2.2.2 (by omega) | with_reducible exact bel_set2 hHeld.2.2.2.2.2.2.2.2 (by omega) (by omega)))); clear hK K; (try clear hS); (try clear hfx0 hx0 x0); (try clear hfy0 hy0 y0); (try clear hfx1 hx1 x1); (try clear hfy1 hy1 y1); (try dsimp only at hHeld))))
      refine wpSched_nil ?_
      have HE := Lib.hid hHeld.2.2.2.2.2.2.2.2
      clear hHeld
      go_wp2_with fail
      go_ret
      exact ⟨rfl, HE.out⟩

end Go.Proofs.YtpchnejdbmoicaaDoor
