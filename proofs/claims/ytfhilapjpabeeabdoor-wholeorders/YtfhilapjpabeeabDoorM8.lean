/- The law WholeOrders. -/
import Derived.Test.YtfhilapjpabeeabDoorI4
import Derived.Test.YtfhilapjpabeeabDoorI7
namespace Go.Proofs.YtfhilapjpabeeabDoor
open Go.RowKit Cin

theorem cmpZ_add (x y z : Int) : cmpZ (x + z) (y + z) = cmpZ x y := by unfold cmpZ; split <;> split <;> (try split) <;> (try split) <;> omega
theorem cmpZ_swap (x y : Int) : cmpZ y x = -cmpZ x y := by unfold cmpZ; split <;> split <;> (try split) <;> omega
theorem cmpZ_mul (x y z : Int) : cmpZ (x * z) (y * z) = cmpZ x y * sgnZ z := by
  rcases Int.lt_trichotomy z 0 with hz | hz | hz
  · rw [show sgnZ z = -1 by unfold sgnZ; rw [if_pos hz]]
    rcases Int.lt_trichotomy x y with h | h | h
    · have := Int.mul_lt_mul_of_neg_right h hz
      unfold cmpZ; rw [if_neg (by omega), if_pos (by omega), if_pos h]; rfl
    · subst h; unfold cmpZ; simp
    · have := Int.mul_lt_mul_of_neg_right h hz
      unfold cmpZ; rw [if_pos (by omega), if_neg (by omega), if_pos h]; rfl
  · subst hz; unfold cmpZ sgnZ; simp
  · rw [show sgnZ z = 1 by unfold sgnZ; rw [if_neg (by omega), if_pos hz]]
    rcases Int.lt_trichotomy x y with h | h | h
    · have := Int.mul_lt_mul_of_pos_right h hz
      unfold cmpZ; rw [if_pos (by omega), if_pos h]; rfl
    · subst h; unfold cmpZ; simp
    · have := Int.mul_lt_mul_of_pos_right h hz
      unfold cmpZ; rw [if_neg (by omega), if_pos (by omega), if_neg (by omega), if_pos h]; rfl
theorem cmpZ_in (x y : Int) : cmpZ x y = -1 ∨ cmpZ x y = 0 ∨ cmpZ x y = 1 := by unfold cmpZ; split; exact .inl rfl; split; exact .inr (.inr rfl); exact .inr (.inl rfl)
theorem sgnZ_in (x : Int) : sgnZ x = -1 ∨ sgnZ x = 0 ∨ sgnZ x = 1 := by unfold sgnZ; split; exact .inl rfl; split; exact .inr (.inr rfl); exact .inr (.inl rfl)
theorem orders_eq (x y z : Int) : ∃ K S T N : Int, cmpZ x y = K ∧ sgnZ z = S ∧ IntKind.i64.wrap (K * S) = T ∧ IntKind.i64.wrap (-K) = N ∧ cmpZ (x + z) (y + z) = K ∧ cmpZ (x * z) (y * z) = T ∧ cmpZ y x = N := by
  refine ⟨cmpZ x y, sgnZ z, cmpZ x y * sgnZ z, -cmpZ x y, rfl, rfl, ?_, ?_, cmpZ_add x y z, cmpZ_mul x y z, cmpZ_swap x y⟩
  · rcases cmpZ_in x y with h | h | h <;> rcases sgnZ_in z with h2 | h2 | h2 <;> rw [h, h2] <;> rfl
  · rcases cmpZ_in x y with h | h | h <;> rw [h] <;> rfl

set_option maxRecDepth 100000 in
set_option maxHeartbeats 8000000 in
/-- The law holds of every three texts. -/
theorem wholeOrders_any (a b c : ByteArray) (w : World) :
    Calls Tryd.prog 8 #[.string a, .string b, .string c] w fun e w' => e = .returned (.bool true) ∧ Below w.heap.size w w' := by
  go_enter Tryd.func8, Tryd.ntmps8
  go_wp2_with fail
  refine (num_uni a _).mono ?_
  rintro e w1 ⟨ok1, b1, ad1, l1, c1, d1, ae1, m1, e1, rfl, hI1, hb1⟩
  have hbA1 := bel_alloc2 w1 (Obj.cells #[Value.bool b1, Value.slice ad1 l1 c1] 26) (Obj.cells #[Value.bool d1, Value.slice ae1 m1 e1] 29)
  have HB1 := Lib.hid (bel_on hb1 hbA1)
  have HI1 := Lib.hid (show ok1 = true → IntB 80 ((w1.alloc (Obj.cells #[Value.bool b1, Value.slice ad1 l1 c1] 26)).alloc (Obj.cells #[Value.bool d1, Value.slice ae1 m1 e1] 29)) (.agg #[.bool b1, .slice ad1 l1 c1]) (intVal a) 21 from fun h => (hI1.out h).1.below hbA1)
  have HC1 := Lib.hid (cell_pair (heldN2 (w := w1) (c0 := #[Value.bool b1, Value.slice ad1 l1 c1]) (t0 := 26) (c1 := #[Value.bool d1, Value.slice ae1 m1 e1]) (t1 := 29)).1)
  have hs1 := hb1.size
  clear hI1 hb1 hbA1
  go_wp2_with fail
  refine (num_uni b _).mono ?_
  rintro e w2 ⟨ok2, b2, ad2, l2, c2, d2, ae2, m2, e2, rfl, hI2, hb2⟩
  have hbA2 := bel_alloc2 w2 (Obj.cells #[Value.bool b2, Value.slice ad2 l2 c2] 26) (Obj.cells #[Value.bool d2, Value.slice ae2 m2 e2] 29)
  have HB2 := Lib.hid (bel_on (bel_on HB1.out hb2) hbA2)
  have HI2 := Lib.hid (show ok2 = true → IntB 80 ((w2.alloc (Obj.cells #[Value.bool b2, Value.slice ad2 l2 c2] 26)).alloc (Obj.cells #[Value.bool d2, Value.slice ae2 m2 e2] 29)) (.agg #[.bool b2, .slice ad2 l2 c2]) (intVal b) 21 from fun h => (hI2.out h).1.below hbA2)
  have HC2 := Lib.hid (cell_pair (heldN2 (w := w2) (c0 := #[Value.bool b2, Value.slice ad2 l2 c2]) (t0 := 26) (c1 := #[Value.bool d2, Value.slice ae2 m2 e2]) (t1 := 29)).1)
  have hs2 := hb2.size
  replace HI1 := Lib.hid (fun h => ((HI1.out h).below hb2).below hbA2)
  replace HC1 := Lib.hid (And.intro (cell_below (cell_below HC1.out.1 hb2) hbA2) (cell_below (cell_below HC1.out.2 hb2) hbA2))
  clear hI2 hb2 hbA2
  go_wp2_with fail
  refine (num_uni c _).mono ?_
  rintro e w3 ⟨ok3, b3, ad3, l3, c3, d3, ae3, m3, e3, rfl, hI3, hb3⟩
  have hbA3 := bel_alloc2 w3 (Obj.cells #[Value.bool b3, Value.slice ad3 l3 c3] 26) (Obj.cells #[Value.bool d3, Value.slice ae3 m3 e3] 29)
  have HB3 := Lib.hid (bel_on (bel_on HB2.out hb3) hbA3)
  have HI3 := Lib.hid (show ok3 = true → IntB 80 ((w3.alloc (Obj.cells #[Value.bool b3, Value.slice ad3 l3 c3] 26)).alloc (Obj.cells #[Value.bool d3, Value.slice ae3 m3 e3] 29)) (.agg #[.bool b3, .slice ad3 l3 c3]) (intVal c) 21 from fun h => (hI3.out h).1.below hbA3)
  have HC3 := Lib.hid (cell_pair (heldN2 (w := w3) (c0 := #[Value.bool b3, Value.slice ad3 l3 c3]) (t0 := 26) (c1 := #[Value.bool d3, Value.slice ae3 m3 e3]) (t1 := 29)).1)
  have hs3 := hb3.size
  replace HI1 := Lib.hid (fun h => ((HI1.out h).below hb3).below hbA3)
  replace HC1 := Lib.hid (And.intro (cell_below (cell_below HC1.out.1 hb3) hbA3) (cell_below (cell_below HC1.out.2 hb3) hbA3))
  replace HI2 := Lib.hid (fun h => ((HI2.out h).below hb3).below hbA3)
  replace HC2 := Lib.hid (And.intro (cell_below (cell_below HC2.out.1 hb3) hbA3) (cell_below (cell_below HC2.out.2 hb3) hbA3))
  clear hI3 hb3 hbA3
  cases ok1
  · go_wp2_with fail
    refine (alive2_any _).mono ?_
    rintro e w4 ⟨rfl, hb4⟩
    have HB4 := Lib.hid (bel_on HB3.out hb4)
    clear hb4
    go_wp2
    go_ret
    exact ⟨rfl, HB4.out⟩
  · cases ok2
    · go_wp2_with fail
      refine (alive2_any _).mono ?_
      rintro e w4 ⟨rfl, hb4⟩
      have HB4 := Lib.hid (bel_on HB3.out hb4)
      clear hb4
      go_wp2
      go_ret
      exact ⟨rfl, HB4.out⟩
    · cases ok3
      · go_wp2_with fail
        refine (alive2_any _).mono ?_
        rintro e w4 ⟨rfl, hb4⟩
        have HB4 := Lib.hid (bel_on HB3.out hb4)
        clear hb4
        go_wp2
        go_ret
        exact ⟨rfl, HB4.out⟩
      · have HP := Lib.hid (HI1.out rfl)
        have HQ := Lib.hid (HI2.out rfl)
        have HR := Lib.hid (HI3.out rfl)
        have hp0 := HC1.out.1
        have hp1 := HC1.out.2
        have hq0 := HC2.out.1
        have hq1 := HC2.out.2
        have hr0 := HC3.out.1
        have hr1 := HC3.out.2
        clear HI1 HI2 HI3 HC1 HC2 HC3
        go_wp2_with fail
        generalize (w3.alloc (Obj.cells #[Value.bool b3, Value.slice ad3 l3 c3] 26)).alloc (Obj.cells #[Value.bool d3, Value.slice ae3 m3 e3] 29) = X at *
        refine (alive2_any _).mono ?_
        rintro e w4 ⟨rfl, hb4⟩
        replace HP := Lib.hid (HP.out.below hb4)
        replace HQ := Lib.hid (HQ.out.below hb4)
        replace HR := Lib.hid (HR.out.below hb4)
        replace hp0 := cell_below hp0 hb4
        replace hp1 := cell_below hp1 hb4
        replace hq0 := cell_below hq0 hb4
        replace hq1 := cell_below hq1 hb4
        replace hr0 := cell_below hr0 hb4
        replace hr1 := cell_below hr1 hb4
        have HB4 := Lib.hid (bel_on HB3.out hb4)
        clear hb4
        generalize intVal a = x at *
        generalize intVal b = y at *
        generalize intVal c = z at *
        go_wp2_with fail
        obtain ⟨K, S, T, N, e0, e4, hT, hN, e1, e2, e3⟩ := orders_eq x y z
        refine (icmp_any (.agg #[.bool b1, .slice ad1 l1 c1]) (.agg #[.bool b2, .slice ad2 l2 c2]) x y 21 21 _ HP.out HQ.out (by decide) (by decide)).mono ?_
        rintro e w5 ⟨rfl, hb5⟩
        rw [e0]
        clear e0
        replace HP := Lib.hid (HP.out.below hb5)
        replace HQ := Lib.hid (HQ.out.below hb5)
        replace HR := Lib.hid (HR.out.below hb5)
        replace hp0 := cell_below hp0 hb5
        replace hp1 := cell_below hp1 hb5
        replace hq0 := cell_below hq0 hb5
        replace hq1 := cell_below hq1 hb5
        replace hr0 := cell_below hr0 hb5
        replace hr1 := cell_below hr1 hb5
        replace HB4 := Lib.hid (bel_on HB4.out hb5)
        clear hb5
        go_wp2_with fail
        replace HP := Lib.hid (HP.out.below (Below.refl _ w5).drew)
        replace HQ := Lib.hid (HQ.out.below (Below.refl _ w5).drew)
        replace HR := Lib.hid (HR.out.below (Below.refl _ w5).drew)
        refine wp_region_sched (fun w' => w'.cell? ⟨w1.heap.size, 0, none⟩ = some (.bool b1) ∧ w'.cell? ⟨w1.heap.size, 1, none⟩ = some (.slice ad1 l1 c1) ∧ w'.cell? ⟨w2.heap.size, 0, none⟩ = some (.bool b2) ∧ w'.cell? ⟨w2.heap.size, 1, none⟩ = some (.slice ad2 l2 c2) ∧ w'.cell? ⟨w3.heap.size, 0, none⟩ = some (.bool b3) ∧ w'.cell? ⟨w3.heap.size, 1, none⟩ = some (.slice ad3 l3 c3) ∧ Below w.heap.size w w') [(0, true), (1, true), (3, true), (4, true), (7, true), (2, false), (5, false), (6, false), (8, true), (9, true), (10, true), (11, true), (13, true), (14, true), (17, true), (18, true), (12, false), (15, false), (16, false), (19, false), (20, true), (21, true), (22, true), (23, true), (24, true), (25, true), (27, true), (28, true), (26, false), (29, true), (30, true), (31, true)] (by kernel_rfl) (by kernel_rfl) ?_ (fun hHeld => ?_)
        · (try dsimp only)
          exact ⟨hp0, hp1, hq0, hq1, hr0, hr1, HB4.out.drew⟩
        try dsimp only at hHeld
        repeat (refine wpSched_at (by simp only [List.getElem?_toArray, List.getElem?_cons_zero, List.getElem?_cons_succ]; rfl) ?_; (first | (apply wpAt_take rfl; (intro wx hSx; (try dsimp only at hSx); go_simp; (try with_reducible rfl)); simp only [Act.put, List.setIfInBounds_toArray, List.set_cons_zero, List.set_cons_succ]) | (refine wpAt_skip rfl ?_; simp only [Act.put, List.setIfInBounds_toArray, List.set_cons_zero, List.set_cons_succ]) | (refine wpAt_pass rfl hHeld ?_; simp only [Act.put, List.setIfInBounds_toArray, List.set_cons_zero, List.set_cons_succ]) | (refine wpAt_eff rfl (fun K hK => ?_); (skip); go_simp; (first | (go_at_call 27; (with_reducible refine (iadd_any (.agg #[.bool b1, .slice ad1 l1 c1]) (.agg #[.bool b3, .slice ad3 l3 c3]) x z 21 21 _ ?_ ?_ (by decide) (by decide)).mono ?_); (exact HP.out); (exact HR.out); rintro e w' ⟨va1, rfl, hn, hb⟩; (try replace HP := Lib.hid (HP.out.below hb)); (try replace HQ := Lib.hid (HQ.out.below hb)); (try replace HR := Lib.hid (HR.out.below hb)); (try replace Na1 := Lib.hid (Na1.out.below hb)); (try replace Na2 := Lib.hid (Na2.out.below hb)); (try replace Nm1 := Lib.hid (Nm1.out.below hb)); (try replace Nm2 := Lib.hid (Nm2.out.below hb)); have Na1 := Lib.hid hn; have hS := And.intro trivial (And.intro (cell_below hHeld.1 hb) (And.intro (cell_below hHeld.2.1 hb) (And.intro (cell_below hHeld.2.2.1 hb) (And.intro (cell_below hHeld.2.2.2.1 hb) (And.intro (cell_below hHeld.2.2.2.2.1 hb) (And.intro (cell_below hHeld.2.2.2.2.2.1 hb) (bel_on hHeld.2.2.2.2.2.2 hb))))))); clear hb hHeld hn) | (go_at_call 27; (with_reducible refine (iadd_any (.agg #[.bool b2, .slice ad2 l2 c2]) (.agg #[.bool b3, .slice ad3 l3 c3]) y z 21 21 _ ?_ ?_ (by decide) (by decide)).mono ?_); (exact HQ.out); (exact HR.out); rintro e w' ⟨va2, rfl, hn, hb⟩; (try replace HP := Lib.hid (HP.out.below hb)); (try replace HQ := Lib.hid (HQ.out.below hb)); (try replace HR := Lib.hid (HR.out.below hb)); (try replace Na1 := Lib.hid (Na1.out.below hb)); (try replace Na2 := Lib.hid (Na2.out.below hb)); (try replace Nm1 := Lib.hid (Nm1.out.below hb)); (try replace Nm2 := Lib.hid (Nm2.out.below hb)); have Na2 := Lib.hid hn; have hS := And.intro trivial (And.intro (cell_below hHeld.1 hb) (And.intro (cell_below hHeld.2.1 hb) (And.intro (cell_below hHeld.2.2.1 hb) (And.intro (cell_below hHeld.2.2.2.1 hb) (And.intro (cell_below hHeld.2.2.2.2.1 hb) (And.intro (cell_below hHeld.2.2.2.2.2.1 hb) (bel_on hHeld.2.2.2.2.2.2 hb))))))); clear hb hHeld hn) | (go_at_call 25; (with_reducible refine (icmp_any va1 va2 (x + z) (y + z) (21 + 21 + 1) (21 + 21 + 1) _ ?_ ?_ (by decide) (by decide)).mono ?_); (exact Na1.out); (exact Na2.out); rintro e w' ⟨rfl, hb⟩; (try replace HP := Lib.hid (HP.out.below hb)); (try replace HQ := Lib.hid (HQ.out.below hb)); (try replace HR := Lib.hid (HR.out.below hb)); (try replace Na1 := Lib.hid (Na1.out.below hb)); (try replace Na2 := Lib.hid (Na2.out.below hb)); (try replace Nm1 := Lib.hid (Nm1.out.below hb)); (try replace Nm2 := Lib.hid (Nm2.out.below hb)); rw [e1]; have hS := And.intro trivial (And.intro (cell_below hHeld.1 hb) (And.intro (cell_below hHeld.2.1 hb) (And.intro (cell_below hHeld.2.2.1 hb) (And.intro (cell_below hHeld.2.2.2.1 hb) (And.intro (cell_below hHeld.2.2.2.2.1 hb) (And.intro (cell_below hHeld.2.2.2.2.2.1 hb) (bel_on hHeld.2.2.2.2.2.2 hb))))))); clear hb hHeld) | (go_at_call 26; (with_reducible refine (imul_any (.agg #[.bool b1, .slice ad1 l1 c1]) (.agg #[.bool b3, .slice ad3 l3 c3]) x z 21 21 _ ?_ ?_ (by decide) (by decide)).mono ?_); (exact HP.out); (exact HR.out); rintro e w' ⟨vm1, rfl, hn, hb⟩; (try replace HP := Lib.hid (HP.out.below hb)); (try replace HQ := Lib.hid (HQ.out.below hb)); (try replace HR := Lib.hid (HR.out.below hb)); (try replace Na1 := Lib.hid (Na1.out.below hb)); (try replace Na2 := Lib.hid (Na2.out.below hb)); (try replace Nm1 := Lib.hid (Nm1.out.below hb)); (try replace Nm2 := Lib.hid (Nm2.out.below hb)); have Nm1 := Lib.hid hn; have hS := And.intro trivial (And.intro (cell_below hHeld.1 hb) (And.intro (cell_below hHeld.2.1 hb) (And.intro (cell_below hHeld.2.2.1 hb) (And.intro (cell_below hHeld.2.2.2.1 hb) (And.intro (cell_below hHeld.2.2.2.2.1 hb) (And.intro (cell_below hHeld.2.2.2.2.2.1 hb) (bel_on hHeld.2.2.2.2.2.2 hb))))))); clear hb hHeld hn) | (go_at_call 26; (with_reducible refine (imul_any (.agg #[.bool b2, .slice ad2 l2 c2]) (.agg #[.bool b3, .slice ad3 l3 c3]) y z 21 21 _ ?_ ?_ (by decide) (by decide)).mono ?_); (exact HQ.out); (exact HR.out); rintro e w' ⟨vm2, rfl, hn, hb⟩; (try replace HP := Lib.hid (HP.out.below hb)); (try replace HQ := Lib.hid (HQ.out.below hb)); (try replace HR := Lib.hid (HR.out.below hb)); (try replace Na1 := Lib.hid (Na1.out.below hb)); (try replace Na2 := Lib.hid (Na2.out.below hb)); (try replace Nm1 := Lib.hid (Nm1.out.below hb)); (try replace Nm2 := Lib.hid (Nm2.out.below hb)); have Nm2 := Lib.hid hn; have hS := And.intro trivial (And.intro (cell_below hHeld.1 hb) (And.intro (cell_below hHeld.2.1 hb) (And.intro (cell_below hHeld.2.2.1 hb) (And.intro (cell_below hHeld.2.2.2.1 hb) (And.intro (cell_below hHeld.2.2.2.2.1 hb) (And.intro (cell_below hHeld.2.2.2.2.2.1 hb) (bel_on hHeld.2.2.2.2.2.2 hb))))))); clear hb hHeld hn) | (go_at_call 25; (with_reducible refine (icmp_any vm1 vm2 (x * z) (y * z) (21 + 21) (21 + 21) _ ?_ ?_ (by decide) (by decide)).mono ?_); (exact Nm1.out); (exact Nm2.out); rintro e w' ⟨rfl, hb⟩; (try replace HP := Lib.hid (HP.out.below hb)); (try replace HQ := Lib.hid (HQ.out.below hb)); (try replace HR := Lib.hid (HR.out.below hb)); (try replace Na1 := Lib.hid (Na1.out.below hb)); (try replace Na2 := Lib.hid (Na2.out.below hb)); (try replace Nm1 := Lib.hid (Nm1.out.below hb)); (try replace Nm2 := Lib.hid (Nm2.out.below hb)); rw [e2]; have hS := And.intro trivial (And.intro (cell_below hHeld.1 hb) (And.intro (cell_below hHeld.2.1 hb) (And.intro (cell_below hHeld.2.2.1 hb) (And.intro (cell_below hHeld.2.2.2.1 hb) (And.intro (cell_below hHeld.2.2.2.2.1 hb) (And.intro (cell_below hHeld.2.2.2.2.2.1 hb) (bel_on hHeld.2.2.2.2.2.2 hb))))))); clear hb hHeld) | (go_at_call 24; (with_reducible refine (sign_any (.agg #[.bool b3, .slice ad3 l3 c3]) z 21 _ ?_ (by decide)).mono ?_); (exact HR.out); rintro e w' ⟨rfl, hb⟩; (try replace HP := Lib.hid (HP.out.below hb)); (try replace HQ := Lib.hid (HQ.out.below hb)); (try replace HR := Lib.hid (HR.out.below hb)); (try replace Na1 := Lib.hid (Na1.out.below hb)); (try replace Na2 := Lib.hid (Na2.out.below hb)); (try replace Nm1 := Lib.hid (Nm1.out.below hb)); (try replace Nm2 := Lib.hid (Nm2.out.below hb)); rw [e4]; have hS := And.intro trivial (And.intro (cell_below hHeld.1 hb) (And.intro (cell_below hHeld.2.1 hb) (And.intro (cell_below hHeld.2.2.1 hb) (And.intro (cell_below hHeld.2.2.2.1 hb) (And.intro (cell_below hHeld.2.2.2.2.1 hb) (And.intro (cell_below hHeld.2.2.2.2.2.1 hb) (bel_on hHeld.2.2.2.2.2.2 hb))))))); clear hb hHeld) | (go_at_call 25; (with_reducible refine (icmp_any (.agg #[.bool b2, .slice ad2 l2 c2]) (.agg #[.bool b1, .slice ad1 l1 c1]) y x 21 21 _ ?_ ?_ (by decide) (by decide)).mono ?_); (exact HQ.out); (exact HP.out); rintro e w' ⟨rfl, hb⟩; (try replace HP := Lib.hid (HP.out.below hb)); (try replace HQ := Lib.hid (HQ.out.below hb)); (try replace HR := Lib.hid (HR.out.below hb)); (try replace Na1 := Lib.hid (Na1.out.below hb)); (try replace Na2 := Lib.hid (Na2.out.below hb)); (try replace Nm1 := Lib.hid (Nm1.out.below hb)); (try replace Nm2 := Lib.hid (Nm2.out.below hb)); rw [e3]; have hS := And.intro trivial (And.intro (cell_below hHeld.1 hb) (And.intro (cell_below hHeld.2.1 hb) (And.intro (cell_below hHeld.2.2.1 hb) (And.intro (cell_below hHeld.2.2.2.1 hb) (And.intro (cell_below hHeld.2.2.2.2.1 hb) (And.intro (cell_below hHeld.2.2.2.2.2.1 hb) (bel_on hHeld.2.2.2.2.2.2 hb))))))); clear hb hHeld)); (refine hK.out _ _ ?_ (fun hHeld => ?_)); ((try dsimp only); ((try simp only [cell_drew, slot_drew, below_drew]); refine ⟨?_, ?_, ?_, ?_, ?_, ?_, ?_⟩; (first | exact hS.2.1 | with_reducible exact cell_set hHeld.1 (by omega) | with_reducible exact cell_set (cell_set hHeld.1 (by omega)) (by omega)); (first | exact hS.2.2.1 | with_reducible exact cell_set hHeld.2.1 (by omega) | with_reducible exact cell_set (cell_set hHeld.2.1 (by omega)) (by omega)); (first | exact hS.2.2.2.1 | with_reducible exact cell_set hHeld.2.2.1 (by omega) | with_reducible exact cell_set (cell_set hHeld.2.2.1 (by omega)) (by omega)); (first | exact hS.2.2.2.2.1 | with_reducible exact cell_set hHeld.2.2.2.1 (by omega) | with_reducible exact cell_set (cell_set hHeld.2.2.2.1 (by omega)) (by omega)); (first | exact hS.2.2.2.2.2.1 | with_reducible exact cell_set hHeld.2.2.2.2.1 (by omega) | with_reducible exact cell_set (cell_set hHeld.2.2.2.2.1 (by omega)) (by omega)); (first | exact hS.2.2.2.2.2.2.1 | with_reducible exact cell_set hHeld.2.2.2.2.2.1 (by omega) | with_reducible exact cell_set (cell_set hHeld.2.2.2.2.2.1 (by omega)) (by omega)); (first | exact hS.2.2.2.2.2.2.2 | with_reducible exact bel_set1 hHeld.2.2.2.2.2.2 (by omega) | with_reducible exact bel_set2 hHeld.2.2.2.2.2.2 (by omega) (by omega)))); clear hK K; (try clear hS); (try clear hfx0 hx0 x0); (try clear hfy0 hy0 y0); (try clear hfx1 hx1 x1); (try clear hfy1 hy1 y1); (try dsimp only at hHeld))))
        refine wpSched_nil ?_
        have HE := Lib.hid hHeld.2.2.2.2.2.2
        clear hHeld
        go_wp2_with fail
        go_ret
        exact ⟨rfl, HE.out⟩

end Go.Proofs.YtfhilapjpabeeabDoor
