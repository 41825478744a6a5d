/- The law WholeTells. -/
import Derived.Test.YtfhilapjpabeeaaDoorI4
import Derived.Test.YtfhilapjpabeeaaDoorI7
import Derived.Test.YtfhilapjpabeeaaDoorJ1
namespace Go.Proofs.YtfhilapjpabeeaaDoor
open Go.RowKit Cin

theorem minus_tl {s : ByteArray} (h : negT s = true) : (⟨#[45]⟩ : ByteArray) ++ tl s = s := by
  obtain ⟨⟨l⟩⟩ := s
  cases l with
  | nil => unfold negT at h; simp [byts] at h; exact absurd h.2 (by decide)
  | cons x l =>
    have hx : lim (byts ⟨⟨x :: l⟩⟩) 0 = x.toNat := rfl
    unfold negT at h
    rw [hx] at h
    simp only [Bool.and_eq_true, decide_eq_true_eq] at h
    have e : x = 45 := UInt8.toNat_inj.1 h.2
    subst e
    apply ByteArray.ext
    apply Array.toList_inj.1
    simp [tl, ByteArray.data_extract]
    exact List.take_of_length_le (by show l.length ≤ l.length + 1 - 1; omega)
/-- A whole number's text is the text that it was read from. -/
theorem intS_intVal {s : ByteArray} (h : IsInt s) : intS (intVal s) = s := by
  have hd := decS_decL h.1
  by_cases hn : negT s = true
  · have h0 := h.2 hn
    have hz : intVal s < 0 := by unfold intVal sg; rw [hn, if_pos rfl]; omega
    rw [intS_neg hz]
    have e : (intVal s).natAbs = decL (byts (digT s)) := by unfold intVal; rw [sg_natAbs]
    rw [e, hd]
    unfold digT
    rw [if_pos hn]
    exact minus_tl hn
  · have hn' : negT s = false := by simpa using hn
    have hz : ¬ intVal s < 0 := by unfold intVal sg; rw [hn', if_neg (by simp)]; omega
    rw [intS_pos hz]
    have e : (intVal s).natAbs = decL (byts (digT s)) := by unfold intVal; rw [sg_natAbs]
    rw [e, hd]
    unfold digT
    rw [if_neg hn]

set_option maxRecDepth 100000 in
set_option maxHeartbeats 8000000 in
/-- The law holds of every text. -/
theorem wholeTells_any (s : ByteArray) (w : World) (hT : Tabs w) :
    Calls Tryd.prog 13 #[.string s] w fun e w' => e = .returned (.bool true) ∧ Below w.heap.size w w' := by
  have HTT := Lib.hid hT
  clear hT
  by_cases hsz : 5000 < s.size
  · have hd : decide ((5000 : Int) < (s.size : Int)) = true := by rw [decide_eq_true_iff]; omega
    go_enter Tryd.func13, Tryd.ntmps13
    go_wp2_with fail
    refine (alive2_any _).mono ?_
    rintro e w1 ⟨rfl, hb1⟩
    have HB1 := Lib.hid hb1
    clear hb1
    go_wp2_with fail
    go_ret
    exact ⟨rfl, HB1.out⟩
  · have hd : decide ((5000 : Int) < (s.size : Int)) = false := by rw [decide_eq_false_iff_not]; omega
    go_enter Tryd.func13, Tryd.ntmps13
    go_wp2_with fail
    refine (alive2_any _).mono ?_
    rintro e w1 ⟨rfl, hb1⟩
    have HB1 := Lib.hid hb1
    clear hb1
    go_wp2_with fail
    refine (iparse_any s _).mono ?_
    rintro e w2 (⟨hok, v2, rfl, hv2, hb2⟩ | ⟨hno, rfl, hb2⟩)
    · obtain ⟨b2, ad2, l2, c2, rfl, hs2⟩ := hv2.shape2
      have hbA := bel_alloc w2 (Obj.cells #[Value.bool b2, Value.slice ad2 l2 c2] 61)
      have HV := Lib.hid (hv2.below hbA)
      have HB2 := Lib.hid (bel_on (bel_on HB1.out hb2) hbA)
      obtain ⟨hc0, hc1⟩ := cell_pair (heldN1 (w := w2) (c0 := #[Value.bool b2, Value.slice ad2 l2 c2]) (t0 := 61)).1
      have HOK := Lib.hid hok
      clear hv2 hb2 hbA hs2 hok HB1
      go_wp2_with fail
      generalize w2.alloc (Obj.cells #[Value.bool b2, Value.slice ad2 l2 c2] 61) = X at *
      refine (rparse_any s _).mono ?_
      rintro e w3 (⟨_, v3, rfl, hv3, hb3⟩ | ⟨hno, rfl, hb3⟩)
      · obtain ⟨b3, ad3, l3, c3, rfl, hs3⟩ := hv3.shape2
        have hbA := bel_alloc w3 (Obj.cells #[Value.bool b3, Value.slice ad3 l3 c3] 65)
        have HX := Lib.hid (hv3.below hbA)
        replace HV := Lib.hid ((HV.out.below hb3).below hbA)
        have HB3 := Lib.hid (bel_on (bel_on HB2.out hb3) hbA)
        obtain ⟨hd0, hd1⟩ := cell_pair (heldN1 (w := w3) (c0 := #[Value.bool b3, Value.slice ad3 l3 c3]) (t0 := 65)).1
        replace hc0 := cell_below (cell_below hc0 hb3) hbA
        replace hc1 := cell_below (cell_below hc1 hb3) hbA
        clear hv3 hb3 hbA hs3
        have eT : intS (intVal s) = s := intS_intVal HOK.out
        go_wp2_with fail
        generalize w3.alloc (Obj.cells #[Value.bool b3, Value.slice ad3 l3 c3] 65) = Y at *
        generalize intVal s = z at *
        obtain ⟨S, eS⟩ : ∃ S : Int, sgnZ z = S := ⟨_, rfl⟩
        replace HV := Lib.hid (HV.out.below (Below.refl _ Y).drew)
        replace HX := Lib.hid (HX.out.below (Below.refl _ Y).drew)
        refine wp_region_sched (fun w' => w'.cell? ⟨w2.heap.size, 0, none⟩ = some (.bool b2) ∧ w'.cell? ⟨w2.heap.size, 1, none⟩ = some (.slice ad2 l2 c2) ∧ w'.cell? ⟨w3.heap.size, 0, none⟩ = some (.bool b3) ∧ w'.cell? ⟨w3.heap.size, 1, none⟩ = some (.slice ad3 l3 c3) ∧ Below w.heap.size w w') [(0, true), (1, true), (2, true), (3, true), (5, true), (4, false), (6, true), (7, true), (8, true), (9, true), (11, true), (10, false), (12, false), (13, true), (14, true), (15, true), (16, true), (19, true), (20, true), (17, false), (18, false), (21, false), (22, true), (23, true), (24, true)] (by kernel_rfl) (by kernel_rfl) ?_ (fun hHeld => ?_)
        · (try dsimp only)
          exact ⟨hc0, hc1, hd0, hd1, HB3.out.drew⟩
        try dsimp only at hHeld
        repeat (refine wpSched_at (by simp only [List.getElem?_toArray, List.getElem?_cons_zero, List.getElem?_cons_succ]; rfl) ?_; (first | (apply wpAt_take rfl; (intro wx hSx; (try dsimp only at hSx); go_simp; (try with_reducible rfl)); simp only [Act.put, List.setIfInBounds_toArray, List.set_cons_zero, List.set_cons_succ]) | (refine wpAt_skip rfl ?_; simp only [Act.put, List.setIfInBounds_toArray, List.set_cons_zero, List.set_cons_succ]) | (refine wpAt_pass rfl hHeld ?_; simp only [Act.put, List.setIfInBounds_toArray, List.set_cons_zero, List.set_cons_succ]) | (refine wpAt_eff rfl (fun K hK => ?_); (skip); go_simp; (first | (go_at_call 51; (with_reducible refine (itext_any (.agg #[.bool b2, .slice ad2 l2 c2]) z 500 _ ?_ (by decide) ?_).mono ?_); (exact HV.out); (exact HTT.out.below hHeld.2.2.2.2); rintro e w' ⟨rfl, hb⟩; (try replace HV := Lib.hid (HV.out.below hb)); (try replace HX := Lib.hid (HX.out.below hb)); (try replace NA := Lib.hid (NA.out.below hb)); rw [eT]; have hS := And.intro trivial (And.intro (cell_below hHeld.1 hb) (And.intro (cell_below hHeld.2.1 hb) (And.intro (cell_below hHeld.2.2.1 hb) (And.intro (cell_below hHeld.2.2.2.1 hb) (bel_on hHeld.2.2.2.2 hb))))); clear hb hHeld) | (go_at_call 52; (with_reducible refine (sign_any (.agg #[.bool b2, .slice ad2 l2 c2]) z 500 _ ?_ (by decide)).mono ?_); (exact HV.out); rintro e w' ⟨rfl, hb⟩; (try replace HV := Lib.hid (HV.out.below hb)); (try replace HX := Lib.hid (HX.out.below hb)); (try replace NA := Lib.hid (NA.out.below hb)); rw [eS]; have hS := And.intro trivial (And.intro (cell_below hHeld.1 hb) (And.intro (cell_below hHeld.2.1 hb) (And.intro (cell_below hHeld.2.2.1 hb) (And.intro (cell_below hHeld.2.2.2.1 hb) (bel_on hHeld.2.2.2.2 hb))))); clear hb hHeld) | (go_at_call 53; (with_reducible refine (rsign_any (.agg #[.bool b3, .slice ad3 l3 c3]) z 500 _ ?_).mono ?_); (exact HX.out); rintro e w' ⟨rfl, hb⟩; (try replace HV := Lib.hid (HV.out.below hb)); (try replace HX := Lib.hid (HX.out.below hb)); (try replace NA := Lib.hid (NA.out.below hb)); rw [eS]; have hS := And.intro trivial (And.intro (cell_below hHeld.1 hb) (And.intro (cell_below hHeld.2.1 hb) (And.intro (cell_below hHeld.2.2.1 hb) (And.intro (cell_below hHeld.2.2.2.1 hb) (bel_on hHeld.2.2.2.2 hb))))); clear hb hHeld) | (go_at_call 54; (with_reducible refine (abs_any (.agg #[.bool b2, .slice ad2 l2 c2]) z 500 _ ?_ (by decide)).mono ?_); (exact HV.out); rintro e w' ⟨va, rfl, hn, hb⟩; (try replace HV := Lib.hid (HV.out.below hb)); (try replace HX := Lib.hid (HX.out.below hb)); (try replace NA := Lib.hid (NA.out.below hb)); have NA := Lib.hid hn; have hS := And.intro trivial (And.intro (cell_below hHeld.1 hb) (And.intro (cell_below hHeld.2.1 hb) (And.intro (cell_below hHeld.2.2.1 hb) (And.intro (cell_below hHeld.2.2.2.1 hb) (bel_on hHeld.2.2.2.2 hb))))); clear hb hHeld hn) | (go_at_call 18; (with_reducible refine (text_any va z.natAbs 500 _ ?_ (by decide) ?_).mono ?_); (exact NA.out); (exact HTT.out.below hHeld.2.2.2.2); rintro e w' ⟨rfl, hb⟩; (try replace HV := Lib.hid (HV.out.below hb)); (try replace HX := Lib.hid (HX.out.below hb)); (try replace NA := Lib.hid (NA.out.below hb)); have hS := And.intro trivial (And.intro (cell_below hHeld.1 hb) (And.intro (cell_below hHeld.2.1 hb) (And.intro (cell_below hHeld.2.2.1 hb) (And.intro (cell_below hHeld.2.2.2.1 hb) (bel_on hHeld.2.2.2.2 hb))))); clear hb hHeld) | (go_at_call 29; (with_reducible refine (rtextB (.slice ad3 l3 c3) z.natAbs 500 _ ?_ (by decide)).mono ?_); (exact refB_part HX.out); rintro e w' ⟨rfl, hb⟩; (try replace HV := Lib.hid (HV.out.below hb)); (try replace HX := Lib.hid (HX.out.below hb)); (try replace NA := Lib.hid (NA.out.below hb)); have hS := And.intro trivial (And.intro (cell_below hHeld.1 hb) (And.intro (cell_below hHeld.2.1 hb) (And.intro (cell_below hHeld.2.2.1 hb) (And.intro (cell_below hHeld.2.2.2.1 hb) (bel_on hHeld.2.2.2.2 hb))))); clear hb hHeld)); (refine hK.out _ _ ?_ (fun hHeld => ?_)); ((try dsimp only); ((try simp only [cell_drew, slot_drew, below_drew]); refine ⟨?_, ?_, ?_, ?_, ?_⟩; (first | exact hS.2.1 | with_reducible exact cell_set hHeld.1 (by omega) | with_reducible exact cell_set (cell_set hHeld.1 (by omega)) (by omega)); (first | exact hS.2.2.1 | with_reducible exact cell_set hHeld.2.1 (by omega) | with_reducible exact cell_set (cell_set hHeld.2.1 (by omega)) (by omega)); (first | exact hS.2.2.2.1 | with_reducible exact cell_set hHeld.2.2.1 (by omega) | with_reducible exact cell_set (cell_set hHeld.2.2.1 (by omega)) (by omega)); (first | exact hS.2.2.2.2.1 | with_reducible exact cell_set hHeld.2.2.2.1 (by omega) | with_reducible exact cell_set (cell_set hHeld.2.2.2.1 (by omega)) (by omega)); (first | exact hS.2.2.2.2.2 | with_reducible exact bel_set1 hHeld.2.2.2.2 (by omega) | with_reducible exact bel_set2 hHeld.2.2.2.2 (by omega) (by omega)))); clear hK K; (try clear hS); (try clear hfx0 hx0 x0); (try clear hfy0 hy0 y0); (try clear hfx1 hx1 x1); (try clear hfy1 hy1 y1); (try dsimp only at hHeld))))
        refine wpSched_nil ?_
        have HE := Lib.hid hHeld.2.2.2.2
        clear hHeld
        go_wp2_with fail
        go_ret
        exact ⟨rfl, HE.out⟩
      · exact absurd HOK.out hno
    · have hbA := bel_alloc w2 (Obj.cells #[Value.bool false, Value.slice none 0 0] 61)
      have HB2 := Lib.hid (bel_on (bel_on HB1.out hb2) hbA)
      obtain ⟨hc0, hc1⟩ := cell_pair (heldN1 (w := w2) (c0 := #[Value.bool false, Value.slice none 0 0]) (t0 := 61)).1
      have HNO := Lib.hid hno
      clear hb2 hbA hno HB1
      go_wp2_with fail
      generalize w2.alloc (Obj.cells #[Value.bool false, Value.slice none 0 0] 61) = X at *
      refine (rparse_any s _).mono ?_
      rintro e w3 (⟨hok, _⟩ | ⟨_, rfl, hb3⟩)
      · exact absurd hok HNO.out
      · have hbA := bel_alloc w3 (Obj.cells #[Value.bool false, Value.slice none 0 0] 65)
        have HB3 := Lib.hid (bel_on (bel_on HB2.out hb3) hbA)
        replace hc0 := cell_below (cell_below hc0 hb3) hbA
        replace hc1 := cell_below (cell_below hc1 hb3) hbA
        clear hb3 hbA
        go_wp2_with fail
        refine (itext_any _ 0 1 _ (IntB.zero _ _ _) (by decide) (HTT.out.below HB3.out)).mono ?_
        rintro e w4 ⟨rfl, hb4⟩
        rw [show intS 0 = ⟨#[48]⟩ by rw [intS_pos (by decide)]; exact decS_zero]
        have HB4 := Lib.hid (bel_on HB3.out hb4)
        clear hb4
        go_wp2
        go_ret
        exact ⟨rfl, HB4.out⟩

end Go.Proofs.YtfhilapjpabeeaaDoor
