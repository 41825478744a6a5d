/- Contracts of the document's NatParse, whole, and of pair. -/
import Derived.Test.YtpchnejdbmoicaaDoorWT
import Derived.Test.YtpchnejdbmoicaaDoorSched
namespace Go.Proofs.YtpchnejdbmoicaaDoor
open Go.RowKit Cin

set_option maxRecDepth 100000 in
set_option maxHeartbeats 1000000 in
/-- NatParse: the number, or none. -/
theorem refParse_any (s : ByteArray) (w : World) : Calls Tryd.prog 11 #[.string s] w (RefPost s w) := by
  by_cases hin : 1 ≤ s.size ∧ s.size ≤ 4000 ∧ (s.size = 1 ∨ lim (byts s) 0 ≠ 48)
  · exact refParse_in s w hin.1 hin.2.1 hin.2.2
  · have hno : ¬ IsNum (byts s) := fun h => by
      obtain ⟨a1, a2, a3, _⟩ := h
      rw [byts_length] at a1 a2 a3
      exact hin ⟨a1, a2, a3⟩
    have HNO := Lib.hid hno
    clear hno
    by_cases h1 : s.size = 0
    · have hd : ((s.size : Int) == 0) = true := beq_iff_eq.2 (by omega)
      clear hin h1
      go_enter Tryd.func11, Tryd.ntmps11
      go_wp2_with fail
      go_ret2
      exact .inr ⟨HNO.out, rfl, Below.refl _ _⟩
    · have hd : ((s.size : Int) == 0) = false := beq_eq_false_iff_ne.2 (by omega)
      by_cases h2 : 4000 < s.size
      · have hd2 : decide ((4000 : Int) < (s.size : Int)) = true := by rw [decide_eq_true_iff]; omega
        clear hin
        go_enter Tryd.func11, Tryd.ntmps11
        go_wp2_with fail
        go_ret2
        exact .inr ⟨HNO.out, rfl, Below.refl _ _⟩
      · have hd2 : decide ((4000 : Int) < (s.size : Int)) = false := by rw [decide_eq_false_iff_not]; omega
        have h0 : 0 < s.size := by omega
        have hb0 := byts_at s h0
        have h3 : lim (byts s) 0 = 48 ∧ 1 < s.size := by omega
        have hd3 : (((s[0].toNat : Nat) : Int) == 48) = true := by rw [hb0, h3.1]; rfl
        have hd4 : decide ((1 : Int) < (s.size : Int)) = true := by rw [decide_eq_true_iff]; omega
        clear hin hb0 h3
        go_enter Tryd.func11, Tryd.ntmps11
        go_wp2_with fail
        go_ret2
        exact .inr ⟨HNO.out, rfl, Below.refl _ _⟩

/-- What pair takes. -/
def PairOk (a b : ByteArray) : Prop := IsNum (byts a) ∧ IsNum (byts b) ∧ a.size ≤ 200 ∧ b.size ≤ 200
def PairPost (a b : ByteArray) (w : World) (e : Ending) (w' : World) : Prop :=
  (PairOk a b ∧ ∃ p q x y, e = .returned (.tuple #[.agg #[p], .agg #[q], x, y, .bool true]) ∧ RefV 68 w' p (decL (byts a)) ∧ RefV 68 w' q (decL (byts b)) ∧ RefV 68 w' x (decL (byts a)) ∧ RefV 68 w' y (decL (byts b)) ∧ Below w.heap.size w w') ∨
  (¬ PairOk a b ∧ e = .returned (.tuple #[.agg #[.slice none 0 0], .agg #[.slice none 0 0], .slice none 0 0, .slice none 0 0, .bool false]) ∧ Below w.heap.size w w')

set_option maxRecDepth 100000 in
set_option maxHeartbeats 2000000 in
theorem pair_any (a b : ByteArray) (w : World) : Calls Tryd.prog 24 #[.string a, .string b] w (PairPost a b w) := by
  go_enter Tryd.func24, Tryd.ntmps24
  go_wp2_with fail
  refine (refParse_any a _).mono ?_
  have hb0 := bel_alloc2 w (Obj.cells #[Value.slice none 0 0] 25) (Obj.cells #[Value.slice none 0 0] 25)
  have hr0 := new_block2 w (Obj.cells #[Value.slice none 0 0] 25) (Obj.cells #[Value.slice none 0 0] 25)
  have hr1 := nb21 w (Obj.cells #[Value.slice none 0 0] 25) (Obj.cells #[Value.slice none 0 0] 25)
  have hs0 : w.heap.size + 1 < ((w.alloc (Obj.cells #[Value.slice none 0 0] 25)).alloc (Obj.cells #[Value.slice none 0 0] 25)).heap.size := by simp
  generalize (w.alloc (Obj.cells #[Value.slice none 0 0] 25)).alloc (Obj.cells #[Value.slice none 0 0] 25) = W at *
  rintro e w1 (⟨hna, va, rfl, hva, hb1⟩ | ⟨hna, rfl, hb1⟩)
  · have HNA := Lib.hid hna
    have HVA := Lib.hid hva
    have HB1 := Lib.hid hb1
    have hs1 := hb1.size
    clear hna hva hb1
    obtain ⟨ada, lena, capa, xsa, rfl, ra⟩ := HVA.out.shape
    clear ra
    go_wp2_with fail
    refine (refParse_any b _).mono ?_
    rintro e w2 (⟨hnb, vb, rfl, hvb, hb2⟩ | ⟨hnb, rfl, hb2⟩)
    · obtain ⟨adb, lenb, capb, xsb, rfl, rb⟩ := hvb.shape
      clear rb
      have HNB := Lib.hid hnb
      have HVB := Lib.hid hvb
      have HB2 := Lib.hid hb2
      have hs2 := hb2.size
      have hq0 := (hb2.block w.heap.size (by omega)).trans ((HB1.out.block w.heap.size (by omega)).trans hr0)
      have hq1 := (hb2.block (w.heap.size + 1) (by omega)).trans ((HB1.out.block (w.heap.size + 1) (by omega)).trans hr1)
      clear hnb hvb hb2
      by_cases hsz : a.size ≤ 200 ∧ b.size ≤ 200
      · have hd1 : decide ((200 : Int) < (a.size : Int)) = false := by rw [decide_eq_false_iff_not]; omega
        have hd2 : decide ((200 : Int) < (b.size : Int)) = false := by rw [decide_eq_false_iff_not]; omega
        have HOK := Lib.hid (show PairOk a b from ⟨HNA.out, HNB.out, hsz.1, hsz.2⟩)
        have HR0 := Lib.hid hq0
        have HR1 := Lib.hid hq1
        clear hsz hq0 hq1 hr0 hr1
        go_wp2_with fail
        refine (parse_yes a _ HNA.out).mono ?_
        rintro e w3 ⟨v3, rfl, hn3, hb3⟩
        obtain ⟨ad3, len3, cap3, rfl, hr3⟩ := hn3.shape
        have HR3 := Lib.hid (hr3.below (bel_alloc w3 (Obj.cells #[Value.slice ad3 len3 cap3] 25)))
        have HB3 := Lib.hid (bel_on hb3 (bel_alloc w3 (Obj.cells #[Value.slice ad3 len3 cap3] 25)))
        have hs3 := hb3.size
        have hcp := cell_of (new_block w3 (Obj.cells #[Value.slice ad3 len3 cap3] 25)) 0
        simp only [List.getElem?_toArray, List.getElem?_cons_zero] at hcp
        have hsp : w3.heap.size < (w3.alloc (Obj.cells #[Value.slice ad3 len3 cap3] 25)).heap.size := by simp
        clear hn3 hr3 hb3
        go_wp2_with fail
        generalize w3.alloc (Obj.cells #[Value.slice ad3 len3 cap3] 25) = W3 at *
        refine (parse_yes b _ HNB.out).mono ?_
        rintro e w4 ⟨v4, rfl, hn4, hb4⟩
        obtain ⟨ad4, len4, cap4, rfl, hr4⟩ := hn4.shape
        have HR4 := Lib.hid (hr4.below (bel_alloc w4 (Obj.cells #[Value.slice ad4 len4 cap4] 25)))
        have hB4 := bel_on hb4 (bel_alloc w4 (Obj.cells #[Value.slice ad4 len4 cap4] 25))
        have hs4 := hb4.size
        have hcq := cell_of (new_block w4 (Obj.cells #[Value.slice ad4 len4 cap4] 25)) 0
        simp only [List.getElem?_toArray, List.getElem?_cons_zero] at hcq
        have hcp4 := (hB4.cell (p := ⟨w3.heap.size, 0, none⟩) (by show w3.heap.size < _; omega)).trans hcp
        have hsq : w4.heap.size < (w4.alloc (Obj.cells #[Value.slice ad4 len4 cap4] 25)).heap.size := by simp
        have HB4 := Lib.hid hB4
        clear hn4 hr4 hb4 hB4 hcp
        go_wp2_with fail
        generalize w4.alloc (Obj.cells #[Value.slice ad4 len4 cap4] 25) = X at *
        -- what is known of the last world
        have hbX : Below w.heap.size w X := bel_on (bel_on (bel_on (bel_on hb0 HB1.out) HB2.out) HB3.out) HB4.out
        have hr0X := (HB4.out.block w.heap.size (by omega)).trans ((HB3.out.block w.heap.size (by omega)).trans HR0.out)
        have hr1X := (HB4.out.block (w.heap.size + 1) (by omega)).trans ((HB3.out.block (w.heap.size + 1) (by omega)).trans HR1.out)
        have hc0 := cell_of hr0X 0
        have hf0 := free_of hr0X 0
        have hc1 := cell_of hr1X 0
        have hf1 := free_of hr1X 0
        simp only [List.getElem?_toArray, List.getElem?_cons_zero] at hc0 hc1
        have hne01 : (⟨w.heap.size, 0, none⟩ : Addr) ≠ ⟨w.heap.size + 1, 0, none⟩ := by simp
        have hc1s : ∀ u, (X.setCell ⟨w.heap.size, 0, none⟩ u).cell? ⟨w.heap.size + 1, 0, none⟩ = some (.slice none 0 0) := fun u => by rw [World.cell?_setCell_other _ _ _ _ hne01]; exact hc1
        have hp1 : ∀ u, (X.setCell ⟨w.heap.size, 0, none⟩ u).cell? ⟨w3.heap.size, 0, none⟩ = some (.slice ad3 len3 cap3) := fun u => by rw [World.cell?_setCell_other _ _ _ _ (by intro e; injection e; omega)]; exact hcp4
        have hq1 : ∀ u, (X.setCell ⟨w.heap.size, 0, none⟩ u).cell? ⟨w4.heap.size, 0, none⟩ = some (.slice ad4 len4 cap4) := fun u => by rw [World.cell?_setCell_other _ _ _ _ (by intro e; injection e; omega)]; exact hcq
        have HP2 := Lib.hid (show ∀ u u', ((X.setCell ⟨w.heap.size, 0, none⟩ u).setCell ⟨w.heap.size + 1, 0, none⟩ u').cell? ⟨w3.heap.size, 0, none⟩ = some (.slice ad3 len3 cap3) from fun u u' => by rw [World.cell?_setCell_other _ _ _ _ (by intro e; injection e; omega)]; exact hp1 u)
        have HQ2 := Lib.hid (show ∀ u u', ((X.setCell ⟨w.heap.size, 0, none⟩ u).setCell ⟨w.heap.size + 1, 0, none⟩ u').cell? ⟨w4.heap.size, 0, none⟩ = some (.slice ad4 len4 cap4) from fun u u' => by rw [World.cell?_setCell_other _ _ _ _ (by intro e; injection e; omega)]; exact hq1 u)
        have HP1 := Lib.hid hp1
        have HQ1 := Lib.hid hq1
        have HBX := Lib.hid hbX
        have HR0X := Lib.hid hr0X
        have HR1X := Lib.hid hr1X
        clear hbX hr0X hr1X hp1 hq1 hc1
        refine wp_region_sched (fun w' => w'.cell? ⟨w3.heap.size, 0, none⟩ = some (.slice ad3 len3 cap3) ∧ w'.cell? ⟨w4.heap.size, 0, none⟩ = some (.slice ad4 len4 cap4)) [(0, true), (1, true), (2, true), (3, true), (4, false), (5, false), (6, true), (7, true), (8, true)] (by kernel_rfl) (by kernel_rfl) ?_ (fun hHeld => ?_)
        · (try dsimp only)
          exact ⟨hcp4, hcq⟩
        try dsimp only at hHeld
        repeat (refine wpSched_at (by simp only [List.getElem?_toArray, List.getElem?_cons_zero, List.getElem?_cons_succ]; rfl) ?_; (first | (apply wpAt_take rfl; (intro wx hSx; (try dsimp only at hSx); go_simp; (try with_reducible rfl)); simp only [Act.put, List.setIfInBounds_toArray, List.set_cons_zero, List.set_cons_succ]) | (refine wpAt_skip rfl ?_; simp only [Act.put, List.setIfInBounds_toArray, List.set_cons_zero, List.set_cons_succ]) | (refine wpAt_pass rfl hHeld ?_; simp only [Act.put, List.setIfInBounds_toArray, List.set_cons_zero, List.set_cons_succ]) | (refine wpAt_eff rfl (fun K hK => ?_); (skip); go_simp; (first | skip); (refine hK.out _ _ ?_ (fun hHeld => ?_)); ((try dsimp only); first | exact ⟨HP1.out _, HQ1.out _⟩ | exact ⟨HP2.out _ _, HQ2.out _ _⟩); clear hK K; (try clear hS); (try clear hfx0 hx0 x0); (try clear hfy0 hy0 y0); (try clear hfx1 hx1 x1); (try clear hfy1 hy1 y1); (try dsimp only at hHeld))))
        refine wpSched_nil ?_
        go_wp2_with fail
        have hcA : ((X.setCell ⟨w.heap.size, 0, none⟩ (.slice ad3 len3 cap3)).setCell ⟨w.heap.size + 1, 0, none⟩ (.slice ad4 len4 cap4)).cell? ⟨w.heap.size, 0, none⟩ = some (.slice ad3 len3 cap3) := by
          rw [World.cell?_setCell_other _ _ _ _ (Ne.symm hne01), World.cell?_setCell_same _ _ _ hc0]
        have hcB : ((X.setCell ⟨w.heap.size, 0, none⟩ (.slice ad3 len3 cap3)).setCell ⟨w.heap.size + 1, 0, none⟩ (.slice ad4 len4 cap4)).cell? ⟨w.heap.size + 1, 0, none⟩ = some (.slice ad4 len4 cap4) := World.cell?_setCell_same _ _ _ (hc1s _)
        refine bodyPost_ret (v := .tuple #[.agg #[.slice ad3 len3 cap3], .agg #[.slice ad4 len4 cap4], .slice ada lena capa, .slice adb lenb capb, .bool true]) (by simp [results, Tryd.results24, go_sem, hcA, hcB]) rfl (.inl ⟨HOK.out, _, _, _, _, rfl, ?_⟩)
        have hk1 : (X.setCell ⟨w.heap.size, 0, none⟩ (.slice ad3 len3 cap3)).heap[w.heap.size + 1]? = some (Obj.cells #[Value.slice none 0 0] 25 (0, 0)) := by rw [Below.heap_setCell _ _ _ _ (by show w.heap.size + 1 ≠ w.heap.size; omega)]; exact HR1X.out
        have two : ∀ {v : Value} {n : Nat}, RefV 68 X v n → RefV 68 ((X.setCell ⟨w.heap.size, 0, none⟩ (.slice ad3 len3 cap3)).setCell ⟨w.heap.size + 1, 0, none⟩ (.slice ad4 len4 cap4)).drew v n := fun h => (h.setOther (t' := 25) HR0X.out (by decide) _).setOther (t' := 25) hk1 (by decide) _
        have hx : RefV 68 X (.slice ada lena capa) (decL (byts a)) := ((HVA.out.below HB2.out).below HB3.out).below HB4.out
        have hy : RefV 68 X (.slice adb lenb capb) (decL (byts b)) := (HVB.out.below HB3.out).below HB4.out
        exact ⟨two (HR3.out.below HB4.out), two HR4.out, two hx, two hy, ((HBX.out.setCell (p := ⟨w.heap.size, 0, none⟩) (Nat.le_refl _) _).setCell (p := ⟨w.heap.size + 1, 0, none⟩) (by show w.heap.size ≤ w.heap.size + 1; omega) _).drew⟩
      · rcases Nat.lt_or_ge 200 a.size with hA | hA
        · have hd1 : decide ((200 : Int) < (a.size : Int)) = true := by rw [decide_eq_true_iff]; omega
          have HNO := Lib.hid (show ¬ PairOk a b from fun h => hsz ⟨h.2.2.1, h.2.2.2⟩)
          have hbZ : Below w.heap.size w w2 := bel_on (bel_on hb0 HB1.out) HB2.out
          have hz0 := cell_of hq0 0
          have hzf0 := free_of hq0 0
          have hz1 := cell_of hq1 0
          have hzf1 := free_of hq1 0
          simp only [List.getElem?_toArray, List.getElem?_cons_zero] at hz0 hz1
          have hne01 : (⟨w.heap.size, 0, none⟩ : Addr) ≠ ⟨w.heap.size + 1, 0, none⟩ := by simp
          have hz1s : ∀ u, (w2.setCell ⟨w.heap.size, 0, none⟩ u).cell? ⟨w.heap.size + 1, 0, none⟩ = some (.slice none 0 0) := fun u => by rw [World.cell?_setCell_other _ _ _ _ hne01]; exact hz1
          have HBZ := Lib.hid hbZ
          clear hq0 hq1 hbZ hr0 hr1 hz1
          go_wp2_with fail
          have hcA : ((w2.setCell ⟨w.heap.size, 0, none⟩ (.slice none 0 0)).setCell ⟨w.heap.size + 1, 0, none⟩ (.slice none 0 0)).cell? ⟨w.heap.size, 0, none⟩ = some (.slice none 0 0) := by
            rw [World.cell?_setCell_other _ _ _ _ (Ne.symm hne01), World.cell?_setCell_same _ _ _ hz0]
          have hcB : ((w2.setCell ⟨w.heap.size, 0, none⟩ (.slice none 0 0)).setCell ⟨w.heap.size + 1, 0, none⟩ (.slice none 0 0)).cell? ⟨w.heap.size + 1, 0, none⟩ = some (.slice none 0 0) := World.cell?_setCell_same _ _ _ (hz1s _)
          exact bodyPost_ret (v := .tuple #[.agg #[.slice none 0 0], .agg #[.slice none 0 0], .slice none 0 0, .slice none 0 0, .bool false]) (by simp [results, Tryd.results24, go_sem, hcA, hcB]) rfl (.inr ⟨HNO.out, rfl, ((HBZ.out.setCell (p := ⟨w.heap.size, 0, none⟩) (Nat.le_refl _) _).setCell (p := ⟨w.heap.size + 1, 0, none⟩) (by show w.heap.size ≤ w.heap.size + 1; omega) _)⟩)
        · have hd1 : decide ((200 : Int) < (a.size : Int)) = false := by rw [decide_eq_false_iff_not]; omega
          have hd2 : decide ((200 : Int) < (b.size : Int)) = true := by rw [decide_eq_true_iff]; omega
          have HNO := Lib.hid (show ¬ PairOk a b from fun h => hsz ⟨h.2.2.1, h.2.2.2⟩)
          have hbZ : Below w.heap.size w w2 := bel_on (bel_on hb0 HB1.out) HB2.out
          have hz0 := cell_of hq0 0
          have hzf0 := free_of hq0 0
          have hz1 := cell_of hq1 0
          have hzf1 := free_of hq1 0
          simp only [List.getElem?_toArray, List.getElem?_cons_zero] at hz0 hz1
          have hne01 : (⟨w.heap.size, 0, none⟩ : Addr) ≠ ⟨w.heap.size + 1, 0, none⟩ := by simp
          have hz1s : ∀ u, (w2.setCell ⟨w.heap.size, 0, none⟩ u).cell? ⟨w.heap.size + 1, 0, none⟩ = some (.slice none 0 0) := fun u => by rw [World.cell?_setCell_other _ _ _ _ hne01]; exact hz1
          have HBZ := Lib.hid hbZ
          clear hq0 hq1 hbZ hr0 hr1 hz1
          go_wp2_with fail
          have hcA : ((w2.setCell ⟨w.heap.size, 0, none⟩ (.slice none 0 0)).setCell ⟨w.heap.size + 1, 0, none⟩ (.slice none 0 0)).cell? ⟨w.heap.size, 0, none⟩ = some (.slice none 0 0) := by
            rw [World.cell?_setCell_other _ _ _ _ (Ne.symm hne01), World.cell?_setCell_same _ _ _ hz0]
          have hcB : ((w2.setCell ⟨w.heap.size, 0, none⟩ (.slice none 0 0)).setCell ⟨w.heap.size + 1, 0, none⟩ (.slice none 0 0)).cell? ⟨w.heap.size + 1, 0, none⟩ = some (.slice none 0 0) := World.cell?_setCell_same _ _ _ (hz1s _)
          exact bodyPost_ret (v := .tuple #[.agg #[.slice none 0 0], .agg #[.slice none 0 0], .slice none 0 0, .slice none 0 0, .bool false]) (by simp [results, Tryd.results24, go_sem, hcA, hcB]) rfl (.inr ⟨HNO.out, rfl, ((HBZ.out.setCell (p := ⟨w.heap.size, 0, none⟩) (Nat.le_refl _) _).setCell (p := ⟨w.heap.size + 1, 0, none⟩) (by show w.heap.size ≤ w.heap.size + 1; omega) _)⟩)
    · have hs2 := hb2.size
      have hq0 := (hb2.block w.heap.size (by omega)).trans ((HB1.out.block w.heap.size (by omega)).trans hr0)
      have hq1 := (hb2.block (w.heap.size + 1) (by omega)).trans ((HB1.out.block (w.heap.size + 1) (by omega)).trans hr1)
      have HNB := Lib.hid hnb
      have HB2 := Lib.hid hb2
      clear hnb hb2
      have HNO := Lib.hid (show ¬ PairOk a b from fun h => HNB.out h.2.1)
      have hbZ : Below w.heap.size w w2 := bel_on (bel_on hb0 HB1.out) HB2.out
      have hz0 := cell_of hq0 0
      have hzf0 := free_of hq0 0
      have hz1 := cell_of hq1 0
      have hzf1 := free_of hq1 0
      simp only [List.getElem?_toArray, List.getElem?_cons_zero] at hz0 hz1
      have hne01 : (⟨w.heap.size, 0, none⟩ : Addr) ≠ ⟨w.heap.size + 1, 0, none⟩ := by simp
      have hz1s : ∀ u, (w2.setCell ⟨w.heap.size, 0, none⟩ u).cell? ⟨w.heap.size + 1, 0, none⟩ = some (.slice none 0 0) := fun u => by rw [World.cell?_setCell_other _ _ _ _ hne01]; exact hz1
      have HBZ := Lib.hid hbZ
      clear hq0 hq1 hbZ hr0 hr1 hz1
      go_wp2_with fail
      have hcA : ((w2.setCell ⟨w.heap.size, 0, none⟩ (.slice none 0 0)).setCell ⟨w.heap.size + 1, 0, none⟩ (.slice none 0 0)).cell? ⟨w.heap.size, 0, none⟩ = some (.slice none 0 0) := by
        rw [World.cell?_setCell_other _ _ _ _ (Ne.symm hne01), World.cell?_setCell_same _ _ _ hz0]
      have hcB : ((w2.setCell ⟨w.heap.size, 0, none⟩ (.slice none 0 0)).setCell ⟨w.heap.size + 1, 0, none⟩ (.slice none 0 0)).cell? ⟨w.heap.size + 1, 0, none⟩ = some (.slice none 0 0) := World.cell?_setCell_same _ _ _ (hz1s _)
      exact bodyPost_ret (v := .tuple #[.agg #[.slice none 0 0], .agg #[.slice none 0 0], .slice none 0 0, .slice none 0 0, .bool false]) (by simp [results, Tryd.results24, go_sem, hcA, hcB]) rfl (.inr ⟨HNO.out, rfl, ((HBZ.out.setCell (p := ⟨w.heap.size, 0, none⟩) (Nat.le_refl _) _).setCell (p := ⟨w.heap.size + 1, 0, none⟩) (by show w.heap.size ≤ w.heap.size + 1; omega) _)⟩)
  · have hs1 := hb1.size
    have HNA := Lib.hid hna
    have HB1 := Lib.hid hb1
    have hp0 := (hb1.block w.heap.size (by omega)).trans hr0
    have hp1 := (hb1.block (w.heap.size + 1) (by omega)).trans hr1
    clear hna hb1 hr0 hr1
    go_wp2_with fail
    refine (refParse_any b _).mono ?_
    rintro e w2 (⟨hnb, vb, rfl, hvb, hb2⟩ | ⟨hnb, rfl, hb2⟩)
    · obtain ⟨adb, lenb, capb, xsb, rfl, rb⟩ := hvb.shape
      clear rb hvb hnb
      have hs2 := hb2.size
      have hq0 := (hb2.block w.heap.size (by omega)).trans hp0
      have hq1 := (hb2.block (w.heap.size + 1) (by omega)).trans hp1
      have HB2 := Lib.hid hb2
      clear hb2 hp0 hp1
      have HNO := Lib.hid (show ¬ PairOk a b from fun h => HNA.out h.1)
      have hbZ : Below w.heap.size w w2 := bel_on (bel_on hb0 HB1.out) HB2.out
      have hz0 := cell_of hq0 0
      have hzf0 := free_of hq0 0
      have hz1 := cell_of hq1 0
      have hzf1 := free_of hq1 0
      simp only [List.getElem?_toArray, List.getElem?_cons_zero] at hz0 hz1
      have hne01 : (⟨w.heap.size, 0, none⟩ : Addr) ≠ ⟨w.heap.size + 1, 0, none⟩ := by simp
      have hz1s : ∀ u, (w2.setCell ⟨w.heap.size, 0, none⟩ u).cell? ⟨w.heap.size + 1, 0, none⟩ = some (.slice none 0 0) := fun u => by rw [World.cell?_setCell_other _ _ _ _ hne01]; exact hz1
      have HBZ := Lib.hid hbZ
      clear hq0 hq1 hbZ hz1
      go_wp2_with fail
      have hcA : ((w2.setCell ⟨w.heap.size, 0, none⟩ (.slice none 0 0)).setCell ⟨w.heap.size + 1, 0, none⟩ (.slice none 0 0)).cell? ⟨w.heap.size, 0, none⟩ = some (.slice none 0 0) := by
        rw [World.cell?_setCell_other _ _ _ _ (Ne.symm hne01), World.cell?_setCell_same _ _ _ hz0]
      have hcB : ((w2.setCell ⟨w.heap.size, 0, none⟩ (.slice none 0 0)).setCell ⟨w.heap.size + 1, 0, none⟩ (.slice none 0 0)).cell? ⟨w.heap.size + 1, 0, none⟩ = some (.slice none 0 0) := World.cell?_setCell_same _ _ _ (hz1s _)
      exact bodyPost_ret (v := .tuple #[.agg #[.slice none 0 0], .agg #[.slice none 0 0], .slice none 0 0, .slice none 0 0, .bool false]) (by simp [results, Tryd.results24, go_sem, hcA, hcB]) rfl (.inr ⟨HNO.out, rfl, ((HBZ.out.setCell (p := ⟨w.heap.size, 0, none⟩) (Nat.le_refl _) _).setCell (p := ⟨w.heap.size + 1, 0, none⟩) (by show w.heap.size ≤ w.heap.size + 1; omega) _)⟩)
    · clear hnb
      have hs2 := hb2.size
      have hq0 := (hb2.block w.heap.size (by omega)).trans hp0
      have hq1 := (hb2.block (w.heap.size + 1) (by omega)).trans hp1
      have HB2 := Lib.hid hb2
      clear hb2 hp0 hp1
      have HNO := Lib.hid (show ¬ PairOk a b from fun h => HNA.out h.1)
      have hbZ : Below w.heap.size w w2 := bel_on (bel_on hb0 HB1.out) HB2.out
      have hz0 := cell_of hq0 0
      have hzf0 := free_of hq0 0
      have hz1 := cell_of hq1 0
      have hzf1 := free_of hq1 0
      simp only [List.getElem?_toArray, List.getElem?_cons_zero] at hz0 hz1
      have hne01 : (⟨w.heap.size, 0, none⟩ : Addr) ≠ ⟨w.heap.size + 1, 0, none⟩ := by simp
      have hz1s : ∀ u, (w2.setCell ⟨w.heap.size, 0, none⟩ u).cell? ⟨w.heap.size + 1, 0, none⟩ = some (.slice none 0 0) := fun u => by rw [World.cell?_setCell_other _ _ _ _ hne01]; exact hz1
      have HBZ := Lib.hid hbZ
      clear hq0 hq1 hbZ hz1
      go_wp2_with fail
      have hcA : ((w2.setCell ⟨w.heap.size, 0, none⟩ (.slice none 0 0)).setCell ⟨w.heap.size + 1, 0, none⟩ (.slice none 0 0)).cell? ⟨w.heap.size, 0, none⟩ = some (.slice none 0 0) := by
        rw [World.cell?_setCell_other _ _ _ _ (Ne.symm hne01), World.cell?_setCell_same _ _ _ hz0]
      have hcB : ((w2.setCell ⟨w.heap.size, 0, none⟩ (.slice none 0 0)).setCell ⟨w.heap.size + 1, 0, none⟩ (.slice none 0 0)).cell? ⟨w.heap.size + 1, 0, none⟩ = some (.slice none 0 0) := World.cell?_setCell_same _ _ _ (hz1s _)
      exact bodyPost_ret (v := .tuple #[.agg #[.slice none 0 0], .agg #[.slice none 0 0], .slice none 0 0, .slice none 0 0, .bool false]) (by simp [results, Tryd.results24, go_sem, hcA, hcB]) rfl (.inr ⟨HNO.out, rfl, ((HBZ.out.setCell (p := ⟨w.heap.size, 0, none⟩) (Nat.le_refl _) _).setCell (p := ⟨w.heap.size + 1, 0, none⟩) (by show w.heap.size ≤ w.heap.size + 1; omega) _)⟩)

end Go.Proofs.YtpchnejdbmoicaaDoor
