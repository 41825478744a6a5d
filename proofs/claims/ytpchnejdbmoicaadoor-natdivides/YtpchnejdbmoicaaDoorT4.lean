/- The contract of nat's Text. -/
import Derived.Test.YtpchnejdbmoicaaDoorT3
import Derived.Test.YtpchnejdbmoicaaDoorSched
namespace Go.Proofs.YtpchnejdbmoicaaDoor
open Go.RowKit Cin

theorem gval_drop (gs : List Nat) : ∀ j, gval (gs.drop j) ≤ gval gs := by
  induction gs with
  | nil => intro j; simp
  | cons x xs ih =>
    intro j
    cases j with
    | zero => exact Nat.le_refl _
    | succ j =>
      have := ih j
      show gval (xs.drop j) ≤ x + 1000000000 * gval xs
      omega
/-- Bytes that a call owns, as a text. -/
theorem ownB_text {w : World} {base : Nat} {v : Value} {l : List UInt8} (h : OwnB w base v l) (hl : l ≠ []) : ∃ g cap, v = .slice (some ⟨g, 0, none⟩) l.length cap ∧
    (convert 74 9 (.slice (some ⟨g, 0, none⟩) l.length cap)).run Tryd.prog w = .ok (.string ⟨l.toArray⟩) w := by
  rcases h.2 with ⟨_, hn⟩ | ⟨g, cap, cur, e, hbg, hg, hn, hm, hs, ht⟩
  · exact absurd (List.length_eq_zero_iff.1 hn) hl
  · refine ⟨g, cap, e, ?_⟩
    refine run_convert_bytes_back (P := Tryd.prog) w 74 9 5 ⟨g, 0, none⟩ cap l Tryd.underlying74 Tryd.underlying5 Tryd.underlying9 (fun j hj => ?_)
    rw [Lib.add_plain, Nat.zero_add, cell_of hg]
    have h1 : (Lib.byteCells l)[j]? = some (Value.int .u8 (l[j].toNat : Int)) := by simp [Lib.byteCells, hj]
    rw [← ht, Nat.mul_one, List.getElem?_take, if_pos hj, Array.getElem?_toList] at h1
    exact h1

theorem run_make_bytes (i0 : TypeInfo) (hi0 : Tryd.prog.info? 5 = some i0) (hz0 : i0.zero = some (.int .u8 0)) (hz1 : i0.size = 1) (hz2 : i0.bytes = 1) (M : Nat) (hM : M ≤ 1000000000) (W : World) :
    Sem.run Tryd.prog (Instr.makeSlice 74 (.int .i64 0) (.int .i64 M)) W = .ok (.slice (some ⟨W.heap.size, 0, none⟩) 0 M) (W.alloc (.cells (ints .u8 (List.replicate M 0)) 5)) := by
  have h := run_make (P := Tryd.prog) W 74 5 i0 _ Tryd.underlying74 hi0 hz0 .i64 .i64 0 M (by omega) (by omega) (by rw [hz2]; omega) (by omega)
  rw [hz1, Nat.mul_one, Int.toNat_natCast, madeCells_int] at h
  exact h
theorem ownB_made (W : World) (M : Nat) (hM : M ≤ 1000000000) : OwnB (W.alloc (.cells (ints .u8 (List.replicate M 0)) 5)) W.heap.size (.slice (some ⟨W.heap.size, 0, none⟩) 0 M) [] :=
  World.ownsRow_made W _ M (Nat.le_refl _) (by unfold maxLen; omega) (by simp [ints])

set_option maxRecDepth 100000 in
set_option maxHeartbeats 2000000 in
/-- Text: the decimal digits. -/
theorem text_any (v : Value) (n k : Nat) (w : World) (h : NatB 68 w v n k) (hk : k ≤ 1000000) (hT : Tabs w) :
    Calls Tryd.prog 12 #[v] w fun e w' => e = .returned (.string (decS n)) ∧ Below w.heap.size w w' := by
  obtain ⟨ad, len, cap, rfl, xs, hs, ho, hnm, hval⟩ := h.shape
  have hlx := hs.len
  have HT := Lib.hid hT
  have H := Lib.hid h
  by_cases hl : len ≤ 2
  · have hn64 : n < 18446744073709551616 := by
      have h1 := val_lt ho
      have h2 := pw_le (show xs.length ≤ 2 by omega)
      rw [hval] at h1
      exact Nat.lt_of_lt_of_le h1 h2
    clear h hs hnm hval ho hlx hT
    go_enter Tryd.func12, Tryd.ntmps12
    go_wp2_with fail
    refine (low_any _ n _ (H.out.1.below (bel_alloc _ _))).mono ?_
    rintro e w1 ⟨rfl, hb⟩
    rw [Nat.mod_eq_of_lt hn64]
    have HB := Lib.hid (bel_on (bel_alloc _ _) hb)
    clear hb
    go_wp2_with fail
    refine (formatUint_any n _ hn64 (HT.out.below HB.out)).mono ?_
    rintro e w2 ⟨rfl, hb2⟩
    have HB2 := Lib.hid (bel_on HB.out hb2)
    clear hb2
    go_wp2
    go_ret
    exact ⟨rfl, HB2.out⟩
  · have hn0 : n ≠ 0 := fun e => by
      rw [norm_val_zero hnm (hval.trans e)] at hlx
      simp at hlx
      omega
    clear h hs hnm hval ho hlx hT
    obtain ⟨i0, hi0, hz0, hz1, hz2⟩ := info_parts info_u8'
    go_enter Tryd.func12, Tryd.ntmps12
    go_wp2_with fail
    refine (groupsOf_any _ n k _ (H.out.1.below (bel_alloc _ _)) H.out.2 (by omega) hn0).mono ?_
    rintro e w1 ⟨v1, gs, rfl, hsl, hgr, hgl, hb⟩
    have hg0 : gs.length ≠ 0 := fun e => hn0 (by rw [← hgr.1, List.length_eq_zero_iff.1 e]; rfl)
    obtain ⟨adg, capg, rfl, hcg, _⟩ := hsl.shape
    obtain ⟨bg, og, rfl, hcl, hbl⟩ := hsl.cell (i := gs.length - 1) (by omega)
    have HSL := Lib.hid hsl
    have HGR := Lib.hid hgr
    have HB1 := Lib.hid (bel_on (bel_alloc _ _) hb)
    clear hsl hgr hb
    obtain ⟨m, hm⟩ : ∃ m : Nat, gs.length = m + 1 := ⟨gs.length - 1, by omega⟩
    rw [hm, Nat.add_sub_cancel] at hcl
    rw [hm]
    have HM := Lib.hid hm
    have hmk : m + 1 ≤ 2 * k := by omega
    have hlm : lim gs m < 1000000000 := HGR.out.2.1 _ (by rw [lim_eq (by have := HM.out; omega)]; exact List.getElem_mem _)
    clear hm hg0 hgl
    have e1 : ((m + 1 : Nat) : Int) - 1 = (m : Int) := by omega
    have e2 : (m : Int) < (m : Int) + 1 := by omega
    obtain ⟨M, e3, hM⟩ : ∃ M : Nat, IntKind.i64.wrap (9 * ((m : Int) + 1)) = (M : Int) ∧ M ≤ 20000000 := ⟨9 * (m + 1), by rw [IntWalk.i64_in _ (by omega)]; omega, by omega⟩
    have e4 : IntKind.u64.wrap ((lim gs m : Nat) : Int) = ((lim gs m : Nat) : Int) := by rw [IntKind.wrap_u64]; omega
    have hmk2 := run_make_bytes i0 hi0 hz0 hz1 hz2 M (by omega)
    have HMADE := Lib.hid (fun W => ownB_made W M (by omega))
    have hszw : w.heap.size ≤ w1.heap.size := HB1.out.size
    go_wp2_with fail
    refine wp_region_sched (fun w' => w'.cell? ⟨bg, og + m, none⟩ = some (.int .u32 (lim gs m : Nat)) ∧ Below w.heap.size w w') [(0, true), (1, true), (2, true), (4, true), (5, true), (6, true), (7, true), (8, true), (3, false), (9, false), (10, true)] (by kernel_rfl) (by kernel_rfl) ?_ (fun hHeld => ?_)
    · (try dsimp only)
      exact ⟨hcl, HB1.out.drew⟩
    try dsimp only at hHeld
    repeat (refine wpSched_at (by simp only [List.getElem?_toArray, List.getElem?_cons_zero, List.getElem?_cons_succ]; rfl) ?_; (first | (apply wpAt_take rfl; (intro wx hSx; (try dsimp only at hSx); go_simp; (try with_reducible rfl)); simp only [Act.put, List.setIfInBounds_toArray, List.set_cons_zero, List.set_cons_succ]) | (refine wpAt_skip rfl ?_; simp only [Act.put, List.setIfInBounds_toArray, List.set_cons_zero, List.set_cons_succ]) | (refine wpAt_pass rfl hHeld ?_; simp only [Act.put, List.setIfInBounds_toArray, List.set_cons_zero, List.set_cons_succ]) | (refine wpAt_eff rfl (fun K hK => ?_); (skip); go_simp; (first | (go_at_call 52; (refine (appendUint_any _ [] (lim gs m) w1.heap.size _ (HMADE.out w1.drew) (by omega) (by simp) (by simp) (HT.out.below hHeld.2)).mono ?_); rintro e w' ⟨vA, rfl, hn, hb⟩; have NA := Lib.hid hn; have hS := And.intro trivial (And.intro ((hb.cell (p := ⟨bg, og + m, none⟩) hbl).trans hHeld.1) (hHeld.2.trans (hb.mono (B' := w.heap.size) hszw))); have HKB := Lib.hid hb; clear hb hn hHeld) | skip); (refine hK.out _ _ ?_ (fun hHeld => ?_)); ((try dsimp only); first | exact hS.2 | exact ⟨cell_below hHeld.1 (bel_alloc _ _), bel_on hHeld.2 (bel_alloc _ _)⟩ | exact ⟨cell_below (cell_below hHeld.1 (bel_alloc _ _)) (Below.refl _ _).drew, bel_on (bel_on hHeld.2 (bel_alloc _ _)) (Below.refl _ _).drew⟩); clear hK K; (try clear hS); (try clear hfx0 hx0 x0); (try clear hfy0 hy0 y0); (try clear hfx1 hx1 x1); (try clear hfy1 hy1 y1); (try dsimp only at hHeld))))
    refine wpSched_nil ?_
    have hb2 : Below w1.heap.size w1 w' := ((Below.refl _ w1).drew.alloc (Nat.le_refl _) _).trans HKB.out
    have hO2 : OwnB w' w1.heap.size vA (Lib.decDigits (gval (gs.drop m))) := by
      have h1 := NA.out
      rw [List.nil_append] at h1
      rw [drop_lim (by have := HM.out; omega), List.drop_of_length_le (by have := HM.out; omega)]
      show OwnB w' w1.heap.size vA (Lib.decDigits (lim gs m + 1000000000 * 0))
      rw [Nat.mul_zero, Nat.add_zero]
      exact h1
    have HB2 := Lib.hid hb2
    have HO2 := Lib.hid hO2
    clear hHeld hb2 hO2 NA HKB hmk2 HMADE e2 e3 e4 hcl
    go_wp2_with fail
    go_loopw [5, 6] (fun o i wr => ∃ (j : Nat) (ov : Value), ov = o ∧ j ≤ m ∧ i = .int .i64 ((j : Int) - 1) ∧ OwnB wr w1.heap.size ov (Lib.decDigits (gval (gs.drop j))) ∧ Below w1.heap.size w1 wr) (fun _ i _ => (intOf i + 1).toNat)
    case atStart => exact ⟨m, _, rfl, Nat.le_refl _, rfl, HO2.out, HB2.out⟩
    case round =>
      obtain ⟨j, ov, rfl, hj, rfl, hown, hbel⟩ := hrel
      by_cases hj0 : j = 0
      · subst hj0
        rw [List.drop_zero, HGR.out.1] at hown
        have hne : Lib.decDigits n ≠ [] := fun e => by have := Lib.nDigits_pos n; rw [← Lib.decDigits_length, e] at this; simp at this
        obtain ⟨g, cap9, rfl, hcv⟩ := ownB_text hown hne
        have HE := Lib.hid (HB1.out.trans (hbel.mono (B' := w.heap.size) hszw))
        clear hown hbel hne
        go_wp2_with fail
        go_ret
        exact ⟨rfl, HE.out⟩
      · obtain ⟨i, rfl⟩ : ∃ i, j = i + 1 := ⟨j - 1, by omega⟩
        obtain ⟨b', o', e', hc', hb'⟩ := (HSL.out.of_block (w' := wr) (fun b off n c e => hbel.block b (HSL.out.lt e))).cell (i := i) (by have := HM.out; omega)
        cases e'
        have hgt := groups_text HGR.out i (by have := HM.out; omega)
        have hlr : lim gs i < 1000000000 := HGR.out.2.1 _ (by rw [lim_eq (by have := HM.out; omega)]; exact List.getElem_mem _)
        have hlen : (Lib.decDigits (gval (gs.drop (i + 1)))).length ≤ 1000000000 := by
          have h1 := gval_drop gs (i + 1)
          rw [HGR.out.1] at h1
          have h2 := dec_len_pw (Nat.lt_of_le_of_lt h1 H.out.2)
          omega
        have HO3 := Lib.hid hown
        have HB3 := Lib.hid hbel
        have HGT := Lib.hid hgt
        have HLEN := Lib.hid hlen
        have ei : ((i + 1 : Nat) : Int) - 1 = (i : Int) := by omega
        have ei2 : (i : Int) < (m : Int) + 1 := by omega
        have hsz3 : w1.heap.size ≤ wr.heap.size := hbel.size
        clear hown hbel hgt hlen
        go_wp2_with fail
        refine (appendGroup_any _ _ (lim gs i) w1.heap.size _ HO3.out hlr HLEN.out hsz3 (HT.out.below (HB1.out.trans (HB3.out.mono (B' := w.heap.size) hszw)))).mono ?_
        rintro e w5 ⟨v5, rfl, ho5, hb5⟩
        rw [HGT.out] at ho5
        have HO5 := Lib.hid ho5
        have HB5 := Lib.hid (HB3.out.trans hb5)
        clear ho5 hb5
        go_wp2_with fail
        exact ⟨⟨i, _, rfl, by omega, by go_num, HO5.out, HB5.out⟩, by simp [intOf]⟩

end Go.Proofs.YtpchnejdbmoicaaDoor
