/- Contracts of nat's appendGroup and of Text. -/
import Derived.Test.YtpchnejdbmoicaaDoorT1
import Derived.Test.YtpchnejdbmoicaaDoorT2
import Derived.Lib.AppendStr
import Derived.Lib.SlBytesRow
namespace Go.Proofs.YtpchnejdbmoicaaDoor
open Go.RowKit Cin

theorem info_u8' : (Tryd.prog.info? 5).map (fun i => (i.zero, i.size, i.bytes)) = some (some (.int .u8 0), 1, 1) := by kernel_rfl
/-- The slice v owns its bytes. -/
def OwnB (w : World) (base : Nat) (v : Value) (l : List UInt8) : Prop := w.ownsRow base 5 1 v l.length (Lib.byteCells l)
theorem strCells_eq (l : List UInt8) : Lib.strCells ⟨l.toArray⟩ = Lib.byteCells l := by simp [Lib.strCells, Lib.byteCells]
theorem byteCells_append (l m : List UInt8) : Lib.byteCells (l ++ m) = Lib.byteCells l ++ Lib.byteCells m := by simp [Lib.byteCells]
theorem OwnB.appended {w : World} {base : Nat} {v : Value} {l m : List UInt8} {n : Nat} (h : w.ownsRow base 5 1 v (l.length + n) (Lib.byteCells l ++ Lib.byteCells m)) (hn : n = m.length) : OwnB w base v (l ++ m) := by
  unfold OwnB
  rw [List.length_append, byteCells_append, ← hn]
  exact h
theorem ownB_below {w w' : World} {base : Nat} {v : Value} {l : List UInt8} (h : OwnB w base v l) (hb : Below w.heap.size w w') : OwnB w' base v l := by
  refine ⟨h.1, ?_⟩
  rcases h.2 with h2 | ⟨g, cap, cur, e, hbg, hg, r⟩
  · exact .inl h2
  · exact .inr ⟨g, cap, cur, e, hbg, by rw [hb.block g (lt_of_heap hg)]; exact hg, r⟩
theorem gval_pos : ∀ (gs : List Nat), lim gs (gs.length - 1) ≠ 0 → gs.length ≠ 0 → gval gs ≠ 0
  | [], _, h => absurd rfl h
  | [x], h, _ => by show x + 1000000000 * 0 ≠ 0; have : x ≠ 0 := h; omega
  | x :: y :: gs, h, _ => by
    have := gval_pos (y :: gs) (by simpa [lim] using h) (by simp)
    show x + 1000000000 * gval (y :: gs) ≠ 0
    omega
theorem repeat_zero : ∀ c : Nat, Lib.repeatL [48] c = List.replicate c 48
  | 0 => rfl
  | c + 1 => by rw [Lib.repeatL, repeat_zero c]; rfl
theorem itoa_nat (n : Nat) : Lib.itoa (n : Int) = Lib.decDigits n := by unfold Lib.itoa; rw [if_neg (by omega)]; rfl

set_option maxRecDepth 100000 in
set_option maxHeartbeats 1000000 in
/-- appendGroup: the nine digits of a group. -/
theorem appendGroup_any (v : Value) (l : List UInt8) (r base : Nat) (w : World) (h : OwnB w base v l) (hr : r < 1000000000) (hl : l.length ≤ 1000000000) (hbase : base ≤ w.heap.size) (hT : Tabs w) :
    Calls Tryd.prog 53 #[v, .int .u32 r] w fun e w' => ∃ v', e = .returned v' ∧ OwnB w' base v' (l ++ padk 9 r) ∧ Below base w w' := by
  obtain ⟨i0, hi0, hz0, hz1, hz2⟩ := info_parts info_u8'
  have hlen := dec_len 9 r (by decide) hr
  have hpos : 1 ≤ (Lib.decDigits r).length := by rw [Lib.decDigits_length]; exact Lib.nDigits_pos r
  have hIt := Tryd.strconv_Itoa (r : Int) (by omega) (by omega) w hT.p10
  rw [itoa_nat] at hIt
  have H := Lib.hid h
  have HPK := Lib.hid (show padk 9 r = List.replicate (9 - (Lib.decDigits r).length) 48 ++ Lib.decDigits r from rfl)
  clear h hT
  generalize hdd : Lib.decDigits r = dd at *
  clear hdd
  obtain ⟨c, hc⟩ : ∃ c : Nat, c = 9 - dd.length := ⟨_, rfl⟩
  have hci : (9 : Int) - (dd.length : Int) = (c : Int) := by omega
  have hc9 : c ≤ 9 := by omega
  have HC := Lib.hid hc
  clear hc
  go_enter Tryd.func53, Tryd.ntmps53
  go_wp2_with fail
  refine hIt.mono ?_
  rintro e w1 ⟨rfl, k, os, ew⟩
  have hb1 : Below w.heap.size w w1 := by rw [ew]; exact Lib.below_grow w.heap.size w (Nat.le_refl _) k os
  have HB1 := Lib.hid hb1
  have HO1 := Lib.hid (ownB_below H.out hb1)
  clear ew hb1 hIt H
  go_wp2_with fail
  refine (Tryd.strings_Repeat ⟨#[48]⟩ c _ (by omega) (show 1 * c ≤ _ by omega)).mono ?_
  rintro e w2 ⟨rfl, hb2⟩
  rw [show Lib.repeatL (⟨#[48]⟩ : ByteArray).data.toList c = List.replicate c 48 from repeat_zero c]
  have HB2 := Lib.hid (bel_on HB1.out hb2)
  have HO2 := Lib.hid (ownB_below HO1.out hb2)
  have hbase2 : base ≤ w2.heap.size := by have := HB1.out.size; have := hb2.size; omega
  clear hb2 HO1 HB1
  generalize hpp : List.replicate c (48 : UInt8) = pp at *
  have hpl : pp.length ≤ 9 := by rw [← hpp]; simp; exact hc9
  have HPP := Lib.hid hpp
  clear hpp
  go_wp2_with (at_builtin; go_must (refine Lib.wpList_append_own_string w2 rfl _ _ 74 9 rfl base 5 i0 Tryd.underlying74 Tryd.underlying9 hi0 hz0 hz1 hz2 _ l.length (Lib.byteCells l) (by rfl) (by exact HO2.out) ⟨pp.toArray⟩ (by rfl) (by show l.length + pp.length ≤ maxLen; unfold maxLen; omega) (by show l.length + pp.length ≤ _; omega) hbase2 ?_))
  intro v3 w3 h1 h2 _
  have hO3 : OwnB w3 base v3 (l ++ pp) := OwnB.appended (m := pp) (by rw [← strCells_eq pp]; exact h1) rfl
  have HO3 := Lib.hid hO3
  have HB3 := Lib.hid ((HB2.out.mono (B' := base) hbase).trans ((Below.refl _ w2).grown h2 hbase2 (fun g hg => (World.ownsRow.lt HO2.out g hg).1)))
  have hbase3 : base ≤ w3.heap.size := by have := HB3.out.size; omega
  clear h1 h2 hO3
  go_wp2_with (at_builtin; go_must (refine Lib.wpList_append_own_string w3 rfl _ _ 74 9 rfl base 5 i0 Tryd.underlying74 Tryd.underlying9 hi0 hz0 hz1 hz2 _ (l ++ pp).length (Lib.byteCells (l ++ pp)) (by rfl) (by exact HO3.out) ⟨dd.toArray⟩ (by rfl) (by show (l ++ pp).length + dd.length ≤ maxLen; unfold maxLen; rw [List.length_append]; omega) (by show (l ++ pp).length + dd.length ≤ _; rw [List.length_append]; omega) hbase3 ?_))
  intro v4 w4 h1 h2 _
  have hO4 : OwnB w4 base v4 ((l ++ pp) ++ dd) := OwnB.appended (m := dd) (by rw [← strCells_eq dd, List.length_append]; exact h1) rfl
  have HO4 := Lib.hid hO4
  have HB4 := Lib.hid (HB3.out.trans ((Below.refl _ w3).grown h2 hbase3 (fun g hg => (World.ownsRow.lt HO3.out g hg).1)))
  clear h1 h2 hO4
  go_wp2
  go_ret
  refine ⟨_, rfl, ?_, HB4.out⟩
  rw [HPK.out, ← HC.out, HPP.out, ← List.append_assoc]
  exact HO4.out

set_option maxHeartbeats 400000 in
/-- AppendUint, of a word, to bytes of the call's own. -/
theorem appendUint_any (v : Value) (l : List UInt8) (u base : Nat) (w : World) (h : OwnB w base v l) (hu : u < 18446744073709551616) (hl : l.length ≤ 1000000000) (hbase : base ≤ w.heap.size) (hT : Tabs w) :
    Calls Tryd.prog 52 #[v, .int .u64 u, .int .i64 10] w fun e w' => ∃ v', e = .returned v' ∧ OwnB w' base v' (l ++ Lib.decDigits u) ∧ Below base w w' := by
  have hI : Calls Tryd.prog 87 #[v, .int .u64 u, .int .i64 10] w fun e w' => ∃ v', e = .returned v' ∧ OwnB w' base v' (l ++ Lib.decDigits u) ∧ Below base w w' := by
    by_cases h1 : u < 100
    · exact (Tryd.internal_strconv_AppendUint_10_small base l.length u h1 v _ w h hbase (by omega)).mono fun _ _ ⟨v', e, ho, hb, _⟩ => ⟨v', e, OwnB.appended ho rfl, hb⟩
    · exact (Tryd.internal_strconv_AppendUint_10_big base l.length u (by omega) hu v _ w h hbase (by omega) hT.p10).mono fun _ _ ⟨v', e, ho, hb, _⟩ => ⟨v', e, OwnB.appended ho rfl, hb⟩
  have HI := Lib.hid hI
  clear hI h hT
  go_enter Tryd.func52, Tryd.ntmps52
  go_wp2_with fail
  refine HI.out.mono ?_
  rintro e w' ⟨v', rfl, ho, hb⟩
  have HO := Lib.hid ho
  have HB := Lib.hid hb
  clear ho hb
  go_wp2
  go_ret
  exact ⟨_, rfl, HO.out, HB.out⟩

/-- The text of the groups from a place on, of which the highest is not 0. -/
theorem groups_text {n : Nat} {gs : List Nat} (h : Groups n gs) (k : Nat) (hk : k + 1 < gs.length) : Lib.decDigits (gval (gs.drop (k + 1))) ++ padk 9 (lim gs k) = Lib.decDigits (gval (gs.drop k)) := by
  have e : gval (gs.drop k) = gval (gs.drop (k + 1)) * 10 ^ 9 + lim gs k := by
    rw [drop_lim (show k < gs.length by omega), gval]; omega
  have hne : gval (gs.drop (k + 1)) ≠ 0 := gval_pos (gs.drop (k + 1)) (by
    rw [List.length_drop, lim_drop]
    have := h.2.2
    rcases this with h0 | h0
    · rw [h0] at hk; simp at hk
    · rw [show k + 1 + (gs.length - (k + 1) - 1) = gs.length - 1 by omega]; exact h0) (by rw [List.length_drop]; omega)
  rw [e, dec_group hne 9 (lim gs k) (by decide) (by
    have := h.2.1 (lim gs k) (by rw [lim_eq (show k < gs.length by omega)]; exact List.getElem_mem _)
    simpa using this)]

end Go.Proofs.YtpchnejdbmoicaaDoor
