/- Contracts of whole's Parse, of the document's IntParse. -/
import Derived.Test.YtfohgkabmdhhaaaGreatDoorYf
import Derived.Test.YtfohgkabmdhhaaaGreatDoorShelf
import Derived.Test.YtfohgkabmdhhaaaGreatDoorYe
import Derived.Test.YtfohgkabmdhhaaaGreatDoorYc
namespace Go.Proofs.YtfohgkabmdhhaaaGreatDoor
open Go.RowKit Cin

/-- A text that begins with a minus. -/
def negT (s : ByteArray) : Bool := decide (0 < s.size) && decide (lim (byts s) 0 = 45)
/-- What is behind the first byte. -/
def tl (s : ByteArray) : ByteArray := s.extract 1 s.size
theorem byts_tl (s : ByteArray) : byts (tl s) = (byts s).drop 1 := by
  unfold tl; rw [byts_extract, List.take_of_length_le (by rw [List.length_drop, byts_length]; omega)]
/-- The digits of a text: behind a minus, if there is one. -/
def digT (s : ByteArray) : ByteArray := if negT s then tl s else s
/-- A text that is a whole number. -/
def IsInt (s : ByteArray) : Prop := IsNum (byts (digT s)) ∧ (negT s = true → decL (byts (digT s)) ≠ 0)
/-- The whole number. -/
def intVal (s : ByteArray) : Int := sg (negT s) (decL (byts (digT s)))
theorem hasPrefix_minus (s : ByteArray) : Lib.hasPrefix s.data.toList [45] = negT s := by
  obtain ⟨⟨l⟩⟩ := s
  cases l with
  | nil => rfl
  | cons x l =>
    have hx : lim (byts ⟨⟨x :: l⟩⟩) 0 = x.toNat := rfl
    have hs : (⟨⟨x :: l⟩⟩ : ByteArray).size = l.length + 1 := rfl
    unfold negT
    rw [hx, hs]
    unfold Lib.hasPrefix
    rw [List.isPrefixOf_cons_cons]
    simp only [List.isPrefixOf_nil_left, Bool.and_true, Nat.zero_lt_succ, decide_true, Bool.true_and]
    by_cases h : x = 45
    · subst h; rfl
    · rw [beq_eq_false_iff_ne.2 (Ne.symm h), decide_eq_false]
      intro e
      exact h (UInt8.toNat_inj.1 e)
theorem ten_lt4 : 10 ^ 4000 < pw 500 := by decide +kernel
theorem decL_lt_pw4 {l : List Nat} (h : Digs l) (hl : l.length ≤ 4000) : decL l < pw 500 :=
  Nat.lt_of_lt_of_le (decL_lt h) (Nat.le_trans (Nat.pow_le_pow_right (by decide) hl) (Nat.le_of_lt ten_lt4))
theorem isNum_lt {l : List Nat} (h : IsNum l) : decL l < pw 500 := decL_lt_pw4 h.2.2.2 h.2.1

set_option maxHeartbeats 400000 in
theorem cutPrefixL_any (s : ByteArray) (w : World) :
    Calls Tryz.prog 173 #[.string s, .string ⟨#[45]⟩] w fun e w' => e = .returned (.tuple #[.string (digT s), .bool (negT s)]) ∧ w = w' := by
  have hp := hasPrefix_minus s
  unfold digT
  by_cases hn : negT s = true
  · rw [hn] at hp
    rw [if_pos hn, hn]
    have hsz : 1 ≤ s.size := by unfold negT at hn; simp at hn; omega
    clear hn
    go_enter Tryz.func173, Tryz.ntmps173
    go_wp2_with fail
    refine (Tryz.stringslite_HasPrefix s ⟨#[45]⟩ _).mono ?_
    rintro e w1 ⟨rfl, rfl⟩
    rw [hp]
    go_wp2
    go_ret2
    exact ⟨rfl, rfl⟩
  · have hn' : negT s = false := by simpa using hn
    rw [hn'] at hp
    rw [if_neg hn, hn']
    clear hn hn'
    go_enter Tryz.func173, Tryz.ntmps173
    go_wp2_with fail
    refine (Tryz.stringslite_HasPrefix s ⟨#[45]⟩ _).mono ?_
    rintro e w1 ⟨rfl, rfl⟩
    rw [hp]
    go_wp2
    go_ret2
    exact ⟨rfl, rfl⟩

set_option maxHeartbeats 400000 in
theorem cutPrefix_any (s : ByteArray) (w : World) :
    Calls Tryz.prog 146 #[.string s, .string ⟨#[45]⟩] w fun e w' => e = .returned (.tuple #[.string (digT s), .bool (negT s)]) ∧ w = w' := by
  go_enter Tryz.func146, Tryz.ntmps146
  go_wp2_with fail
  refine (cutPrefixL_any s _).mono ?_
  rintro e w1 ⟨rfl, rfl⟩
  go_wp2
  go_ret2
  exact ⟨rfl, rfl⟩

/-- What Parse tells. -/
def ParsePost (s : ByteArray) (w : World) (e : Ending) (w' : World) : Prop :=
  (IsInt s ∧ ∃ v, e = .returned (.tuple #[v, .int .i64 0]) ∧ IntB 146 w' v (intVal s) 500 ∧ Below w.heap.size w w') ∨
  (¬ IsInt s ∧ e = .returned (.tuple #[.agg #[.bool false, .slice none 0 0], .int .i64 2]) ∧ Below w.heap.size w w')

set_option maxRecDepth 100000 in
set_option maxHeartbeats 800000 in
theorem iparse_any (s : ByteArray) (w : World) : Calls Tryz.prog 107 #[.string s] w (ParsePost s w) := by
  go_enter Tryz.func107, Tryz.ntmps107
  go_wp2_with fail
  refine (cutPrefix_any s _).mono ?_
  rintro e w1 ⟨rfl, rfl⟩
  generalize hng : negT s = ng
  generalize hdg : digT s = dg
  by_cases hnum : IsNum (byts dg)
  · have hb500 := isNum_lt hnum
    go_wp2_with fail
    refine (parse_yes dg _ hnum).mono ?_
    rintro e w2 ⟨v2, rfl, hn2, hb2⟩
    obtain ⟨ad2, len2, cap2, rfl, hr2⟩ := hn2.shape
    have HN2 := Lib.hid (show NatB 146 (w2.alloc (Obj.cells #[Value.slice ad2 len2 cap2] 27)) (.agg #[.slice ad2 len2 cap2]) (decL (byts dg)) 500 from ⟨hn2.below (bel_alloc _ _), hb500⟩)
    have hh := ((heldN1 (w := w)).below hb2).new #[Value.slice ad2 len2 cap2] 27
    have hc := cell0 hh.1
    have hsl := Slot.of (n := 2) hh.2.1 rfl
    obtain ⟨x0, y0, hx0, hy0, hfx0, hfy0⟩ := hsl.two
    have HH := Lib.hid hh
    have HB2 := Lib.hid (bel_on (bel_on (bel_alloc _ _) hb2) (bel_alloc w2 (Obj.cells #[Value.slice ad2 len2 cap2] 27)))
    have HNUM := Lib.hid hnum
    clear hn2 hr2 hb2 hh hsl hnum hb500
    generalize hdec : decL (byts dg) = n at *
    have HDEC := Lib.hid hdec
    clear hdec
    have HSG := Lib.hid (show intVal s = sg ng n by unfold intVal; rw [hng, hdg, HDEC.out])
    cases ng
    · have HOK := Lib.hid (show IsInt s from ⟨by rw [hdg]; exact HNUM.out, by rw [hng]; intro h; cases h⟩)
      clear hng hdg hx0 hy0 hfx0 hfy0
      go_wp2_with fail
      refine (signed_any false _ n 500 _ HN2.out (by decide)).mono ?_
      rintro e w3 ⟨v3, rfl, hn3, hb3⟩
      rw [← HSG.out] at hn3
      clear hc
      obtain ⟨bbR, adR, lenR, capR, rfl, hrR⟩ := hn3.shape2
      have hslR := (Slot.of (n := 2) (HH.out.below hb3).2.1 rfl)
      obtain ⟨xR, yR, hxR, hyR, hfxR, hfyR⟩ := hslR.two
      have HRR := Lib.hid (fin_int hn3 hslR (by decide) (bel_on HB2.out hb3) (by omega))
      clear hrR hslR hn3 hb3
      go_wp2
      refine bodyPost_ret (v := .tuple #[.agg #[.bool bbR, .slice adR lenR capR], .int .i64 0]) (by simp [results, Tryz.results107, go_sem, HRR.out.2.2.1, HRR.out.2.2.2]) rfl (.inl ⟨HOK.out, _, rfl, HRR.out.1, HRR.out.2.1⟩)
    · have HZ := Lib.hid (show n ≠ 0 → IsInt s from fun h => ⟨by rw [hdg]; exact HNUM.out, fun _ => by rw [hdg, HDEC.out]; exact h⟩)
      have HZ0 := Lib.hid (show n = 0 → ¬ IsInt s from fun h h2 => h2.2 hng (by rw [hdg, HDEC.out]; exact h))
      clear hng hdg hx0 hy0 hfx0 hfy0
      go_wp2_with fail
      refine (isZero_any _ n 500 _ HN2.out (by decide)).mono ?_
      rintro e w3 ⟨rfl, hb3⟩
      have HH3 := Lib.hid (HH.out.below hb3)
      have hc3 := cell0 HH3.out.1
      have HB3 := Lib.hid (bel_on HB2.out hb3)
      have HN3 := Lib.hid (HN2.out.below hb3)
      clear hb3 hc
      by_cases h0 : n = 0
      · rw [decide_eq_true h0]
        clear hc3
        have hslR := (Slot.of (n := 2) HH3.out.2.1 rfl)
        obtain ⟨xR, yR, hxR, hyR, hfxR, hfyR⟩ := hslR.two
        have HRR := Lib.hid (fin_int (IntB.zero 146 _ 0) hslR (by decide) HB3.out (by omega))
        clear hslR 
        go_wp2
        refine bodyPost_ret (v := .tuple #[.agg #[.bool false, .slice none 0 0], .int .i64 2]) (by simp [results, Tryz.results107, go_sem, HRR.out.2.2.1, HRR.out.2.2.2]) rfl (.inr ⟨HZ0.out h0, rfl, HRR.out.2.1⟩)
      · rw [decide_eq_false h0]
        go_wp2_with fail
        refine (signed_any true _ n 500 _ HN3.out (by decide)).mono ?_
        rintro e w4 ⟨v4, rfl, hn4, hb4⟩
        rw [← HSG.out] at hn4
        clear hc3
        obtain ⟨bbR, adR, lenR, capR, rfl, hrR⟩ := hn4.shape2
        have hslR := (Slot.of (n := 2) (HH3.out.below hb4).2.1 rfl)
        obtain ⟨xR, yR, hxR, hyR, hfxR, hfyR⟩ := hslR.two
        have HRR := Lib.hid (fin_int hn4 hslR (by decide) (bel_on HB3.out hb4) (by omega))
        clear hrR hslR hn4 hb4
        go_wp2
        refine bodyPost_ret (v := .tuple #[.agg #[.bool bbR, .slice adR lenR capR], .int .i64 0]) (by simp [results, Tryz.results107, go_sem, HRR.out.2.2.1, HRR.out.2.2.2]) rfl (.inl ⟨HZ.out h0, _, rfl, HRR.out.1, HRR.out.2.1⟩)
  · have HNO := Lib.hid (show ¬ IsInt s from fun h => hnum (by rw [← hdg]; exact h.1))
    clear hng hdg
    go_wp2_with fail
    refine (parse_no dg _ hnum).mono ?_
    rintro e w2 ⟨rfl, hb2⟩
    have hh := ((heldN1 (w := w)).below hb2).new #[Value.slice none 0 0] 27
    have HH := Lib.hid hh
    have HB2 := Lib.hid (bel_on (bel_on (bel_alloc _ _) hb2) (bel_alloc w2 (Obj.cells #[Value.slice none 0 0] 27)))
    clear hh hb2
    have hslR := (Slot.of (n := 2) HH.out.2.1 rfl)
    obtain ⟨xR, yR, hxR, hyR, hfxR, hfyR⟩ := hslR.two
    have HRR := Lib.hid (fin_int (IntB.zero 146 _ 0) hslR (by decide) HB2.out (by omega))
    clear hslR 
    go_wp2
    refine bodyPost_ret (v := .tuple #[.agg #[.bool false, .slice none 0 0], .int .i64 2]) (by simp [results, Tryz.results107, go_sem, HRR.out.2.2.1, HRR.out.2.2.2]) rfl (.inr ⟨HNO.out, rfl, HRR.out.2.1⟩)

end Go.Proofs.YtfohgkabmdhhaaaGreatDoor
/- Contracts of the document's IntParse, of law2's num. -/
namespace Go.Proofs.YtfohgkabmdhhaaaGreatDoor
open Go.RowKit Cin

/-- What IntParse tells. -/
def RIntPost (s : ByteArray) (w : World) (e : Ending) (w' : World) : Prop :=
  (IsInt s ∧ ∃ v, e = .returned (.tuple #[v, .bool true]) ∧ IntB 146 w' v (intVal s) 500 ∧ Below w.heap.size w w') ∨
  (¬ IsInt s ∧ e = .returned (.tuple #[.agg #[.bool false, .slice none 0 0], .bool false]) ∧ Below w.heap.size w w')
theorem refV_len {t : TypeId} {w : World} {ad : Option Addr} {len cap n : Nat} (h : RefV t w (.slice ad len cap) n) : len = 0 ↔ n = 0 := by
  obtain ⟨xs, hs, ho, hnm, rfl⟩ := h
  have hl := hs.len
  constructor
  · intro e
    rw [List.length_eq_zero_iff.1 (hl.trans e)]; rfl
  · intro e
    rw [norm_val_zero hnm e] at hl
    exact hl.symm

set_option maxRecDepth 100000 in
set_option maxHeartbeats 800000 in
theorem rparse_any (s : ByteArray) (w : World) : Calls Tryz.prog 109 #[.string s] w (RIntPost s w) := by
  by_cases hn : negT s = true
  · have hdg : digT s = tl s := if_pos hn
    have hn2 := hn
    unfold negT at hn2
    simp only [Bool.and_eq_true, decide_eq_true_eq] at hn2
    have h0 : 0 < s.size := hn2.1
    have hb0 := byts_at s h0
    have hd1 : decide ((0 : Int) < (s.size : Int)) = true := by rw [decide_eq_true_iff]; omega
    have hd2 : (((s[0].toNat : Nat) : Int) == 45) = true := by rw [hb0, hn2.2]; rfl
    have HN := Lib.hid hn
    have HDG := Lib.hid hdg
    clear hn hn2 hb0 hdg
    go_enter Tryz.func109, Tryz.ntmps109
    go_wp2_with fail
    refine (refParse_any (tl s) _).mono ?_
    rintro e w1 (⟨hnum, v, rfl, hv, hb⟩ | ⟨hnum, rfl, hb⟩)
    · obtain ⟨ad, len, cap, xs, rfl, _⟩ := hv.shape
      have hl := refV_len hv
      have HNUM := Lib.hid hnum
      have HV := Lib.hid hv
      have HH := Lib.hid ((heldN1 (w := w)).below hb)
      have HB := Lib.hid (bel_on (bel_alloc _ _) hb)
      clear hnum hv hb
      by_cases hz : len = 0
      · have hz0 := hl.1 hz
        have HNO := Lib.hid (show ¬ IsInt s from fun h => h.2 HN.out (by rw [HDG.out]; exact hz0))
        subst hz
        clear hl hz0
        have hslR := (Slot.of (n := 2) HH.out.1 rfl)
        obtain ⟨xR, yR, hxR, hyR, hfxR, hfyR⟩ := hslR.two
        have HRR := Lib.hid (fin_int (IntB.zero 146 _ 0) hslR (by decide) HB.out (by omega))
        clear hslR 
        go_wp2
        refine bodyPost_ret (v := .tuple #[.agg #[.bool false, .slice none 0 0], .bool false]) (by simp [results, Tryz.results109, go_sem, HRR.out.2.2.1, HRR.out.2.2.2]) rfl (.inr ⟨HNO.out, rfl, HRR.out.2.1⟩)
      · have hz0 := fun h => hz (hl.2 h)
        have HOK := Lib.hid (show IsInt s from ⟨by rw [HDG.out]; exact HNUM.out, fun _ => by rw [HDG.out]; exact hz0⟩)
        have hI := intB_of (b := true) (bb := true) (k := 500) HV.out (isNum_lt HNUM.out) (by rw [decide_eq_false hz0]; rfl)
        rw [show sg true (decL (byts (tl s))) = intVal s by unfold intVal; rw [HN.out, HDG.out]] at hI
        have hzb : ((len : Int) == 0) = false := beq_eq_false_iff_ne.2 (by omega)
        have HI := Lib.hid hI
        have HSL := Lib.hid (Slot.of (n := 2) HH.out.1 rfl)
        have HRR := Lib.hid (fin_int HI.out HSL.out (by decide) HB.out (Nat.le_refl _))
        obtain ⟨xR, yR, hxR, hyR, hfxR, hfyR⟩ := HSL.out.two
        clear hl hz0 hI
        go_wp2
        refine bodyPost_ret (v := .tuple #[.agg #[.bool true, .slice ad len cap], .bool true]) (by simp [results, Tryz.results109, go_sem, HRR.out.2.2.1, HRR.out.2.2.2]) rfl (.inl ⟨HOK.out, _, rfl, HRR.out.1, HRR.out.2.1⟩)
    · have HNO := Lib.hid (show ¬ IsInt s from fun h => hnum (by rw [← HDG.out]; exact h.1))
      have HH := Lib.hid ((heldN1 (w := w)).below hb)
      have HB := Lib.hid (bel_on (bel_alloc _ _) hb)
      clear hb hnum
      have hslR := (Slot.of (n := 2) HH.out.1 rfl)
      obtain ⟨xR, yR, hxR, hyR, hfxR, hfyR⟩ := hslR.two
      have HRR := Lib.hid (fin_int (IntB.zero 146 _ 0) hslR (by decide) HB.out (by omega))
      clear hslR 
      go_wp2
      refine bodyPost_ret (v := .tuple #[.agg #[.bool false, .slice none 0 0], .bool false]) (by simp [results, Tryz.results109, go_sem, HRR.out.2.2.1, HRR.out.2.2.2]) rfl (.inr ⟨HNO.out, rfl, HRR.out.2.1⟩)
  · have hdg : digT s = s := if_neg hn
    have HN := Lib.hid (show negT s = false by simpa using hn)
    have HDG := Lib.hid hdg
    have hcase : (s.size = 0 ∧ decide ((0 : Int) < (s.size : Int)) = false) ∨ (∃ h0 : 0 < s.size, decide ((0 : Int) < (s.size : Int)) = true ∧ (((s[0].toNat : Nat) : Int) == 45) = false) := by
      by_cases h0 : 0 < s.size
      · right
        refine ⟨h0, by rw [decide_eq_true_iff]; omega, ?_⟩
        rw [byts_at s h0, beq_eq_false_iff_ne]
        intro e
        apply hn
        unfold negT
        simp only [Bool.and_eq_true, decide_eq_true_eq]
        exact ⟨h0, by omega⟩
      · left
        refine ⟨by omega, ?_⟩
        rw [decide_eq_false_iff_not]; omega
    clear hn hdg
    rcases hcase with ⟨hs0, hd⟩ | ⟨h0, hd, hd2⟩
    all_goals
      go_enter Tryz.func109, Tryz.ntmps109
      go_wp2_with fail
      refine (refParse_any s _).mono ?_
      rintro e w1 (⟨hnum, v, rfl, hv, hb⟩ | ⟨hnum, rfl, hb⟩)
      · obtain ⟨ad, len, cap, xs, rfl, _⟩ := hv.shape
        have HOK := Lib.hid (show IsInt s from ⟨by rw [HDG.out]; exact hnum, by rw [HN.out]; intro h; cases h⟩)
        have hI := intB_of (b := false) (bb := false) (k := 500) hv (isNum_lt hnum) rfl
        rw [show sg false (decL (byts s)) = intVal s by unfold intVal; rw [HN.out, HDG.out]] at hI
        have HI := Lib.hid hI
        have HSL := Lib.hid (Slot.of (n := 2) ((heldN1 (w := w)).below hb).1 rfl)
        have HRR := Lib.hid (fin_int HI.out HSL.out (by decide) (bel_on (bel_alloc _ _) hb) (Nat.le_refl _))
        obtain ⟨xR, yR, hxR, hyR, hfxR, hfyR⟩ := HSL.out.two
        clear hnum hv hb hI
        go_wp2
        refine bodyPost_ret (v := .tuple #[.agg #[.bool false, .slice ad len cap], .bool true]) (by simp [results, Tryz.results109, go_sem, HRR.out.2.2.1, HRR.out.2.2.2]) rfl (.inl ⟨HOK.out, _, rfl, HRR.out.1, HRR.out.2.1⟩)
      · have HNO := Lib.hid (show ¬ IsInt s from fun h => hnum (by rw [← HDG.out]; exact h.1))
        have HH := Lib.hid ((heldN1 (w := w)).below hb)
        have HB := Lib.hid (bel_on (bel_alloc _ _) hb)
        clear hb hnum
        have hslR := (Slot.of (n := 2) HH.out.1 rfl)
        obtain ⟨xR, yR, hxR, hyR, hfxR, hfyR⟩ := hslR.two
        have HRR := Lib.hid (fin_int (IntB.zero 146 _ 0) hslR (by decide) HB.out (by omega))
        clear hslR 
        go_wp2
        refine bodyPost_ret (v := .tuple #[.agg #[.bool false, .slice none 0 0], .bool false]) (by simp [results, Tryz.results109, go_sem, HRR.out.2.2.1, HRR.out.2.2.2]) rfl (.inr ⟨HNO.out, rfl, HRR.out.2.1⟩)

/-- What num takes and tells. -/
def NumOk (a : ByteArray) : Prop := IsInt a ∧ a.size ≤ 150
def NumIPost (a : ByteArray) (w : World) (e : Ending) (w' : World) : Prop :=
  (NumOk a ∧ ∃ v u, e = .returned (.tuple #[v, u, .bool true]) ∧ IntB 146 w' v (intVal a) 21 ∧ IntB 146 w' u (intVal a) 21 ∧ Below w.heap.size w w') ∨
  (¬ NumOk a ∧ e = .returned (.tuple #[.agg #[.bool false, .slice none 0 0], .agg #[.bool false, .slice none 0 0], .bool false]) ∧ Below w.heap.size w w')
theorem intVal_lt {s : ByteArray} (h : NumOk s) : (intVal s).natAbs < pw 21 := by
  unfold intVal
  rw [sg_natAbs]
  refine decL_lt_pw h.1.1.2.2.2 ?_
  have h2 := h.2
  unfold digT
  split
  · rw [byts_tl, List.length_drop, byts_length]; omega
  · rw [byts_length]; omega

end Go.Proofs.YtfohgkabmdhhaaaGreatDoor
/- Contracts of nat's and whole's Div of small numbers, of whole's Text of small numbers, of law2's alive. -/
namespace Go.Proofs.YtfohgkabmdhhaaaGreatDoor
open Go.RowKit Cin

theorem lowB (v : Value) (n : Nat) (w : World) (h : NatB 146 w v n 2) :
    Calls Tryz.prog 159 #[v] w fun e w' => e = .returned (.int .u64 (n : Nat)) ∧ Below w.heap.size w w' :=
  (low_any v n w h.1).mono fun _ _ ⟨e, hb⟩ => ⟨by rw [e, Nat.mod_eq_of_lt (show n < 18446744073709551616 from h.2)], hb⟩

set_option maxRecDepth 100000 in
set_option maxHeartbeats 1600000 in
/-- Div of two words, b not 0. -/
theorem divSmall_any (v u : Value) (x y : Nat) (w : World) (h : NatB 146 w v x 2) (h' : NatB 146 w u y 2) (hy : y ≠ 0) :
    Calls Tryz.prog 152 #[v, u] w fun e w' => ∃ v' u', e = .returned (.tuple #[v', u', .bool true]) ∧ NatB 146 w' v' (x / y) 2 ∧ NatB 146 w' u' (x % y) 2 ∧ Below w.heap.size w w' := by
  obtain ⟨ad, len, cap, rfl, xs, hs, ho, hnm, hx⟩ := h.shape
  obtain ⟨ad', len', cap', rfl, ys, hs', ho', hnm', hy'⟩ := h'.shape
  have hlx := hs.len
  have hly := hs'.len
  have hl : len ≤ 2 := by have := norm_len hnm (m := 2) (by rw [hx]; exact h.2); omega
  have hl' : len' ≤ 2 := by have := norm_len hnm' (m := 2) (by rw [hy']; exact h'.2); omega
  have hl0 : len' ≠ 0 := fun e => hy (by rw [← hy', List.length_eq_zero_iff.1 (hly.trans e)]; rfl)
  have hxl : x < 18446744073709551616 := h.2
  have hyl : y < 18446744073709551616 := h'.2
  have hq := Nat.div_le_self x y
  have hm := Nat.mod_lt x (Nat.pos_of_ne_zero hy)
  have hlb : ((len' : Int) == 0) = false := beq_eq_false_iff_ne.2 (by omega)
  obtain ⟨q, eq1, hqd⟩ : ∃ q : Nat, IntKind.u64.wrap ((x : Int) / (y : Int)) = (q : Int) ∧ q = x / y := ⟨x / y, by rw [← Int.natCast_ediv]; generalize x / y = q at *; rw [IntKind.wrap_u64]; omega, rfl⟩
  obtain ⟨r, eq2, hrd⟩ : ∃ r : Nat, (x : Int).tmod (y : Int) = (r : Int) ∧ r = x % y := ⟨x % y, rfl, rfl⟩
  have hql : q < 18446744073709551616 := by omega
  have hrl : r < 18446744073709551616 := by omega
  have HQD := Lib.hid hqd
  have HRD := Lib.hid hrd
  rw [← hqd, ← hrd]
  clear hqd hrd hq hm
  have H := Lib.hid h
  have H' := Lib.hid h'
  clear h h' hs hs' ho ho' hnm hnm' hx hy' hlx hly
  go_enter Tryz.func152, Tryz.ntmps152
  go_wp2_with fail
  have hh := heldN4 (w := w) (c0 := #[Value.slice ad len cap]) (t0 := 27) (c1 := #[Value.slice ad' len' cap']) (t1 := 27) (c2 := #[Value.slice none 0 0]) (t2 := 27) (c3 := #[Value.slice none 0 0]) (t3 := 27)
  have hbX := bel_alloc4 w (Obj.cells #[Value.slice ad len cap] 27) (Obj.cells #[Value.slice ad' len' cap'] 27) (Obj.cells #[Value.slice none 0 0] 27) (Obj.cells #[Value.slice none 0 0] 27)
  generalize (((w.alloc (Obj.cells #[Value.slice ad len cap] 27)).alloc (Obj.cells #[Value.slice ad' len' cap'] 27)).alloc (Obj.cells #[Value.slice none 0 0] 27)).alloc (Obj.cells #[Value.slice none 0 0] 27) = X at *
  have hc0 := cell0 hh.1
  have hd0 := cell0 hh.2.1
  have HS0 := Lib.hid (Slot.of (n := 1) hh.2.2.1 rfl)
  have HS1 := Lib.hid (Slot.of (n := 1) hh.2.2.2.1 rfl)
  have HBX := Lib.hid hbX
  clear hh hbX
  refine wp_region_sched (fun w' => w'.cell? ⟨w.heap.size, 0, none⟩ = some (.slice ad len cap) ∧ w'.cell? ⟨w.heap.size + 1, 0, none⟩ = some (.slice ad' len' cap') ∧ Slot w' (w.heap.size + 1 + 1) 27 1 ∧ Slot w' (w.heap.size + 1 + 1 + 1) 27 1 ∧ Below w.heap.size w w') [(0, true), (2, true), (6, true), (8, true), (1, false), (3, false), (4, true), (5, false), (7, false), (9, false), (10, true), (11, false), (12, false), (13, false), (14, true)] (by kernel_rfl) (by kernel_rfl) ?_ (fun hHeld => ?_)
  · (try dsimp only)
    exact ⟨hc0, hd0, HS0.out.drew, HS1.out.drew, HBX.out.drew⟩
  try dsimp only at hHeld
  repeat (refine wpSched_at (by simp only [List.getElem?_toArray, List.getElem?_cons_zero, List.getElem?_cons_succ]; rfl) ?_; (first | (apply wpAt_take rfl; (intro wx hSx; (try dsimp only at hSx); go_simp; (try with_reducible rfl)); simp only [Act.put, List.setIfInBounds_toArray, List.set_cons_zero, List.set_cons_succ]) | (refine wpAt_skip rfl ?_; simp only [Act.put, List.setIfInBounds_toArray, List.set_cons_zero, List.set_cons_succ]) | (refine wpAt_pass rfl hHeld ?_; simp only [Act.put, List.setIfInBounds_toArray, List.set_cons_zero, List.set_cons_succ]) | (refine wpAt_eff rfl (fun K hK => ?_); ((obtain ⟨x0, hx0, hfx0⟩ := hHeld.2.2.1.one); (try simp only [cell_drew, frozen_drew] at hx0 hfx0); (obtain ⟨x1, hx1, hfx1⟩ := hHeld.2.2.2.1.one); (try simp only [cell_drew, frozen_drew] at hx1 hfx1)); go_simp; (first | (go_at_call 159; (with_reducible refine (lowB (.agg #[.slice ad len cap]) x _ ?_).mono ?_); (exact H.out.below hHeld.2.2.2.2); rintro e w' ⟨rfl, hb⟩; (try replace NQ := Lib.hid (NQ.out.below hb)); have hS := And.intro trivial (And.intro (cell_below hHeld.1 hb) (And.intro (cell_below hHeld.2.1 hb) (And.intro (hHeld.2.2.1.below hb) (And.intro (hHeld.2.2.2.1.below hb) (bel_on hHeld.2.2.2.2 hb))))); clear hb hHeld) | (go_at_call 159; (with_reducible refine (lowB (.agg #[.slice ad' len' cap']) y _ ?_).mono ?_); (exact H'.out.below hHeld.2.2.2.2); rintro e w' ⟨rfl, hb⟩; (try replace NQ := Lib.hid (NQ.out.below hb)); have hS := And.intro trivial (And.intro (cell_below hHeld.1 hb) (And.intro (cell_below hHeld.2.1 hb) (And.intro (hHeld.2.2.1.below hb) (And.intro (hHeld.2.2.2.1.below hb) (bel_on hHeld.2.2.2.2 hb))))); clear hb hHeld) | (go_at_call 141; (with_reducible refine (ofB q _ hql).mono ?_); rintro e w' ⟨vq, rfl, hn, hb⟩; (try replace NQ := Lib.hid (NQ.out.below hb)); have NQ := Lib.hid hn; obtain ⟨adQ, lenQ, capQ, rfl⟩ := NQ.out.shape2; have hS := And.intro trivial (And.intro (cell_below hHeld.1 hb) (And.intro (cell_below hHeld.2.1 hb) (And.intro (hHeld.2.2.1.below hb) (And.intro (hHeld.2.2.2.1.below hb) (bel_on hHeld.2.2.2.2 hb))))); clear hb hHeld hn) | (go_at_call 141; (with_reducible refine (ofB r _ hrl).mono ?_); rintro e w' ⟨vr, rfl, hn, hb⟩; (try replace NQ := Lib.hid (NQ.out.below hb)); have NR := Lib.hid hn; obtain ⟨adR, lenR, capR, rfl⟩ := NR.out.shape2; have hS := And.intro trivial (And.intro (cell_below hHeld.1 hb) (And.intro (cell_below hHeld.2.1 hb) (And.intro (hHeld.2.2.1.below hb) (And.intro (hHeld.2.2.2.1.below hb) (bel_on hHeld.2.2.2.2 hb))))); clear hb hHeld hn) | (try simp only [cell_drew, slot_drew, below_drew] at hHeld)); (refine hK.out _ _ ?_ (fun hHeld => ?_)); ((try dsimp only); ((try simp only [cell_drew, slot_drew, below_drew]); refine ⟨?_, ?_, ?_, ?_, ?_⟩; (first | exact hS.2.1 | with_reducible exact cell_set hHeld.1 (by omega) | with_reducible exact cell_set (cell_set hHeld.1 (by omega)) (by omega)); (first | exact hS.2.2.1 | with_reducible exact cell_set hHeld.2.1 (by omega) | with_reducible exact cell_set (cell_set hHeld.2.1 (by omega)) (by omega)); (first | exact hS.2.2.2.1 | with_reducible exact hHeld.2.2.1.set _ _ _ | with_reducible exact (hHeld.2.2.1.set _ _ _).set _ _ _); (first | exact hS.2.2.2.2.1 | with_reducible exact hHeld.2.2.2.1.set _ _ _ | with_reducible exact (hHeld.2.2.2.1.set _ _ _).set _ _ _); (first | exact hS.2.2.2.2.2 | with_reducible exact bel_set1 hHeld.2.2.2.2 (by omega) | with_reducible exact bel_set2 hHeld.2.2.2.2 (by omega) (by omega)))); clear hK K; (try clear hS); (try clear hfx0 hx0 x0); (try clear hfy0 hy0 y0); (try clear hfx1 hx1 x1); (try clear hfy1 hy1 y1); (try dsimp only at hHeld))))
  refine wpSched_nil ?_
  rename_i hOld _
  have HF := Lib.hid (fin_nat2 NQ.out NR.out hOld.2.2.1 hOld.2.2.2.1 (by decide) (by decide) hOld.2.2.2.2 (by omega) (by omega) (by omega) rfl)
  clear hHeld hOld
  go_wp2_with fail
  refine bodyPost_ret (v := .tuple #[.agg #[.slice adQ lenQ capQ], .agg #[.slice adR lenR capR], .bool true]) (by simp [results, Tryz.results152, go_sem, HF.out.2.2.2.1, HF.out.2.2.2.2]) rfl ⟨_, _, rfl, HF.out.1, HF.out.2.1, HF.out.2.2.1⟩


set_option maxHeartbeats 800000 in
/-- Text of a small number. -/
theorem itextSmall (v : Value) (z : Int) (k : Nat) (w : World) (h : IntB 146 w v z k) (hz : z.natAbs < 100) :
    Calls Tryz.prog 116 #[v] w fun e w' => e = .returned (.string (intS z)) ∧ Below w.heap.size w w' := by
  obtain ⟨ad, len, cap, rfl, hr⟩ := h.shape
  have H := Lib.hid h.part.1
  have hlen := dec_len 2 z.natAbs (by decide) hz
  clear h hr
  by_cases h0 : z < 0
  · rw [decide_eq_true h0, intS_neg h0]
    go_enter Tryz.func116, Tryz.ntmps116
    go_wp2_with fail
    refine (text_small _ z.natAbs _ (H.out.1.below (bel_alloc _ _)) hz).mono ?_
    rintro e w1 ⟨rfl, hb⟩
    have HB := Lib.hid (bel_on (bel_alloc _ _) hb)
    clear hb
    go_wp2
    go_ret
    exact ⟨rfl, HB.out⟩
  · rw [decide_eq_false h0, intS_pos h0]
    go_enter Tryz.func116, Tryz.ntmps116
    go_wp2_with fail
    refine (text_small _ z.natAbs _ (H.out.1.below (bel_alloc _ _)) hz).mono ?_
    rintro e w1 ⟨rfl, hb⟩
    have HB := Lib.hid (bel_on (bel_alloc _ _) hb)
    clear hb
    go_wp2
    go_ret
    exact ⟨rfl, HB.out⟩

end Go.Proofs.YtfohgkabmdhhaaaGreatDoor
