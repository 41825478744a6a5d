/- Contracts of whole's Parse, of the document's IntParse. -/
import Derived.Test.YtpchnejdbmoicaaDoorI2
import Derived.Test.YtpchnejdbmoicaaDoorShelf
import Derived.Test.YtpchnejdbmoicaaDoorWU
namespace Go.Proofs.YtpchnejdbmoicaaDoor
open Go.RowKit Cin

/-- A text that begins with a minus. -/
def negT (s : ByteArray) : Bool := decide (0 < s.size) && decide (lim (byts s) 0 = 45)
/-- What is behind the first byte. -/
def tl (s : ByteArray) : ByteArray := s.extract 1 s.size
theorem byts_tl (s : ByteArray) : byts (tl s) = (byts s).drop 1 := by
  unfold tl; rw [byts_extract, List.take_of_length_le (by rw [List.length_drop, byts_length]; omega)]
/-- The digits of a text: behind a minus, if there is one. -/
def digT (s : ByteArray) : ByteArray := if negT s then tl s else s
/-- A text that is a whole number. -/
def IsInt (s : ByteArray) : Prop := IsNum (byts (digT s)) ∧ (negT s = true → decL (byts (digT s)) ≠ 0)
/-- The whole number. -/
def intVal (s : ByteArray) : Int := sg (negT s) (decL (byts (digT s)))
theorem hasPrefix_minus (s : ByteArray) : Lib.hasPrefix s.data.toList [45] = negT s := by
  obtain ⟨⟨l⟩⟩ := s
  cases l with
  | nil => rfl
  | cons x l =>
    have hx : lim (byts ⟨⟨x :: l⟩⟩) 0 = x.toNat := rfl
    have hs : (⟨⟨x :: l⟩⟩ : ByteArray).size = l.length + 1 := rfl
    unfold negT
    rw [hx, hs]
    unfold Lib.hasPrefix
    rw [List.isPrefixOf_cons_cons]
    simp only [List.isPrefixOf_nil_left, Bool.and_true, Nat.zero_lt_succ, decide_true, Bool.true_and]
    by_cases h : x = 45
    · subst h; rfl
    · rw [beq_eq_false_iff_ne.2 (Ne.symm h), decide_eq_false]
      intro e
      exact h (UInt8.toNat_inj.1 e)
theorem ten_lt4 : 10 ^ 4000 < pw 500 := by decide +kernel
theorem decL_lt_pw4 {l : List Nat} (h : Digs l) (hl : l.length ≤ 4000) : decL l < pw 500 :=
  Nat.lt_of_lt_of_le (decL_lt h) (Nat.le_trans (Nat.pow_le_pow_right (by decide) hl) (Nat.le_of_lt ten_lt4))
theorem isNum_lt {l : List Nat} (h : IsNum l) : decL l < pw 500 := decL_lt_pw4 h.2.2.2 h.2.1

set_option maxHeartbeats 400000 in
theorem cutPrefixL_any (s : ByteArray) (w : World) :
    Calls Tryd.prog 108 #[.string s, .string ⟨#[45]⟩] w fun e w' => e = .returned (.tuple #[.string (digT s), .bool (negT s)]) ∧ w = w' := by
  have hp := hasPrefix_minus s
  unfold digT
  by_cases hn : negT s = true
  · rw [hn] at hp
    rw [if_pos hn, hn]
    have hsz : 1 ≤ s.size := by unfold negT at hn; simp at hn; omega
    clear hn
    go_enter Tryd.func108, Tryd.ntmps108
    go_wp2_with fail
    refine (Tryd.stringslite_HasPrefix s ⟨#[45]⟩ _).mono ?_
    rintro e w1 ⟨rfl, rfl⟩
    rw [hp]
    go_wp2
    go_ret2
    exact ⟨rfl, rfl⟩
  · have hn' : negT s = false := by simpa using hn
    rw [hn'] at hp
    rw [if_neg hn, hn']
    clear hn hn'
    go_enter Tryd.func108, Tryd.ntmps108
    go_wp2_with fail
    refine (Tryd.stringslite_HasPrefix s ⟨#[45]⟩ _).mono ?_
    rintro e w1 ⟨rfl, rfl⟩
    rw [hp]
    go_wp2
    go_ret2
    exact ⟨rfl, rfl⟩

set_option maxHeartbeats 400000 in
theorem cutPrefix_any (s : ByteArray) (w : World) :
    Calls Tryd.prog 96 #[.string s, .string ⟨#[45]⟩] w fun e w' => e = .returned (.tuple #[.string (digT s), .bool (negT s)]) ∧ w = w' := by
  go_enter Tryd.func96, Tryd.ntmps96
  go_wp2_with fail
  refine (cutPrefixL_any s _).mono ?_
  rintro e w1 ⟨rfl, rfl⟩
  go_wp2
  go_ret2
  exact ⟨rfl, rfl⟩

/-- What Parse tells. -/
def ParsePost (s : ByteArray) (w : World) (e : Ending) (w' : World) : Prop :=
  (IsInt s ∧ ∃ v, e = .returned (.tuple #[v, .int .i64 0]) ∧ IntB 68 w' v (intVal s) 500 ∧ Below w.heap.size w w') ∨
  (¬ IsInt s ∧ e = .returned (.tuple #[.agg #[.bool false, .slice none 0 0], .int .i64 2]) ∧ Below w.heap.size w w')

set_option maxRecDepth 100000 in
set_option maxHeartbeats 800000 in
theorem iparse_any (s : ByteArray) (w : World) : Calls Tryd.prog 76 #[.string s] w (ParsePost s w) := by
  go_enter Tryd.func76, Tryd.ntmps76
  go_wp2_with fail
  refine (cutPrefix_any s _).mono ?_
  rintro e w1 ⟨rfl, rfl⟩
  generalize hng : negT s = ng
  generalize hdg : digT s = dg
  by_cases hnum : IsNum (byts dg)
  · have hb500 := isNum_lt hnum
    go_wp2_with fail
    refine (parse_yes dg _ hnum).mono ?_
    rintro e w2 ⟨v2, rfl, hn2, hb2⟩
    obtain ⟨ad2, len2, cap2, rfl, hr2⟩ := hn2.shape
    have HN2 := Lib.hid (show NatB 68 (w2.alloc (Obj.cells #[Value.slice ad2 len2 cap2] 25)) (.agg #[.slice ad2 len2 cap2]) (decL (byts dg)) 500 from ⟨hn2.below (bel_alloc _ _), hb500⟩)
    have hh := ((heldN1 (w := w)).below hb2).new #[Value.slice ad2 len2 cap2] 25
    have hc := cell0 hh.1
    have hsl := Slot.of (n := 2) hh.2.1 rfl
    obtain ⟨x0, y0, hx0, hy0, hfx0, hfy0⟩ := hsl.two
    have HH := Lib.hid hh
    have HB2 := Lib.hid (bel_on (bel_on (bel_alloc _ _) hb2) (bel_alloc w2 (Obj.cells #[Value.slice ad2 len2 cap2] 25)))
    have HNUM := Lib.hid hnum
    clear hn2 hr2 hb2 hh hsl hnum hb500
    generalize hdec : decL (byts dg) = n at *
    have HDEC := Lib.hid hdec
    clear hdec
    have HSG := Lib.hid (show intVal s = sg ng n by unfold intVal; rw [hng, hdg, HDEC.out])
    cases ng
    · have HOK := Lib.hid (show IsInt s from ⟨by rw [hdg]; exact HNUM.out, by rw [hng]; intro h; cases h⟩)
      clear hng hdg hx0 hy0 hfx0 hfy0
      go_wp2_with fail
      refine (signed_any false _ n 500 _ HN2.out (by decide)).mono ?_
      rintro e w3 ⟨v3, rfl, hn3, hb3⟩
      rw [← HSG.out] at hn3
      clear hc
      obtain ⟨bbR, adR, lenR, capR, rfl, hrR⟩ := hn3.shape2
      have hslR := (Slot.of (n := 2) (HH.out.below hb3).2.1 rfl)
      obtain ⟨xR, yR, hxR, hyR, hfxR, hfyR⟩ := hslR.two
      have HRR := Lib.hid (fin_int hn3 hslR (by decide) (bel_on HB2.out hb3) (by omega))
      clear hrR hslR hn3 hb3
      go_wp2
      refine bodyPost_ret (v := .tuple #[.agg #[.bool bbR, .slice adR lenR capR], .int .i64 0]) (by simp [results, Tryd.results76, go_sem, HRR.out.2.2.1, HRR.out.2.2.2]) rfl (.inl ⟨HOK.out, _, rfl, HRR.out.1, HRR.out.2.1⟩)
    · have HZ := Lib.hid (show n ≠ 0 → IsInt s from fun h => ⟨by rw [hdg]; exact HNUM.out, fun _ => by rw [hdg, HDEC.out]; exact h⟩)
      have HZ0 := Lib.hid (show n = 0 → ¬ IsInt s from fun h h2 => h2.2 hng (by rw [hdg, HDEC.out]; exact h))
      clear hng hdg hx0 hy0 hfx0 hfy0
      go_wp2_with fail
      refine (isZero_any _ n 500 _ HN2.out (by decide)).mono ?_
      rintro e w3 ⟨rfl, hb3⟩
      have HH3 := Lib.hid (HH.out.below hb3)
      have hc3 := cell0 HH3.out.1
      have HB3 := Lib.hid (bel_on HB2.out hb3)
      have HN3 := Lib.hid (HN2.out.below hb3)
      clear hb3 hc
      by_cases h0 : n = 0
      · rw [decide_eq_true h0]
        clear hc3
        have hslR := (Slot.of (n := 2) HH3.out.2.1 rfl)
        obtain ⟨xR, yR, hxR, hyR, hfxR, hfyR⟩ := hslR.two
        have HRR := Lib.hid (fin_int (IntB.zero 68 _ 0) hslR (by decide) HB3.out (by omega))
        clear hslR 
        go_wp2
        refine bodyPost_ret (v := .tuple #[.agg #[.bool false, .slice none 0 0], .int .i64 2]) (by simp [results, Tryd.results76, go_sem, HRR.out.2.2.1, HRR.out.2.2.2]) rfl (.inr ⟨HZ0.out h0, rfl, HRR.out.2.1⟩)
      · rw [decide_eq_false h0]
        go_wp2_with fail
        refine (signed_any true _ n 500 _ HN3.out (by decide)).mono ?_
        rintro e w4 ⟨v4, rfl, hn4, hb4⟩
        rw [← HSG.out] at hn4
        clear hc3
        obtain ⟨bbR, adR, lenR, capR, rfl, hrR⟩ := hn4.shape2
        have hslR := (Slot.of (n := 2) (HH3.out.below hb4).2.1 rfl)
        obtain ⟨xR, yR, hxR, hyR, hfxR, hfyR⟩ := hslR.two
        have HRR := Lib.hid (fin_int hn4 hslR (by decide) (bel_on HB3.out hb4) (by omega))
        clear hrR hslR hn4 hb4
        go_wp2
        refine bodyPost_ret (v := .tuple #[.agg #[.bool bbR, .slice adR lenR capR], .int .i64 0]) (by simp [results, Tryd.results76, go_sem, HRR.out.2.2.1, HRR.out.2.2.2]) rfl (.inl ⟨HZ.out h0, _, rfl, HRR.out.1, HRR.out.2.1⟩)
  · have HNO := Lib.hid (show ¬ IsInt s from fun h => hnum (by rw [← hdg]; exact h.1))
    clear hng hdg
    go_wp2_with fail
    refine (parse_no dg _ hnum).mono ?_
    rintro e w2 ⟨rfl, hb2⟩
    have hh := ((heldN1 (w := w)).below hb2).new #[Value.slice none 0 0] 25
    have HH := Lib.hid hh
    have HB2 := Lib.hid (bel_on (bel_on (bel_alloc _ _) hb2) (bel_alloc w2 (Obj.cells #[Value.slice none 0 0] 25)))
    clear hh hb2
    have hslR := (Slot.of (n := 2) HH.out.2.1 rfl)
    obtain ⟨xR, yR, hxR, hyR, hfxR, hfyR⟩ := hslR.two
    have HRR := Lib.hid (fin_int (IntB.zero 68 _ 0) hslR (by decide) HB2.out (by omega))
    clear hslR 
    go_wp2
    refine bodyPost_ret (v := .tuple #[.agg #[.bool false, .slice none 0 0], .int .i64 2]) (by simp [results, Tryd.results76, go_sem, HRR.out.2.2.1, HRR.out.2.2.2]) rfl (.inr ⟨HNO.out, rfl, HRR.out.2.1⟩)

end Go.Proofs.YtpchnejdbmoicaaDoor
