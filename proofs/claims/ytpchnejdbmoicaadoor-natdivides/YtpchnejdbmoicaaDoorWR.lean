/- The contract of nat's Parse. -/
import Derived.Test.YtpchnejdbmoicaaDoorWQ
namespace Go.Proofs.YtpchnejdbmoicaaDoor
open Go.RowKit Cin

set_option maxRecDepth 100000 in
set_option maxHeartbeats 1000000 in
/-- Parse, of a text that is none: the zero Nat and ErrForm. -/
theorem parse_no (s : ByteArray) (w : World) (h : ¬ IsNum (byts s)) :
    Calls Tryd.prog 10 #[.string s] w fun e w' => e = .returned (.tuple #[.agg #[.slice none 0 0], .int .i64 2]) ∧ Below w.heap.size w w' := by
  have H := Lib.hid h
  clear h
  go_enter Tryd.func10, Tryd.ntmps10
  go_wp2_with fail
  refine (isNumber_any s _).mono ?_
  rintro e w1 ⟨b, rfl, hb, rfl⟩
  obtain rfl : b = false := by cases b with | false => rfl | true => exact absurd (hb.1 rfl) H.out
  clear hb
  go_wp2
  refine bodyPost_ret (v := .tuple #[.agg #[.slice none 0 0], .int .i64 2]) (by simp [results, Tryd.results10, go_sem]) rfl ⟨rfl, bel_alloc _ _⟩

/-- timesAndMore by 10 to the 9th, the factor as the text has it. -/
theorem times_group (v : Value) (xs : List Nat) (more base : Nat) (w : World) (h : Own 68 .u32 w base v xs) (ho : Ok xs) (hm : more < 4294967296) (hl : xs.length ≤ 100000000) (hbase : base ≤ w.heap.size) :
    Calls Tryd.prog 47 #[v, .int .u32 1000000000, .int .u32 more] w fun e w' => ∃ v' zs, e = .returned v' ∧ Own 68 .u32 w' base v' zs ∧ Ok zs ∧ val zs = val xs * 1000000000 + more ∧ zs.length ≤ xs.length + 1 ∧ Below base w w' := by
  obtain ⟨g, hg⟩ : ∃ g : Nat, g = 1000000000 := ⟨_, rfl⟩
  have hi : (1000000000 : Int) = (g : Int) := by omega
  rw [hi, ← hg]
  exact times_any v xs g more base w h ho (by omega) hm hl hbase

/-- How long a text in a slot is. -/
def strLen : Value → Nat
  | .string s => s.size
  | _ => 0

/-- One group more. -/
theorem group_step {l l' : List Nat} {p n : Nat} (hl : l' = l.drop p) (hp : p < l.length) (hn : n = (l'.length - 1) % 9 + 1) (hdiv : p = 0 ∨ (l.length - p) % 9 = 0) :
    n ≤ l'.length ∧ n ≤ 9 ∧ 1 ≤ n ∧ decL (l.take (p + n)) = decL (l.take p) * 1000000000 + decL (l'.take n) ∧ l'.drop n = l.drop (p + n) ∧ (l.length - (p + n)) % 9 = 0 ∧ p + n ≤ l.length := by
  have e0 : l'.length = l.length - p := by rw [hl, List.length_drop]
  refine ⟨by omega, by omega, by omega, ?_, by rw [hl, List.drop_drop], by omega, by omega⟩
  have e1 : l.take (p + n) = l.take p ++ l'.take n := by rw [hl, List.take_add]
  rw [e1, decL_append, List.length_take]
  rcases hdiv with rfl | hd
  · simp [decL]
  · rw [show min n l'.length = 9 by omega]

set_option maxRecDepth 100000 in
set_option maxHeartbeats 1000000 in
/-- Parse, of a number's text: that number. -/
theorem parse_yes (s : ByteArray) (w : World) (h : IsNum (byts s)) :
    Calls Tryd.prog 10 #[.string s] w fun e w' => ∃ v, e = .returned (.tuple #[v, .int .i64 0]) ∧ NatV 68 w' v (decL (byts s)) ∧ Below w.heap.size w w' := by
  obtain ⟨i0, hi0, hz0, hz1, hz2⟩ := info_parts info_u32
  have hsz : s.size ≤ 4000 := by have := h.2.1; rwa [byts_length] at this
  obtain ⟨m, hm, em⟩ : ∃ m : Nat, (s.size : Int) / 9 + 1 = (m : Int) ∧ m = s.size / 9 + 1 := ⟨_, by omega, rfl⟩
  have hmb : m ≤ 1000 := by omega
  have H := Lib.hid h
  clear h em
  go_enter Tryd.func10, Tryd.ntmps10
  go_wp2_with fail
  refine (isNumber_any s _).mono ?_
  rintro e w1 ⟨b, rfl, hb, rfl⟩
  obtain rfl : b = true := hb.2 H.out
  clear hb
  go_wp2_with (at_make; refine wpList_make_ints _ rfl _ _ 23 rfl 68 i0 .u32 Tryd.underlying23 hi0 hz0 hz1 .i64 .i64 _ _ 0 m rfl rfl (by omega) (by omega) (Nat.zero_le _) (by rw [hz2]; omega) (by omega) ?_)
  have hown : Own 68 .u32 ((w.alloc (Obj.cells #[Value.slice none 0 0] 25)).alloc (Obj.cells (ints IntKind.u32 (List.replicate m 0)) 68)) (w.heap.size + 1) (.slice (some ⟨w.heap.size + 1, 0, none⟩) 0 m) [] := by
    have := Own.made (t := 68) (k := .u32) (base := w.heap.size + 1) (w.alloc (Obj.cells #[Value.slice none 0 0] 25)) (by simp) m (by omega)
    simp only [World.size_alloc] at this
    exact this
  have hres := new_block2 w (Obj.cells #[Value.slice none 0 0] 25) (Obj.cells (ints IntKind.u32 (List.replicate m 0)) 68)
  have hbW := bel_alloc2 w (Obj.cells #[Value.slice none 0 0] 25) (Obj.cells (ints IntKind.u32 (List.replicate m 0)) 68)
  have hsW : w.heap.size + 1 < ((w.alloc (Obj.cells #[Value.slice none 0 0] 25)).alloc (Obj.cells (ints IntKind.u32 (List.replicate m 0)) 68)).heap.size := by simp
  generalize (w.alloc (Obj.cells #[Value.slice none 0 0] 25)).alloc (Obj.cells (ints IntKind.u32 (List.replicate m 0)) 68) = W at *
  have HOW := Lib.hid hown
  have HRS := Lib.hid hres
  have HBW := Lib.hid hbW
  clear hown hres hbW
  go_loopw [0, 4, 5] (fun sx lx _ wr => ∃ (p : Nat) (s' : ByteArray) (v : Value) (xs : List Nat), sx = .string s' ∧ lx = v ∧ byts s' = (byts s).drop p ∧ p ≤ s.size ∧ (p = 0 ∨ (s.size - p) % 9 = 0) ∧ Own 68 .u32 wr (w.heap.size + 1) v xs ∧ Ok xs ∧
      val xs = decL ((byts s).take p) ∧ xs.length ≤ p ∧ Below (w.heap.size + 1) W wr) (fun sx _ _ _ => strLen sx)
  case atStart => exact ⟨0, s, _, [], rfl, rfl, rfl, Nat.zero_le _, .inl rfl, HOW.out, Ok.nil, rfl, Nat.zero_le _, Below.refl _ _⟩
  case round =>
    obtain ⟨p, s', v, xs, rfl, rfl, hsb, hp, hdiv, hown, hok, hv, hxl, hbel⟩ := hrel
    have hsl : s'.size = s.size - p := by rw [← byts_length, hsb, List.length_drop, byts_length]
    by_cases hlt : p < s.size
    · obtain ⟨n, hn, en⟩ : ∃ n : Nat, ((s'.size : Int) - 1) % 9 + 1 = (n : Int) ∧ n = (s'.size - 1) % 9 + 1 := ⟨_, by omega, rfl⟩
      have G := group_step (n := n) hsb (by rw [byts_length]; exact hlt) (by rw [byts_length]; exact en) (by rw [byts_length]; exact hdiv)
      obtain ⟨g1, g2, g3, g4, g5, g6, g7⟩ := G
      rw [byts_length] at g1 g6 g7
      have hb1 : byts (s'.extract 0 n) = (byts s').take n := by rw [byts_extract, List.drop_zero, Nat.sub_zero]
      have hb2 : byts (s'.extract n s'.size) = (byts s).drop (p + n) := by rw [byts_extract, List.take_of_length_le (by rw [List.length_drop, byts_length]; omega), g5]
      have hdg : Digs (byts (s'.extract 0 n)) := by rw [hb1, hsb]; exact fun c hc => H.out.2.2.2 c (List.mem_of_mem_drop (List.mem_of_mem_take hc))
      have hz1' : (s'.extract 0 n).size ≤ 9 := by rw [← byts_length, hb1, List.length_take, byts_length]; omega
      have hz2' : (s'.extract n s'.size).size < s'.size := by rw [← byts_length, hb2, List.length_drop, byts_length]; omega
      have hgl : decL (byts (s'.extract 0 n)) < 1000000000 := by
        refine Nat.lt_of_lt_of_le (decL_lt hdg) ?_
        exact Nat.pow_le_pow_right (n := 10) (by decide) (show _ ≤ 9 by rw [byts_length]; exact hz1')
      rw [← hb1, ← hv] at g4
      have G4 := Lib.hid g4
      have HB2 := Lib.hid hb2
      have HDG := Lib.hid hdg
      have HZ1 := Lib.hid hz1'
      have HZ2 := Lib.hid hz2'
      have HGL := Lib.hid hgl
      have G6 := Lib.hid g6
      have HO := Lib.hid hown
      have HB := Lib.hid hbel
      have hbw : w.heap.size + 1 ≤ wr.heap.size := by have := hbel.size; omega
      have hs0 : 0 < s'.size := by omega
      have hs4 : s'.size ≤ 4000 := by omega
      clear g4 g5 g6 hb1 hb2 hdg hz1' hz2' hgl hown hbel hv en hsb hdiv hsl
      go_wp2_with fail
      with_reducible refine (groupValue_any _ _ HZ1.out HDG.out).mono ?_
      rintro e w2 ⟨rfl, rfl⟩
      go_wp2_with fail
      with_reducible refine (times_group _ xs (decL (byts (s'.extract 0 n))) (w.heap.size + 1) wr HO.out hok (by have := HGL.out; omega) (by omega) hbw).mono ?_
      rintro e w3 ⟨v3, zs, rfl, ho3, hok3, hv3, hl3, hb3⟩
      have HO3 := Lib.hid ho3
      have HV3 := Lib.hid hv3
      have HB3 := Lib.hid (HB.out.trans hb3)
      clear ho3 hv3 hb3
      go_wp2_with fail
      exact ⟨⟨p + n, _, v3, zs, rfl, rfl, HB2.out, g7, .inr G6.out, HO3.out, hok3, by rw [HV3.out, G4.out], by omega, HB3.out⟩, HZ2.out⟩
    · have hv2 : val xs = decL (byts s) := by rw [hv, List.take_of_length_le (by rw [byts_length]; omega)]
      have hs0 : s'.size = 0 := by omega
      have HV := Lib.hid hv2
      have HSL := Lib.hid hown.sl
      have hr := (hbel.block w.heap.size (by omega)).trans HRS.out
      have hb0 := HBW.out.trans (hbel.mono (B' := w.heap.size) (by omega))
      have HR0 := Lib.hid hr
      have HB0 := Lib.hid hb0
      have hxl2 : xs.length ≤ 1000000000000 := by omega
      have hrs : w.heap.size < wr.heap.size := by have := hbel.size; omega
      clear hv2 hv hown hbel hr hb0 hsb hdiv hsl
      go_wp2_with fail
      refine (wrap_any _ xs _ HSL.out hok hxl2).mono ?_
      rintro e w2 ⟨v', rfl, hn2, hb2⟩
      obtain ⟨ad2, len2, cap2, rfl, hr2⟩ := hn2.shape
      have hk2 := (hb2.block w.heap.size hrs).trans HR0.out
      have hc := cell_of hk2 0
      have hf := free_of hk2 0
      simp only [List.getElem?_toArray, List.getElem?_cons_zero] at hc
      have HR := Lib.hid (fin_nat (bel_on HB0.out hb2) hk2 (by decide) hr2 (Nat.le_refl _) 0)
      clear hr2 hb2 hk2 hn2
      go_wp2
      refine bodyPost_ret (v := .tuple #[.agg #[.slice ad2 len2 cap2], .int .i64 0]) (by simp [results, Tryd.results10, go_sem, World.cell?_setCell_same _ _ _ hc]) rfl ⟨_, rfl, ?_⟩
      have := HR.out
      rw [HV.out] at this
      exact this

end Go.Proofs.YtpchnejdbmoicaaDoor
