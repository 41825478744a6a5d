/- law2's alive. -/
import Derived.Test.YtpchnejdbmoicaaDoorI6
namespace Go.Proofs.YtpchnejdbmoicaaDoor
open Go.RowKit Cin

theorem divTells_small (x y : Nat) (hy : y ≠ 0) : DivTells x y 2 2 := fun w v u h h' => divSmall_any v u x y w h h' hy
theorem cell_pair {w : World} {b : Nat} {x y : Value} {t : TypeId} (h : w.heap[b]? = some (.cells #[x, y] t (0, 0))) : w.cell? ⟨b, 0, none⟩ = some x ∧ w.cell? ⟨b, 1, none⟩ = some y := ⟨cell0 h, cell1 h⟩

set_option maxRecDepth 100000 in
set_option maxHeartbeats 800000 in
theorem alive2_any (w : World) : Calls Tryd.prog 33 #[] w fun e w' => e = .returned (.bool true) ∧ Below w.heap.size w w' := by
  go_enter Tryd.func33, Tryd.ntmps33
  go_wp2_with fail
  refine (iof_any (-7) _ (by decide) (by decide)).mono ?_
  rintro e w1 ⟨v1, rfl, hn1, hb1⟩
  have HN1 := Lib.hid hn1
  have HB1 := Lib.hid hb1
  clear hn1 hb1
  go_wp2_with fail
  refine (iof_any 2 _ (by decide) (by decide)).mono ?_
  rintro e w2 ⟨v2, rfl, hn2, hb2⟩
  have HN2 := Lib.hid hn2
  have HB2 := Lib.hid hb2
  clear hn2 hb2
  go_wp2_with fail
  refine (idiv_of v1 v2 (-7) 2 2 2 _ (HN1.out.below HB2.out) HN2.out (by decide) (by decide) (divTells_small _ _ (by decide)) (by decide)).mono ?_
  rintro e w3 ⟨v3, u3, rfl, hn3, hm3, hb3⟩
  rw [show divQ (-7) 2 = -4 by decide] at hn3
  rw [show divR (-7) 2 = 1 by decide] at hm3
  obtain ⟨bb3, ad3, len3, cap3, rfl, hs3⟩ := hn3.shape2
  obtain ⟨cc3, ae3, lfn3, cbp3, rfl, ht3⟩ := hm3.shape2
  have hh := ((heldN2 (w := w3) (c0 := #[Value.bool bb3, Value.slice ad3 len3 cap3]) (t0 := 51) (c1 := #[Value.bool cc3, Value.slice ae3 lfn3 cbp3]) (t1 := 51)))
  have hbX := bel_alloc2 w3 (Obj.cells #[Value.bool bb3, Value.slice ad3 len3 cap3] 51) (Obj.cells #[Value.bool cc3, Value.slice ae3 lfn3 cbp3] 51)
  have HN3 := Lib.hid (hn3.below hbX)
  have HM3 := Lib.hid (hm3.below hbX)
  have HB3 := Lib.hid (bel_on (bel_on (bel_on HB1.out HB2.out) hb3) hbX)
  have hc0 := cell0 hh.1
  have hc1 := cell1 hh.1
  have hd0 := cell0 hh.2.1
  have hd1 := cell1 hh.2.1
  clear hn3 hm3 hb3 hh hbX hs3 ht3
  go_wp2_with fail
  generalize (w3.alloc (Obj.cells #[Value.bool bb3, Value.slice ad3 len3 cap3] 51)).alloc (Obj.cells #[Value.bool cc3, Value.slice ae3 lfn3 cbp3] 51) = X at *
  refine (itextSmall _ (-4) _ _ HN3.out (by decide)).mono ?_
  rintro e w4 ⟨rfl, hb4⟩
  rw [show intS (-4) = ⟨#[45, 52]⟩ by unfold intS Lib.decDigits; rfl]
  have he0 := cell_below hd0 hb4
  have he1 := cell_below hd1 hb4
  have HB4 := Lib.hid (bel_on HB3.out hb4)
  have HM4 := Lib.hid (HM3.out.below hb4)
  clear hb4 hc0 hc1 hd0 hd1
  go_wp2_with fail
  refine (itextSmall _ 1 _ _ HM4.out (by decide)).mono ?_
  rintro e w5 ⟨rfl, hb5⟩
  rw [show intS 1 = ⟨#[49]⟩ by unfold intS Lib.decDigits; rfl]
  have HB5 := Lib.hid (bel_on HB4.out hb5)
  clear hb5 he0 he1
  go_wp2
  go_ret
  exact ⟨rfl, HB5.out⟩

end Go.Proofs.YtpchnejdbmoicaaDoor
