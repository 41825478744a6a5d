/- Contracts of nat's gcdOfWords, abs, moves and sureSteps. -/
import Derived.Test.YtpchnejdbmoicaaDoorG0
import Derived.Test.YtpchnejdbmoicaaDoorW3
import Derived.Test.YtpchnejdbmoicaaDoorI1
import Derived.Test.YtpchnejdbmoicaaDoorSched
import Derived.Deep.LoopGhost
import Derived.BigGuard
namespace Cin
open Go Go.RowKit
/-- A block of four cells. -/
def Four (w : World) (b : Nat) (t : TypeId) (x0 x1 x2 x3 : Value) : Prop := w.heap[b]? = some (.cells #[x0, x1, x2, x3] t (0, 0))
section
variable {w w' : World} {b : Nat} {t : TypeId} {x0 x1 x2 x3 : Value}
theorem Four.below (h : Four w b t x0 x1 x2 x3) (hb : Below w.heap.size w w') : Four w' b t x0 x1 x2 x3 := (hb.block _ (lt_of_heap h)).trans h
theorem Four.lt (h : Four w b t x0 x1 x2 x3) : b < w.heap.size := lt_of_heap h
theorem Four.cells (h : Four w b t x0 x1 x2 x3) : w.cell? ⟨b, 0, none⟩ = some x0 ∧ w.cell? ⟨b, 1, none⟩ = some x1 ∧ w.cell? ⟨b, 2, none⟩ = some x2 ∧ w.cell? ⟨b, 3, none⟩ = some x3 :=
  ⟨by rw [cell_of h]; simp, by rw [cell_of h]; simp, by rw [cell_of h]; simp, by rw [cell_of h]; simp⟩
theorem Four.free (h : Four w b t x0 x1 x2 x3) : w.frozen? ⟨b, 0, none⟩ = false ∧ w.frozen? ⟨b, 1, none⟩ = false ∧ w.frozen? ⟨b, 2, none⟩ = false ∧ w.frozen? ⟨b, 3, none⟩ = false := ⟨free_of h 0, free_of h 1, free_of h 2, free_of h 3⟩
theorem Four.set (h : Four w b t x0 x1 x2 x3) (y0 y1 y2 y3 : Value) : Four ((((w.setCell ⟨b, 0, none⟩ y0).setCell ⟨b, 1, none⟩ y1).setCell ⟨b, 2, none⟩ y2).setCell ⟨b, 3, none⟩ y3) b t y0 y1 y2 y3 := by
  unfold Four at h ⊢
  simp [World.setCell, Array.getElem?_modify, h]
theorem Four.other (h : Four w b t x0 x1 x2 x3) {c : Nat} (hc : b ≠ c) (y0 y1 y2 y3 : Value) : Four ((((w.setCell ⟨c, 0, none⟩ y0).setCell ⟨c, 1, none⟩ y1).setCell ⟨c, 2, none⟩ y2).setCell ⟨c, 3, none⟩ y3) b t x0 x1 x2 x3 := by
  unfold Four at h ⊢
  rw [Below.heap_setCell _ _ _ _ (show b ≠ _ from hc), Below.heap_setCell _ _ _ _ (show b ≠ _ from hc), Below.heap_setCell _ _ _ _ (show b ≠ _ from hc), Below.heap_setCell _ _ _ _ (show b ≠ _ from hc)]
  exact h
theorem Four.drew (h : Four w b t x0 x1 x2 x3) : Four w.drew b t x0 x1 x2 x3 := h
theorem bel_four {B : Nat} {w X : World} {b : Nat} {y0 y1 y2 y3 : Value} (h : Below B w X) (hb : B ≤ b) : Below B w ((((X.setCell ⟨b, 0, none⟩ y0).setCell ⟨b, 1, none⟩ y1).setCell ⟨b, 2, none⟩ y2).setCell ⟨b, 3, none⟩ y3) := bel_set2 (bel_set2 h hb hb) hb hb
end
end Cin
namespace Go.Proofs.YtpchnejdbmoicaaDoor
open Go.RowKit Cin

set_option maxHeartbeats 1000000 in
/-- gcdOfWords. -/
theorem gcdWords_any (a b : Nat) (w : World) (ha : a < 18446744073709551616) (hb : b < 18446744073709551616) :
    Calls Tryd.prog 63 #[.int .u64 a, .int .u64 b] w fun e w' => e = .returned (.int .u64 (Nat.gcd a b : Nat)) ∧ Below w.heap.size w w' := by
  go_enter Tryd.func63, Tryd.ntmps63
  go_wp2_with fail
  go_loopg [0, 1] b (fun g x y wr => ∃ A : Nat, x = .int .u64 A ∧ y = .int .u64 g ∧ A < 18446744073709551616 ∧ g < 18446744073709551616 ∧ Nat.gcd A g = Nat.gcd a b ∧ Below w.heap.size w wr)
  case atStart => exact ⟨a, rfl, rfl, ha, hb, rfl, Below.refl _ _⟩
  case round =>
    obtain ⟨A, rfl, rfl, hA, hG, hg, hbel⟩ := hrel
    have HG := Lib.hid hg
    have HBE := Lib.hid hbel
    clear hg hbel
    by_cases h0 : gk = 0
    · subst h0
      rw [Nat.gcd_zero_right] at HG
      go_wp2_with fail
      go_ret
      exact ⟨by rw [← HG.out]; rfl, HBE.out⟩
    · have hne : ((gk : Int) == 0) = false := by simp; exact h0
      obtain ⟨r, hr, er⟩ : ∃ r : Nat, (A : Int).tmod (gk : Int) = (r : Int) ∧ r = A % gk := ⟨A % gk, rfl, rfl⟩
      have hrb := Nat.mod_lt A (Nat.pos_of_ne_zero h0)
      rw [← er] at hrb
      have ER := Lib.hid er
      clear er
      go_wp2_with fail
      go_big_region
      go_wp2_with fail
      go_roundg r
      case measure => exact hrb
      case rel => exact ⟨gk, rfl, rfl, hG, by omega, by rw [← HG.out, ER.out, Nat.gcd_comm A gk, Nat.gcd_rec gk A, Nat.gcd_comm], HBE.out.drew⟩

set_option maxHeartbeats 400000 in
/-- abs. -/
theorem nabs_any (z : Int) (w : World) (h0 : -9223372036854775808 < z) (h1 : z < 9223372036854775808) :
    Calls Tryd.prog 95 #[.int .i64 z] w fun e w' => e = .returned (.int .i64 (z.natAbs : Nat)) ∧ Below w.heap.size w w' := by
  by_cases hz : z < 0
  · go_enter Tryd.func95, Tryd.ntmps95
    go_wp2
    go_ret
    exact ⟨ret_int (by omega), Below.refl _ _⟩
  · go_enter Tryd.func95, Tryd.ntmps95
    go_wp2
    go_ret
    exact ⟨ret_int (by omega), Below.refl _ _⟩

set_option maxHeartbeats 400000 in
/-- moves. -/
theorem moves_any (a b c d : Int) (w : World) :
    Calls Tryd.prog 65 #[.agg #[.int .i64 a, .int .i64 b, .int .i64 c, .int .i64 d]] w fun e w' => e = .returned (.bool (!decide (b = 0))) ∧ Below w.heap.size w w' := by
  by_cases hz : b = 0
  · subst hz
    go_enter Tryd.func65, Tryd.ntmps65
    go_wp2
    go_ret
    exact ⟨rfl, bel_alloc _ _⟩
  · have hb0 : (b != 0) = true := by simpa using hz
    rw [decide_eq_false hz]
    go_enter Tryd.func65, Tryd.ntmps65
    go_wp2
    go_ret
    exact ⟨rfl, bel_alloc _ _⟩

end Go.Proofs.YtpchnejdbmoicaaDoor
