/- Contracts of the document's NatParse, whole, and of pair. -/
import Derived.Test.YtfhilapjpabeeabDoorWT
import Derived.Test.YtfhilapjpabeeabDoorSched
namespace Go.Proofs.YtfhilapjpabeeabDoor
open Go.RowKit Cin

set_option maxRecDepth 100000 in
set_option maxHeartbeats 1000000 in
/-- NatParse: the number, or none. -/
theorem refParse_any (s : ByteArray) (w : World) : Calls Tryd.prog 55 #[.string s] w (RefPost s w) := by
  by_cases hin : 1 ≤ s.size ∧ s.size ≤ 4000 ∧ (s.size = 1 ∨ lim (byts s) 0 ≠ 48)
  · exact refParse_in s w hin.1 hin.2.1 hin.2.2
  · have hno : ¬ IsNum (byts s) := fun h => by
      obtain ⟨a1, a2, a3, _⟩ := h
      rw [byts_length] at a1 a2 a3
      exact hin ⟨a1, a2, a3⟩
    have HNO := Lib.hid hno
    clear hno
    by_cases h1 : s.size = 0
    · have hd : ((s.size : Int) == 0) = true := beq_iff_eq.2 (by omega)
      clear hin h1
      go_enter Tryd.func55, Tryd.ntmps55
      go_wp2_with fail
      go_ret2
      exact .inr ⟨HNO.out, rfl, Below.refl _ _⟩
    · have hd : ((s.size : Int) == 0) = false := beq_eq_false_iff_ne.2 (by omega)
      by_cases h2 : 4000 < s.size
      · have hd2 : decide ((4000 : Int) < (s.size : Int)) = true := by rw [decide_eq_true_iff]; omega
        clear hin
        go_enter Tryd.func55, Tryd.ntmps55
        go_wp2_with fail
        go_ret2
        exact .inr ⟨HNO.out, rfl, Below.refl _ _⟩
      · have hd2 : decide ((4000 : Int) < (s.size : Int)) = false := by rw [decide_eq_false_iff_not]; omega
        have h0 : 0 < s.size := by omega
        have hb0 := byts_at s h0
        have h3 : lim (byts s) 0 = 48 ∧ 1 < s.size := by omega
        have hd3 : (((s[0].toNat : Nat) : Int) == 48) = true := by rw [hb0, h3.1]; rfl
        have hd4 : decide ((1 : Int) < (s.size : Int)) = true := by rw [decide_eq_true_iff]; omega
        clear hin hb0 h3
        go_enter Tryd.func55, Tryd.ntmps55
        go_wp2_with fail
        go_ret2
        exact .inr ⟨HNO.out, rfl, Below.refl _ _⟩

/-- What pair takes. -/
def PairOk (a b : ByteArray) : Prop := IsNum (byts a) ∧ IsNum (byts b) ∧ a.size ≤ 200 ∧ b.size ≤ 200
def PairPost (a b : ByteArray) (w : World) (e : Ending) (w' : World) : Prop :=
  (PairOk a b ∧ ∃ p q x y, e = .returned (.tuple #[.agg #[p], .agg #[q], x, y, .bool true]) ∧ RefV 80 w' p (decL (byts a)) ∧ RefV 80 w' q (decL (byts b)) ∧ RefV 80 w' x (decL (byts a)) ∧ RefV 80 w' y (decL (byts b)) ∧ Below w.heap.size w w') ∨
  (¬ PairOk a b ∧ e = .returned (.tuple #[.agg #[.slice none 0 0], .agg #[.slice none 0 0], .slice none 0 0, .slice none 0 0, .bool false]) ∧ Below w.heap.size w w')

end Go.Proofs.YtfhilapjpabeeabDoor
