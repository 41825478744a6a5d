/- A struct of two texts as an argument. No program. -/
import Derived.ChangeSame
import Derived.ChangeMaps5
namespace Cin
open Go Go.ChangeShapes Go.WideShapes

section
variable {H : Type} {enc : TypeId × Value → H} {P : Program} {w : World} {base : Nat} {spare : Nat → Bool} {held : Bool}
theorem open_pair {r : Reach} {b0 : Nat} {t s : TypeId} {f0 f1 : Field} {v : Value} {d : DataW H} {ps : List MemPlace} (ht : P.underlying t = some (.struct #[f0, f1])) (hs : P.underlying s = some .string) (hf : f0.type = s ∧ f1.type = s ∧ f0.offset = 0 ∧ f1.offset = 1) (ce : P.cellsOf t = 2) (cs : P.cellsOf s = 1)
    (hval : Value.okWide P w r b0 t v) (hd : DataW.Trod enc P w base spare held t v d ps) :
    ∃ x y : ByteArray, v = .agg #[.string x, .string y] ∧ d = .agg [.lit (.string x.data.toList), .lit (.string y.data.toList)] ∧ ps = [] ∧ x.size ≤ maxLen ∧ y.size ≤ maxLen := by
  obtain ⟨t0, t1, o0, o1⟩ := hf
  obtain ⟨cells, rfl, hsz⟩ := okWide_struct ht hval
  obtain ⟨fuel, hf⟩ := hd
  obtain ⟨y0, y1, n, hx, hl, h0, h1⟩ := trod_struct2 ht hf
  rw [t0, o0, cs] at h0
  rw [t1, o1, cs] at h1
  obtain ⟨x, e0, rfl, l0⟩ := DataW.trod_string hs h0
  obtain ⟨y, e1, rfl, l1⟩ := DataW.trod_string hs h1
  simp only [Prod.mk.injEq] at hx
  refine ⟨x, y, ?_, hx.1, by rw [hx.2]; rfl, l0, l1⟩
  simp only [Value.cells] at e0 e1
  rw [ce] at hsz
  obtain ⟨l⟩ := cells
  match l, hsz with
  | [a, b], _ =>
    simp at e0 e1
    rw [e0, e1]
theorem shut_pair {t s : TypeId} {f0 f1 : Field} {x y : ByteArray} (ht : P.underlying t = some (.struct #[f0, f1])) (hs : P.underlying s = some .string) (hf : f0.type = s ∧ f1.type = s ∧ f0.offset = 0 ∧ f1.offset = 1) (ce : P.cellsOf t = 2) (cs : P.cellsOf s = 1)
    (l0 : x.size ≤ maxLen) (l1 : y.size ≤ maxLen) : DataW.Trod enc P w base spare held t (.agg #[.string x, .string y]) (.agg [.lit (.string x.data.toList), .lit (.string y.data.toList)]) [] := by
  obtain ⟨t0, t1, o0, o1⟩ := hf
  have g0 : DataW.trod enc P w base spare held 1 s [.string x] = some (.lit (.string x.data.toList), []) := by simp [DataW.trod, hs, l0]
  have g1 : DataW.trod enc P w base spare held 1 s [.string y] = some (.lit (.string y.data.toList), []) := by simp [DataW.trod, hs, l1]
  refine ⟨2, ?_⟩
  have := trod_struct2_mk (enc := enc) (w := w) (base := base) (spare := spare) (held := held) (n := 1) (cs := [.string x, .string y]) ht (by rw [ce]; rfl) (y0 := (.lit (.string x.data.toList), [])) (y1 := (.lit (.string y.data.toList), []))
    (by rw [t0, o0, cs]; exact g0) (by rw [t1, o1, cs]; exact g1)
  exact this
end

end Cin
