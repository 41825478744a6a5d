/- Rules for rows: what is known is carried along; operations on values. No program. -/
import Derived.Test.YtbkkecnocnfjcaaYe
namespace Cin
open Go Go.RowKit
def Mono (D : TypeId → Bool) (F : World → Prop) : Prop := ∀ u w, Ext D u w → F u → F w
section mono
variable {D : TypeId → Bool} {F G : World → Prop} {t : TypeId} {u w : World}
theorem Mono.true : Mono D fun _ => True := fun _ _ _ _ => trivial
theorem Sl.ext {k : IntKind} {v : Value} {xs : List Nat} (h : Sl t k u v xs) (e : Ext D u w) (ht : D t = true) : Sl t k w v xs := by
  rcases h with ⟨rfl, rfl⟩ | ⟨b, off, cap, cur, rfl, hB, r⟩
  · exact .inl ⟨rfl, rfl⟩
  · exact .inr ⟨b, off, cap, cur, rfl, e.block b _ _ _ hB ht, r⟩
theorem RefV.ext {v : Value} {n : Nat} (h : RefV t u v n) (e : Ext D u w) (ht : D t = true) : RefV t w v n := let ⟨xs, h1, h2⟩ := h; ⟨xs, h1.ext e ht, h2⟩
theorem NatB.ext {v : Value} {n k : Nat} (h : NatB t u v n k) (e : Ext D u w) (ht : D t = true) : NatB t w v n k := let ⟨⟨s, h1, h2⟩, hk⟩ := h; ⟨⟨s, h1, h2.ext e ht⟩, hk⟩
theorem IntB.ext {v : Value} {z : Int} {k : Nat} (h : IntB t u v z k) (e : Ext D u w) (ht : D t = true) : IntB t w v z k := let ⟨⟨s, h1, h2⟩, hk⟩ := h; ⟨⟨s, h1, h2.ext e ht⟩, hk⟩
end mono
section rules
variable {P : Program} {w0 : World} {D Z : TypeId → Bool} {Post : Ending → World → Prop} {F : World → Prop} {E : Env} {k : Tr} {L : LC}
end rules
section prims
variable {P : Program} {t t2 ty : TypeId} {vs : List Value} {p q : Operand} {κ : IntKind} {x y : Int} {b c : Bool}
theorem prEq (hp : pe vs p = .int κ x) (hq : pe vs q = .int κ y) : PrimOk P (.binOp .eql t p q t2) ty vs (.bool (x == y)) := fun w => by
  simp only [execOp, hp, hq]
  simp [eqGuard, binOp, Op.intCmp]
theorem prNe (hp : pe vs p = .int κ x) (hq : pe vs q = .int κ y) : PrimOk P (.binOp .neq t p q t2) ty vs (.bool (x != y)) := fun w => by
  simp only [execOp, hp, hq]
  simp [eqGuard, binOp, Op.intCmp]
theorem prLt (hp : pe vs p = .int κ x) (hq : pe vs q = .int κ y) : PrimOk P (.binOp .lss t p q t2) ty vs (.bool (decide (x < y))) := fun w => by
  simp only [execOp, hp, hq]
  simp [eqGuard, binOp, Op.intCmp]
theorem prLe (hp : pe vs p = .int κ x) (hq : pe vs q = .int κ y) : PrimOk P (.binOp .leq t p q t2) ty vs (.bool (decide (x ≤ y))) := fun w => by
  simp only [execOp, hp, hq]
  simp [eqGuard, binOp, Op.intCmp]
theorem prGt (hp : pe vs p = .int κ x) (hq : pe vs q = .int κ y) : PrimOk P (.binOp .gtr t p q t2) ty vs (.bool (decide (y < x))) := fun w => by
  simp only [execOp, hp, hq]
  simp [eqGuard, binOp, Op.intCmp]
theorem prGe (hp : pe vs p = .int κ x) (hq : pe vs q = .int κ y) : PrimOk P (.binOp .geq t p q t2) ty vs (.bool (decide (y ≤ x))) := fun w => by
  simp only [execOp, hp, hq]
  simp [eqGuard, binOp, Op.intCmp]
theorem prNot (hp : pe vs p = .bool b) : PrimOk P (.unOp .not t p) ty vs (.bool (!b)) := fun w => by
  simp only [execOp, hp]
  simp [Op.unary]
theorem prLen {ad : Option Addr} {n m : Nat} {T e : TypeId} (hu : P.underlying T = some (.slice e)) (hp : pe vs p = .slice ad n m) : PrimOk P (.call { callee := .builtin .len, args := #[p], argTypes := #[T] }) ty vs (.int .i64 n) := fun w => by
  simp [execOp, resolve, hp, invoke, builtin, Builtin.len_, goInt, run_underlying hu]
end prims
end Cin
