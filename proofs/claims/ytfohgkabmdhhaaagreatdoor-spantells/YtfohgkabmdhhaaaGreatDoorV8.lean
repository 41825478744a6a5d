/- Are two pairs of texts the same? -/
import Derived.Test.YtfohgkabmdhhaaaGreatDoorYy
import Derived.Laws.StructEq
import Derived.ChangeKeysEq
namespace Go.Proofs.YtfohgkabmdhhaaaGreatDoor
open Go.RowKit Cin

theorem pairT : Tryz.prog.underlying 23 = some (.struct (Tryz.prog.fieldsOf 23)) := by kernel_rfl
theorem pairF : (Tryz.prog.fieldsOf 23).toList.map (fun f => (f.name == "_", f.type, f.offset)) = [(false, 9, 0), (false, 9, 1)] := by kernel_rfl
theorem pairH : Tryz.prog.stoodInHeld 23 = false := by kernel_rfl
theorem pairG : Tryz.prog.eqGuardType Tryz.prog.depth 23 = false := by kernel_rfl
theorem eqPair (d : Nat) (w : World) (s r s' r' : ByteArray) : (Op.eqFields (d + 1) #[.string s, .string r] #[.string s', .string r'] (Tryz.prog.fieldsOf 23).toList).run Tryz.prog w = .ok (s.toList == s'.toList && r.toList == r'.toList) w := by
  have h := pairF
  generalize (Tryz.prog.fieldsOf 23).toList = l at h
  match l with
  | [] => simp at h
  | [_] => simp at h
  | _ :: _ :: _ :: _ => simp at h
  | [f, g] =>
    simp only [List.map_cons, List.map_nil, List.cons.injEq, Prod.mk.injEq, and_true] at h
    obtain ⟨⟨n1, t1, o1⟩, n2, t2, o2⟩ := h
    have n1' : f.name ≠ "_" := by simpa using n1
    have n2' : g.name ≠ "_" := by simpa using n2
    have p : ∀ (i : Nat) (v : Value) (xs : Array Value), xs[i]? = some v → (part 9 xs i).run Tryz.prog w = .ok v w := fun i v xs hx => run_part_plain w (by kernel_rfl) hx
    have p0 := p 0 (.string s) #[.string s, .string r] rfl
    have p1 := p 1 (.string r) #[.string s, .string r] rfl
    have p2 := p 0 (.string s') #[.string s', .string r'] rfl
    have p3 := p 1 (.string r') #[.string s', .string r'] rfl
    simp only [Op.eqFields, n1', n2', ne_eq, not_false_eq_true, if_true, t1, t2, o1, o2, Sem.run_bind, p0, p2, Result.andThen_ok, run_equalIn_string w d _ _ _ hStrT]
    generalize (s.toList == s'.toList) = c1
    cases c1
    · simp
    · simp only [Bool.not_true, Bool.false_eq_true, if_false, Sem.run_bind, p1, p3, Result.andThen_ok, run_equalIn_string w d _ _ _ hStrT]
      generalize (r.toList == r'.toList) = c2
      cases c2 <;> simp
theorem prPairEq {t2 ty : TypeId} {vs : List Value} {p q : Operand} {s r s' r' : ByteArray} (hp : pe vs p = .agg #[.string s, .string r]) (hq : pe vs q = .agg #[.string s', .string r']) :
    PrimOk Tryz.prog (.binOp .eql 23 p q t2) ty vs (.bool (s.toList == s'.toList && r.toList == r'.toList)) := fun w => by
  simp only [execOp, hp, hq]
  simp only [Sem.run_bind, run_eqGuard_agg w _ _ _ _ _ _ pairG, Result.andThen_ok, run_eql_struct, run_equalIn_agg w 9999 _ _ _ pairT pairH, eqPair 9998]
  simp

end Go.Proofs.YtfohgkabmdhhaaaGreatDoor
