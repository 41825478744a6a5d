/- Slices that a call itself makes and lets grow. No program. -/
import Derived.Test.YtpchnejdbmoicaaDoorBit
namespace Cin
open Go Go.RowKit

def us (k : IntKind) (xs : List Nat) : List Value := xs.map fun (x : Nat) => Value.int k (x : Int)
/-- The slice v owns its cells, which hold xs; its block is none below base. -/
def Own (t : TypeId) (k : IntKind) (w : World) (base : Nat) (v : Value) (xs : List Nat) : Prop := w.ownsRow base t 1 v xs.length (us k xs)

theorem us_get {k : IntKind} {xs : List Nat} {i : Nat} (h : i < xs.length) : (us k xs)[i]? = some (.int k (lim xs i : Nat)) := by
  simp [us, getElem?_lim h]

section
variable {t : TypeId} {k : IntKind} {w w' : World} {base : Nat} {v : Value} {xs : List Nat}
theorem Own.nil (t : TypeId) (k : IntKind) (w : World) (base : Nat) : Own t k w base (.slice none 0 0) [] := World.ownsRow_nil _ _ _ _
theorem Own.sl (h : Own t k w base v xs) : Sl t k w v xs := by
  rcases h.2 with ⟨rfl, hn⟩ | ⟨g, cap, cur, rfl, hb, hg, hn, hm, hs, ht⟩
  · exact .inl ⟨rfl, List.length_eq_zero_iff.1 hn⟩
  · refine .inr ⟨g, 0, cap, cur, rfl, hg, by omega, hn, fun i hi => ?_⟩
    have := us_get (k := k) hi
    rw [← ht, List.getElem?_take, if_pos (by omega), Array.getElem?_toList] at this
    rw [Nat.zero_add]; exact this
theorem Own.shape (h : Own t k w base v xs) : (v = .slice none 0 0 ∧ xs = []) ∨ ∃ g cap, v = .slice (some ⟨g, 0, none⟩) xs.length cap ∧ base ≤ g ∧ g < w.heap.size ∧ xs.length ≤ cap := by
  rcases h.2 with ⟨rfl, hn⟩ | ⟨g, cap, cur, rfl, hb, hg, hn, hm, hs, ht⟩
  · exact .inl ⟨rfl, List.length_eq_zero_iff.1 hn⟩
  · exact .inr ⟨g, cap, rfl, hb, lt_of_heap hg, hn⟩
theorem Own.cell {g n cap : Nat} (h : Own t k w base (.slice (some ⟨g, 0, none⟩) n cap) xs) (hn : n = xs.length) {i : Nat} (hi : i < n) : w.cell? ⟨g, i, none⟩ = some (.int k (lim xs i : Nat)) := by
  subst hn
  rw [World.ownsRow.cellAt h i (by omega)]; exact us_get hi
theorem Own.free {g n cap : Nat} (h : Own t k w base (.slice (some ⟨g, 0, none⟩) n cap) xs) (hn : n = xs.length) (i : Nat) : w.frozen? ⟨g, i, none⟩ = false := by
  subst hn
  exact World.ownsRow.frozenAt h i
theorem Own.set {g n cap : Nat} (h : Own t k w base (.slice (some ⟨g, 0, none⟩) n cap) xs) (hn : n = xs.length) (i x : Nat) : Own t k (w.setCell ⟨g, i, none⟩ (.int k (x : Nat))) base (.slice (some ⟨g, 0, none⟩) n cap) (xs.set i x) := by
  subst hn
  have := (World.ownsRow.stored h i (.int k (x : Nat))).1
  unfold Own
  rw [List.length_set, show us k (xs.set i x) = (us k xs).set i (.int k (x : Nat)) by simp [us, List.map_set]]
  exact this
theorem Own.below (h : Own t k w base v xs) (hb : Below w.heap.size w w') : Own t k w' base v xs := by
  refine ⟨h.1, ?_⟩
  rcases h.2 with h2 | ⟨g, cap, cur, rfl, hbg, hg, r⟩
  · exact .inl h2
  · exact .inr ⟨g, cap, cur, rfl, hbg, by rw [hb.block g (lt_of_heap hg)]; exact hg, r⟩
theorem Own.alloc (h : Own t k w base v xs) (o : Obj) : Own t k (w.alloc o) base v xs := h.below (bel_alloc _ _)
theorem Own.made (w : World) (hb : base ≤ w.heap.size) (n : Nat) (hn : n ≤ 1000000000000) : Own t k (w.alloc (.cells (ints k (List.replicate n 0)) t)) base (.slice (some ⟨w.heap.size, 0, none⟩) 0 n) [] :=
  World.ownsRow_made w _ n hb (by unfold maxLen; omega) (by simp [ints])
theorem Own.of_blk {b : Nat} (h : Blk w b t k xs) (hb : base ≤ b) (hn : xs.length ≤ 1000000000000) : Own t k w base (.slice (some ⟨b, 0, none⟩) xs.length xs.length) xs := by
  refine ⟨by simp [us], .inr ⟨b, _, _, rfl, hb, h, Nat.le_refl _, by unfold maxLen; omega, by simp [ints], ?_⟩⟩
  simp [ints, us, List.take_of_length_le]
end

/-- 'append(s, c)' of one integer to a slice of the call's own. -/
theorem wpList_append_one {P : Program} {ops : Array Oper} {rest : List Oper} {o : Oper} {a : Act} {Q : Exit → Act → World → Prop} (wr : World) (hgd : o.guard = none) (s x : Operand) (t : TypeId)
    (ho : o.op = .call { callee := .builtin .append, args := #[s, x], argTypes := #[t, t] }) (base : Nat) (e : TypeId) (i : TypeInfo) (k : IntKind) (bytes : Nat)
    (ht : P.underlying t = some (.slice e)) (hi : P.info? e = some i) (hz : i.zero = some (.int k 0)) (hsize : i.size = 1) (hby : i.bytes = bytes)
    (v : Value) (xs : List Nat) (hs : a.eval s = v) (hown : Own e k wr base v xs) (c : Nat) (hx : a.eval x = .slice (some ⟨wr.heap.size, 0, none⟩) 1 1)
    (hlen : xs.length ≤ 1000000000) (hbytes : (xs.length + 1) * bytes ≤ 140737488355328) (hbase : base ≤ wr.heap.size)
    (h : ∀ v' w', Own e k w' base v' (xs ++ [c]) → Below base wr w' → wpList P ops Q rest (a.put o.dst v') w') : wpList P ops Q (o :: rest) a (wr.alloc (.cells #[.int k (c : Nat)] e)) := by
  refine wpList_append_own _ hgd s x t ho base e i (.int k 0) 1 bytes ht hi hz hsize hby rfl (by decide) v xs.length (us k xs) hs (World.ownsRow.alloc hown _) ⟨wr.heap.size, 0, none⟩ 1 1 [.int k (c : Nat)] hx rfl
    (cell_one_new _ _ _) (fun u hu => by rw [List.mem_singleton.1 hu]; rfl) (by unfold maxLen; omega) hbytes (by simp; omega) ?_
  intro v' w' h1 h2 _
  refine h v' w' ?_ ?_
  · unfold Own
    rw [List.length_append, show us k (xs ++ [c]) = us k xs ++ [.int k (c : Nat)] by simp [us]]
    exact h1
  · refine ((Below.refl _ wr).alloc hbase _).grown h2 (by simp; omega) (fun g hg => ?_)
    exact (World.ownsRow.lt hown g hg).1

end Cin
