/- What the walks say of memory: a block of integers of one kind, a slice over a part of one, what a call leaves alone. No program. -/
import Derived.WalkKit
import Derived.WalkSpells
import Derived.WalkLawsBesides
import Derived.Lib.Hide
import Derived.Deep.Draws
import Derived.Test.YtpchnejdbmoicaaDoorNum
namespace Cin
open Go Go.RowKit

/-- Cells that hold these integers. -/
def ints (k : IntKind) (ys : List Nat) : Array Value := (ys.map fun (x : Nat) => Value.int k (x : Int)).toArray

/-- Block b is cells of type t that hold these integers; none is frozen. -/
def Blk (w : World) (b : Nat) (t : TypeId) (k : IntKind) (ys : List Nat) : Prop := w.heap[b]? = some (.cells (ints k ys) t (0, 0))

theorem ints_size (k : IntKind) (ys : List Nat) : (ints k ys).size = ys.length := by simp [ints]
theorem ints_get {k : IntKind} {ys : List Nat} {i : Nat} (h : i < ys.length) : (ints k ys)[i]? = some (.int k (lim ys i : Nat)) := by
  simp [ints, getElem?_lim h]
theorem ints_set (k : IntKind) (ys : List Nat) (i v : Nat) : (ints k ys).setIfInBounds i (.int k (v : Nat)) = ints k (ys.set i v) := by
  simp [ints, List.map_set]

section
variable {w w' : World} {b b' : Nat} {t : TypeId} {k : IntKind} {ys zs : List Nat}

theorem Blk.lt (h : Blk w b t k ys) : b < w.heap.size := by
  rcases Nat.lt_or_ge b w.heap.size with h' | h'
  · exact h'
  · unfold Blk at h; rw [Array.getElem?_eq_none h'] at h; cases h
theorem Blk.cell (h : Blk w b t k ys) {i : Nat} (hi : i < ys.length) : w.cell? ⟨b, i, none⟩ = some (.int k (lim ys i : Nat)) := by
  unfold Blk at h
  simp [World.cell?, h, ints_get hi]
theorem Blk.free (h : Blk w b t k ys) (i : Nat) : w.frozen? ⟨b, i, none⟩ = false := by
  unfold Blk at h
  simp [World.frozen?, h]
theorem Blk.set (h : Blk w b t k ys) (i v : Nat) : Blk (w.setCell ⟨b, i, none⟩ (.int k (v : Nat))) b t k (ys.set i v) := by
  unfold Blk at *
  simp [World.setCell, Array.getElem?_modify, h, ints_set]
theorem Blk.other (h : Blk w b t k ys) {a : Addr} (hb : a.block ≠ b) (u : Value) : Blk (w.setCell a u) b t k ys := by
  unfold Blk at *
  rw [Below.heap_setCell _ _ _ _ (Ne.symm hb)]; exact h
theorem Blk.alloc (h : Blk w b t k ys) (o : Obj) : Blk (w.alloc o) b t k ys := by
  have hl := h.lt
  unfold Blk at *
  rw [Below.heap_alloc _ _ _ hl]; exact h
theorem Blk.new (w : World) (t : TypeId) (k : IntKind) (ys : List Nat) : Blk (w.alloc (.cells (ints k ys) t)) w.heap.size t k ys := by
  unfold Blk
  show (w.heap.push _)[_]? = _
  simp
theorem Blk.drew (h : Blk w b t k ys) : Blk w.drew b t k ys := h
theorem Blk.of_block (h : Blk w b t k ys) (hb : w'.heap[b]? = w.heap[b]?) : Blk w' b t k ys := by unfold Blk at *; rw [hb]; exact h
theorem Blk.below {B : Nat} (h : Blk w b t k ys) (hw : Below B w w') (hb : b < B) : Blk w' b t k ys := h.of_block (hw.block b hb)
theorem Blk.inj (h : Blk w b t k ys) (h' : Blk w b t k zs) : ys = zs := by
  unfold Blk at h h'
  rw [h] at h'
  simp only [Option.some.injEq, Obj.cells.injEq, and_true, ints] at h'
  have := congrArg Array.toList h'
  simp only at this
  have := congrArg (List.map (fun v : Value => (intOf v).toNat)) this
  simpa [List.map_map, Function.comp_def, intOf] using this
end

theorem bel_drewN {B : Nat} {w w' : World} (h : Below B w w') (n : Nat) : Below B w (w'.drewN n) := ⟨h.os, h.tape, h.output, h.size, h.block⟩
theorem bel_alloc (w : World) (o : Obj) : Below w.heap.size w (w.alloc o) := (Below.refl _ _).alloc (Nat.le_refl _) o
theorem bel_alloc2 (w : World) (o o' : Obj) : Below w.heap.size w ((w.alloc o).alloc o') := (bel_alloc w o).alloc (by simp) o'
theorem bel_alloc3 (w : World) (o o' o'' : Obj) : Below w.heap.size w (((w.alloc o).alloc o').alloc o'') := (bel_alloc2 w o o').alloc (by simp; omega) o''
/-- On from a world that has grown. -/
theorem bel_on {w w1 w2 : World} (h : Below w.heap.size w w1) (h' : Below w1.heap.size w1 w2) : Below w.heap.size w w2 := h.trans (h'.mono h.size)

/-- Nothing that was there has turned but blocks of which S speaks. -/
structure Keep (S : Nat → Prop) (w w' : World) : Prop where
  os : w'.os = w.os
  tape : w'.tape = w.tape
  output : w'.output = w.output
  size : w.heap.size ≤ w'.heap.size
  block : ∀ k, k < w.heap.size → ¬ S k → w'.heap[k]? = w.heap[k]?

section
variable {S S' : Nat → Prop} {w w' w'' : World}
theorem Keep.refl (S : Nat → Prop) (w : World) : Keep S w w := ⟨rfl, rfl, rfl, Nat.le_refl _, fun _ _ _ => rfl⟩
theorem Keep.trans (h : Keep S w w') (h' : Keep S w' w'') : Keep S w w'' :=
  ⟨h'.os.trans h.os, h'.tape.trans h.tape, h'.output.trans h.output, Nat.le_trans h.size h'.size, fun i hi hs => (h'.block i (Nat.lt_of_lt_of_le hi h.size) hs).trans (h.block i hi hs)⟩
theorem Keep.mono (h : Keep S w w') (hs : ∀ k, k < w.heap.size → S k → S' k) : Keep S' w w' := ⟨h.os, h.tape, h.output, h.size, fun k hk hn => h.block k hk (fun h2 => hn (hs k hk h2))⟩
theorem Keep.drew (h : Keep S w w') : Keep S w w'.drew := ⟨h.os, h.tape, h.output, h.size, h.block⟩
theorem Keep.alloc (h : Keep S w w') (o : Obj) : Keep S w (w'.alloc o) :=
  h.trans ⟨rfl, rfl, rfl, by simp, fun k hk _ => Below.heap_alloc _ _ _ hk⟩
theorem Keep.setCell (h : Keep S w w') {a : Addr} (ha : S a.block) (u : Value) : Keep S w (w'.setCell a u) :=
  h.trans ⟨rfl, rfl, rfl, by simp, fun k _ hn => Below.heap_setCell _ _ _ _ (fun e => hn (e ▸ ha))⟩
theorem Keep.setNew (h : Keep S w w') {a : Addr} (ha : w.heap.size ≤ a.block) (u : Value) : Keep S w (w'.setCell a u) :=
  ⟨h.os, h.tape, h.output, by have := h.size; simpa using this, fun k hk hn => by rw [Below.heap_setCell _ _ _ _ (by omega)]; exact h.block k hk hn⟩
theorem Keep.below (h : Keep S w w') {B : Nat} (hB : B ≤ w.heap.size) (hs : ∀ k, S k → B ≤ k) : Below B w w' :=
  ⟨h.os, h.tape, h.output, h.size, fun k hk => h.block k (Nat.lt_of_lt_of_le hk hB) (fun h2 => by have := hs k h2; omega)⟩
theorem Keep.of_below (h : Below w.heap.size w w') : Keep S w w' := ⟨h.os, h.tape, h.output, h.size, fun k hk _ => h.block k hk⟩
end

/-- The slice v, of elements of type t and kind k, reads xs. -/
def Sl (t : TypeId) (k : IntKind) (w : World) (v : Value) (xs : List Nat) : Prop :=
  (v = .slice none 0 0 ∧ xs = []) ∨
  ∃ b off cap cur, v = .slice (some ⟨b, off, none⟩) xs.length cap ∧ w.heap[b]? = some (.cells cur t (0, 0)) ∧ off + cap ≤ cur.size ∧ xs.length ≤ cap ∧ ∀ i, i < xs.length → cur[off + i]? = some (.int k (lim xs i : Nat))

theorem lt_of_heap {w : World} {b : Nat} {o : Obj} (h : w.heap[b]? = some o) : b < w.heap.size := by
  rcases Nat.lt_or_ge b w.heap.size with h' | h'
  · exact h'
  · rw [Array.getElem?_eq_none h'] at h; cases h

section
variable {w w' : World} {t : TypeId} {k : IntKind} {v : Value} {xs : List Nat}
theorem Sl.nil (t : TypeId) (k : IntKind) (w : World) : Sl t k w (.slice none 0 0) [] := .inl ⟨rfl, rfl⟩
theorem Sl.shape (h : Sl t k w v xs) : ∃ ad cap, v = .slice ad xs.length cap ∧ xs.length ≤ cap ∧ (ad = none → xs = [] ∧ cap = 0) := by
  rcases h with ⟨rfl, rfl⟩ | ⟨b, off, cap, cur, rfl, _, _, hc, _⟩
  · exact ⟨none, 0, rfl, Nat.le_refl _, fun _ => ⟨rfl, rfl⟩⟩
  · exact ⟨_, _, rfl, hc, fun e => by cases e⟩
/-- The cells, where there is one. -/
theorem Sl.cell {ad : Option Addr} {n cap : Nat} (h : Sl t k w (.slice ad n cap) xs) {i : Nat} (hi : i < xs.length) :
    ∃ b off, ad = some ⟨b, off, none⟩ ∧ w.cell? ⟨b, off + i, none⟩ = some (.int k (lim xs i : Nat)) ∧ b < w.heap.size := by
  rcases h with ⟨_, rfl⟩ | ⟨b, off, cap, cur, e, hb, hc, hl, hx⟩
  · simp at hi
  · cases e
    refine ⟨b, off, rfl, ?_, lt_of_heap hb⟩
    simp only [World.cell?, hb]
    exact hx i hi
theorem Sl.of_block (h : Sl t k w v xs) (hb : ∀ b off n c, v = .slice (some ⟨b, off, none⟩) n c → w'.heap[b]? = w.heap[b]?) : Sl t k w' v xs := by
  rcases h with ⟨rfl, rfl⟩ | ⟨b, off, cap, cur, rfl, hB, hc, hl, hx⟩
  · exact .inl ⟨rfl, rfl⟩
  · exact .inr ⟨b, off, cap, cur, rfl, by rw [hb _ _ _ _ rfl]; exact hB, hc, hl, hx⟩
theorem Sl.lt (h : Sl t k w v xs) {b off n c : Nat} (e : v = .slice (some ⟨b, off, none⟩) n c) : b < w.heap.size := by
  rcases h with ⟨rfl, _⟩ | ⟨b', off', cap, cur, rfl, hb, _⟩
  · cases e
  · cases e; exact lt_of_heap hb
theorem Sl.keep {S : Nat → Prop} (h : Sl t k w v xs) (hw : Keep S w w') (hs : ∀ b off n c, v = .slice (some ⟨b, off, none⟩) n c → ¬ S b) : Sl t k w' v xs :=
  h.of_block fun b off n c e => hw.block b (h.lt e) (hs b off n c e)
theorem Sl.below (h : Sl t k w v xs) (hw : Below w.heap.size w w') : Sl t k w' v xs :=
  h.of_block fun b _ _ _ e => hw.block b (h.lt e)
theorem Sl.alloc (h : Sl t k w v xs) (o : Obj) : Sl t k (w.alloc o) v xs := h.below ((Below.refl _ _).alloc (Nat.le_refl _) o)
theorem Sl.drew (h : Sl t k w v xs) : Sl t k w.drew v xs := h
theorem Sl.drewN (h : Sl t k w v xs) (n : Nat) : Sl t k (w.drewN n) v xs := h
/-- A shorter slice from the same beginning on. -/
theorem Sl.take {ad : Option Addr} {m cap : Nat} (h : Sl t k w (.slice ad m cap) xs) {n : Nat} (hn : n ≤ xs.length) : Sl t k w (.slice ad n cap) (xs.take n) := by
  rcases h with ⟨e, rfl⟩ | ⟨b, off, cap, cur, e, hb, hc, hl, hx⟩
  · cases e; simp at hn; subst hn; exact .inl ⟨rfl, rfl⟩
  · cases e
    have hn' : (xs.take n).length = n := by rw [List.length_take]; omega
    refine .inr ⟨b, off, cap, cur, by rw [hn'], hb, hc, by omega, fun i hi => ?_⟩
    rw [hn'] at hi
    rw [lim_take hi]
    exact hx i (by omega)
/-- What is left of a slice from a place on. -/
theorem Sl.dropS {b off m cap : Nat} (h : Sl t k w (.slice (some ⟨b, off, none⟩) m cap) xs) {i : Nat} (hi : i ≤ m) : Sl t k w (.slice (some ⟨b, off + i, none⟩) (m - i) (cap - i)) (xs.drop i) := by
  rcases h with ⟨e, rfl⟩ | ⟨b, off, cap, cur, e, hb, hc, hl, hx⟩
  · cases e
  · cases e
    have e1 : (xs.drop i).length = xs.length - i := List.length_drop
    refine .inr ⟨b, off + i, cap - i, cur, by rw [e1], hb, by omega, by omega, fun j hj => ?_⟩
    rw [e1] at hj
    rw [lim_drop, Nat.add_assoc]
    exact hx (i + j) (by omega)
theorem Sl.len {ad : Option Addr} {m cap : Nat} (h : Sl t k w (.slice ad m cap) xs) : xs.length = m := by
  obtain ⟨_, _, e, _⟩ := h.shape; cases e; rfl
theorem Sl.of_part {b off n : Nat} {ys : List Nat} (h : Blk w b t k ys) {cap : Nat} (hc : off + cap ≤ ys.length) (hn : n ≤ cap) : Sl t k w (.slice (some ⟨b, off, none⟩) n cap) ((ys.drop off).take n) := by
  have e : ((ys.drop off).take n).length = n := by rw [List.length_take, List.length_drop]; omega
  refine .inr ⟨b, off, cap, ints k ys, by rw [e], h, by rw [ints_size]; exact hc, by omega, fun i hi => ?_⟩
  rw [e] at hi
  rw [ints_get (by omega), lim_take hi, lim_drop]
/-- A whole block as a slice. -/
theorem Sl.of_blk {b : Nat} (h : Blk w b t k xs) : Sl t k w (.slice (some ⟨b, 0, none⟩) xs.length xs.length) xs := by
  have := Sl.of_part h (off := 0) (n := xs.length) (cap := xs.length) (by omega) (Nat.le_refl _)
  rwa [List.drop_zero, List.take_length] at this
end

/-- The document's number n: a slice of words. -/
def RefV (t : TypeId) (w : World) (v : Value) (n : Nat) : Prop := ∃ xs, Sl t .u32 w v xs ∧ Ok xs ∧ Norm xs ∧ val xs = n
/-- The program's number n: a struct of such a slice. -/
def NatV (t : TypeId) (w : World) (v : Value) (n : Nat) : Prop := ∃ s, v = .agg #[s] ∧ RefV t w s n

theorem NatV.shape {t : TypeId} {w : World} {v : Value} {n : Nat} (h : NatV t w v n) : ∃ ad len cap, v = .agg #[.slice ad len cap] ∧ RefV t w (.slice ad len cap) n := by
  obtain ⟨s, rfl, xs, hs, r⟩ := h
  obtain ⟨ad, cap, rfl, _⟩ := hs.shape
  exact ⟨ad, _, cap, rfl, xs, hs, r⟩
theorem RefV.shape {t : TypeId} {w : World} {v : Value} {n : Nat} (h : RefV t w v n) : ∃ ad len cap xs, v = .slice ad len cap ∧ Sl t .u32 w (.slice ad len cap) xs ∧ Ok xs ∧ Norm xs ∧ val xs = n ∧ xs.length = len ∧ len ≤ cap := by
  obtain ⟨xs, hs, r⟩ := h
  obtain ⟨ad, cap, rfl, hc, _⟩ := hs.shape
  exact ⟨ad, _, cap, xs, rfl, hs, r.1, r.2.1, r.2.2, rfl, hc⟩
theorem RefV.below {t : TypeId} {w w' : World} {v : Value} {n : Nat} (h : RefV t w v n) (hw : Below w.heap.size w w') : RefV t w' v n :=
  let ⟨xs, h1, h2⟩ := h; ⟨xs, h1.below hw, h2⟩
theorem NatV.below {t : TypeId} {w w' : World} {v : Value} {n : Nat} (h : NatV t w v n) (hw : Below w.heap.size w w') : NatV t w' v n :=
  let ⟨s, h1, h2⟩ := h; ⟨s, h1, h2.below hw⟩
theorem RefV.zero (t : TypeId) (w : World) : RefV t w (.slice none 0 0) 0 := ⟨[], Sl.nil _ _ _, Ok.nil, .inl rfl, rfl⟩
theorem NatV.zero (t : TypeId) (w : World) : NatV t w (.agg #[.slice none 0 0]) 0 := ⟨_, rfl, RefV.zero _ _⟩

theorem Sl.setOther {t t' : TypeId} {k : IntKind} {w : World} {v : Value} {xs : List Nat} (h : Sl t k w v xs) {a : Addr} {c : Array Value} {f : Nat × Nat} (hb : w.heap[a.block]? = some (.cells c t' f)) (ht : t' ≠ t) (u : Value) : Sl t k (w.setCell a u) v xs := by
  rcases h with ⟨rfl, rfl⟩ | ⟨b, off, cap, cur, rfl, hB, hc, hl, hx⟩
  · exact .inl ⟨rfl, rfl⟩
  · refine .inr ⟨b, off, cap, cur, rfl, ?_, hc, hl, hx⟩
    rw [Below.heap_setCell _ _ _ _ (fun e => ?_)]
    · exact hB
    · rw [← e, hB] at hb
      simp only [Option.some.injEq, Obj.cells.injEq] at hb
      exact ht hb.2.1.symm
theorem RefV.setOther {t t' : TypeId} {w : World} {v : Value} {n : Nat} (h : RefV t w v n) {a : Addr} {c : Array Value} {f : Nat × Nat} (hb : w.heap[a.block]? = some (.cells c t' f)) (ht : t' ≠ t) (u : Value) : RefV t (w.setCell a u) v n :=
  let ⟨xs, h1, h2⟩ := h; ⟨xs, h1.setOther hb ht u, h2⟩
theorem NatV.setOther {t t' : TypeId} {w : World} {v : Value} {n : Nat} (h : NatV t w v n) {a : Addr} {c : Array Value} {f : Nat × Nat} (hb : w.heap[a.block]? = some (.cells c t' f)) (ht : t' ≠ t) (u : Value) : NatV t (w.setCell a u) v n :=
  let ⟨s, h1, h2⟩ := h; ⟨s, h1, h2.setOther hb ht u⟩
/-- A number that is stored into the block of a result and told. -/
theorem fin_nat {t tn : TypeId} {w0 w1 : World} {b : Nat} {s : Value} {n : Nat} {c : Array Value} {f : Nat × Nat} (hb : Below w0.heap.size w0 w1) (hblk : w1.heap[b]? = some (.cells c tn f)) (ht : tn ≠ t) (hr : RefV t w1 s n) (hB : w0.heap.size ≤ b) (o : Nat) :
    NatV t (w1.setCell ⟨b, o, none⟩ s) (.agg #[s]) n ∧ Below w0.heap.size w0 (w1.setCell ⟨b, o, none⟩ s) :=
  ⟨⟨s, rfl, hr.setOther hblk ht s⟩, hb.setCell hB s⟩
theorem new_block (w : World) (o : Obj) : (w.alloc o).heap[w.heap.size]? = some o := by show (w.heap.push _)[_]? = _; simp
theorem new_block2 (w : World) (o o' : Obj) : ((w.alloc o).alloc o').heap[w.heap.size]? = some o := by rw [Below.heap_alloc _ _ _ (by simp), new_block]
theorem new_block3 (w : World) (o o' o'' : Obj) : (((w.alloc o).alloc o').alloc o'').heap[w.heap.size]? = some o := by rw [Below.heap_alloc _ _ _ (by simp; omega), new_block2]
theorem nb21 (w : World) (o o' : Obj) : ((w.alloc o).alloc o').heap[w.heap.size + 1]? = some o' := by have := new_block (w.alloc o) o'; simp only [World.size_alloc] at this; exact this
theorem nb31 (w : World) (o o' o'' : Obj) : (((w.alloc o).alloc o').alloc o'').heap[w.heap.size + 1]? = some o' := by rw [Below.heap_alloc _ _ _ (by simp), nb21]
theorem nb32 (w : World) (o o' o'' : Obj) : (((w.alloc o).alloc o').alloc o'').heap[w.heap.size + 1 + 1]? = some o'' := by have := new_block ((w.alloc o).alloc o') o''; simp only [World.size_alloc] at this; exact this
theorem bel_alloc4 (w : World) (a b c d : Obj) : Below w.heap.size w ((((w.alloc a).alloc b).alloc c).alloc d) := (bel_alloc3 w a b c).alloc (by simp; omega) d
theorem nb42 (w : World) (a b c d : Obj) : ((((w.alloc a).alloc b).alloc c).alloc d).heap[w.heap.size + 1 + 1]? = some c := by rw [Below.heap_alloc _ _ _ (by simp only [World.size_alloc]; omega), nb32]
theorem nb41 (w : World) (a b c d : Obj) : ((((w.alloc a).alloc b).alloc c).alloc d).heap[w.heap.size + 1]? = some b := by rw [Below.heap_alloc _ _ _ (by simp only [World.size_alloc]; omega), nb31]
theorem nb40 (w : World) (a b c d : Obj) : ((((w.alloc a).alloc b).alloc c).alloc d).heap[w.heap.size]? = some a := by rw [Below.heap_alloc _ _ _ (by simp only [World.size_alloc]; omega), new_block3]
theorem nb43 (w : World) (a b c d : Obj) : ((((w.alloc a).alloc b).alloc c).alloc d).heap[w.heap.size + 1 + 1 + 1]? = some d := by have := new_block (((w.alloc a).alloc b).alloc c) d; simp only [World.size_alloc] at this; exact this
theorem cell_of {w : World} {b : Nat} {c : Array Value} {t : TypeId} {f : Nat × Nat} (h : w.heap[b]? = some (.cells c t f)) (i : Nat) : w.cell? ⟨b, i, none⟩ = c[i]? := by simp [World.cell?, h]
theorem free_of {w : World} {b : Nat} {c : Array Value} {t : TypeId} (h : w.heap[b]? = some (.cells c t (0, 0))) (i : Nat) : w.frozen? ⟨b, i, none⟩ = false := by simp [World.frozen?, h]

/-- Two cells that a region loads, and what has grown since: behind a call that only makes memory all of it stands. -/
theorem held2_step {X wc w' : World} {A B : Nat} {sa sb : Value} (hA : A < X.heap.size) (hB : B < X.heap.size)
    (hS : wc.cell? ⟨A, 0, none⟩ = some sa ∧ wc.cell? ⟨B, 0, none⟩ = some sb ∧ Below X.heap.size X wc) (hb : Below wc.heap.size wc w') :
    w'.cell? ⟨A, 0, none⟩ = some sa ∧ w'.cell? ⟨B, 0, none⟩ = some sb ∧ Below X.heap.size X w' :=
  ⟨by rw [hb.cell (by have := hS.2.2.size; show A < _; omega)]; exact hS.1, by rw [hb.cell (by have := hS.2.2.size; show B < _; omega)]; exact hS.2.1, bel_on hS.2.2 hb⟩

theorem held1_step {X wc w' : World} {B0 : Nat} {s0 : Value} (h0 : B0 < X.heap.size)
    (hS : wc.cell? ⟨B0, 0, none⟩ = some s0 ∧ Below X.heap.size X wc) (hb : Below wc.heap.size wc w') :
    w'.cell? ⟨B0, 0, none⟩ = some s0 ∧ Below X.heap.size X w' :=
  ⟨by rw [hb.cell (by have := hS.2.size; show B0 < _; omega)]; exact hS.1, bel_on hS.2 hb⟩

theorem held3_step {X wc w' : World} {B0 B1 B2 : Nat} {s0 s1 s2 : Value} (h0 : B0 < X.heap.size) (h1 : B1 < X.heap.size) (h2 : B2 < X.heap.size)
    (hS : wc.cell? ⟨B0, 0, none⟩ = some s0 ∧ wc.cell? ⟨B1, 0, none⟩ = some s1 ∧ wc.cell? ⟨B2, 0, none⟩ = some s2 ∧ Below X.heap.size X wc) (hb : Below wc.heap.size wc w') :
    w'.cell? ⟨B0, 0, none⟩ = some s0 ∧ w'.cell? ⟨B1, 0, none⟩ = some s1 ∧ w'.cell? ⟨B2, 0, none⟩ = some s2 ∧ Below X.heap.size X w' :=
  ⟨by rw [hb.cell (by have := hS.2.2.2.size; show B0 < _; omega)]; exact hS.1, by rw [hb.cell (by have := hS.2.2.2.size; show B1 < _; omega)]; exact hS.2.1, by rw [hb.cell (by have := hS.2.2.2.size; show B2 < _; omega)]; exact hS.2.2.1, bel_on hS.2.2.2 hb⟩

theorem held4_step {X wc w' : World} {B0 B1 B2 B3 : Nat} {s0 s1 s2 s3 : Value} (h0 : B0 < X.heap.size) (h1 : B1 < X.heap.size) (h2 : B2 < X.heap.size) (h3 : B3 < X.heap.size)
    (hS : wc.cell? ⟨B0, 0, none⟩ = some s0 ∧ wc.cell? ⟨B1, 0, none⟩ = some s1 ∧ wc.cell? ⟨B2, 0, none⟩ = some s2 ∧ wc.cell? ⟨B3, 0, none⟩ = some s3 ∧ Below X.heap.size X wc) (hb : Below wc.heap.size wc w') :
    w'.cell? ⟨B0, 0, none⟩ = some s0 ∧ w'.cell? ⟨B1, 0, none⟩ = some s1 ∧ w'.cell? ⟨B2, 0, none⟩ = some s2 ∧ w'.cell? ⟨B3, 0, none⟩ = some s3 ∧ Below X.heap.size X w' :=
  ⟨by rw [hb.cell (by have := hS.2.2.2.2.size; show B0 < _; omega)]; exact hS.1, by rw [hb.cell (by have := hS.2.2.2.2.size; show B1 < _; omega)]; exact hS.2.1, by rw [hb.cell (by have := hS.2.2.2.2.size; show B2 < _; omega)]; exact hS.2.2.1, by rw [hb.cell (by have := hS.2.2.2.2.size; show B3 < _; omega)]; exact hS.2.2.2.1, bel_on hS.2.2.2.2 hb⟩

theorem held5_step {X wc w' : World} {B0 B1 B2 B3 B4 : Nat} {s0 s1 s2 s3 s4 : Value} (h0 : B0 < X.heap.size) (h1 : B1 < X.heap.size) (h2 : B2 < X.heap.size) (h3 : B3 < X.heap.size) (h4 : B4 < X.heap.size)
    (hS : wc.cell? ⟨B0, 0, none⟩ = some s0 ∧ wc.cell? ⟨B1, 0, none⟩ = some s1 ∧ wc.cell? ⟨B2, 0, none⟩ = some s2 ∧ wc.cell? ⟨B3, 0, none⟩ = some s3 ∧ wc.cell? ⟨B4, 0, none⟩ = some s4 ∧ Below X.heap.size X wc) (hb : Below wc.heap.size wc w') :
    w'.cell? ⟨B0, 0, none⟩ = some s0 ∧ w'.cell? ⟨B1, 0, none⟩ = some s1 ∧ w'.cell? ⟨B2, 0, none⟩ = some s2 ∧ w'.cell? ⟨B3, 0, none⟩ = some s3 ∧ w'.cell? ⟨B4, 0, none⟩ = some s4 ∧ Below X.heap.size X w' :=
  ⟨by rw [hb.cell (by have := hS.2.2.2.2.2.size; show B0 < _; omega)]; exact hS.1, by rw [hb.cell (by have := hS.2.2.2.2.2.size; show B1 < _; omega)]; exact hS.2.1, by rw [hb.cell (by have := hS.2.2.2.2.2.size; show B2 < _; omega)]; exact hS.2.2.1, by rw [hb.cell (by have := hS.2.2.2.2.2.size; show B3 < _; omega)]; exact hS.2.2.2.1, by rw [hb.cell (by have := hS.2.2.2.2.2.size; show B4 < _; omega)]; exact hS.2.2.2.2.1, bel_on hS.2.2.2.2.2 hb⟩

/-- How many words are left, of the first n, without those of 0 at the high end. -/
def trimN (xs : List Nat) : Nat → Nat
  | 0 => 0
  | n + 1 => if lim xs n = 0 then trimN xs n else n + 1
theorem trimN_le (xs : List Nat) : ∀ n, trimN xs n ≤ n
  | 0 => Nat.le_refl _
  | n + 1 => by unfold trimN; split; exact Nat.le_succ_of_le (trimN_le xs n); exact Nat.le_refl _
theorem trimN_val (xs : List Nat) : ∀ n, n ≤ xs.length → val (xs.take (trimN xs n)) = val (xs.take n)
  | 0, _ => rfl
  | n + 1, h => by
    unfold trimN
    split
    · rename_i h0
      rw [trimN_val xs n (by omega), val_take_succ (by omega), h0]; simp
    · rfl
theorem trimN_norm (xs : List Nat) : ∀ n, n ≤ xs.length → Norm (xs.take (trimN xs n))
  | 0, _ => .inl rfl
  | n + 1, h => by
    unfold trimN
    split
    · exact trimN_norm xs n (by omega)
    · rename_i h0
      right
      rw [List.length_take, Nat.min_eq_left h, Nat.add_sub_cancel, lim_take (by omega)]; exact h0

theorem madeCells_int (k : IntKind) (n : Nat) : madeCells (Value.cells (.int k 0)) n = ints k (List.replicate n 0) := by
  unfold madeCells ints Value.cells
  apply Array.ext
  · simp
  · intro i h1 h2
    simp [Nat.mod_one]

/-- 'make([]T, n)', T integers: n noughts in a new block. -/
theorem wpList_make_ints {P : Program} (w : World) {ops : Array Oper} {rest : List Oper} {o : Oper} {a : Act} {Q : Exit → Act → World → Prop}
    (hg : o.guard = none) (l c : Operand) (t : TypeId) (hop : o.op = Op.makeSlice t l c) (e : TypeId) (i : TypeInfo) (k : IntKind)
    (h1 : P.underlying t = some (.slice e)) (h2 : P.info? e = some i) (h3 : i.zero = some (.int k 0)) (h4 : i.size = 1)
    (kl kc : IntKind) (L C : Int) (m n : Nat) (hl : a.eval l = .int kl L) (hc : a.eval c = .int kc C) (hL : L = (m : Int)) (hC : C = (n : Int)) (hmn : m ≤ n) (b2 : i.bytes * n ≤ 281474976710656) (b3 : n ≤ 9223372036854775807)
    (hK : wpList P ops Q rest (a.put o.dst (.slice (some ⟨w.heap.size, 0, none⟩) m n)) (w.alloc (.cells (ints k (List.replicate n 0)) e))) :
    wpList P ops Q (o :: rest) a w := by
  refine wpList_plain hg fun K hK' => ?_
  have hb' : (i.bytes : Int) * (n : Int) ≤ 281474976710656 := by
    have h : ((i.bytes * n : Nat) : Int) ≤ 281474976710656 := by omega
    rwa [Int.natCast_mul] at h
  have hrun := run_make (P := P) w t e i _ h1 h2 h3 kl kc m n (by omega) (by omega) hb' (by omega)
  subst hL hC
  rw [h4, Nat.mul_one, Int.toNat_natCast, Int.toNat_natCast, madeCells_int] at hrun
  unfold Oper.wp
  simp [execOp, hop, hl, hc, hrun, Result.andThen]
  exact hK' _ _ hK

end Cin
