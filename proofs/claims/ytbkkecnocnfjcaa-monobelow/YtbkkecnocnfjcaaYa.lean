/- Plain facts on numbers written in words of 32 binary digits, the lowest first. No Go, no program. -/
import Derived.WalkKit
import Derived.WalkSpells
import Derived.WalkLawsBesides
import Derived.Lib.Hide
import Derived.Deep.Draws
import Derived.Deep.RegionHeld3
namespace Cin
def val : List Nat → Nat
  | [] => 0
  | x :: xs => x + 4294967296 * val xs
def Ok (xs : List Nat) : Prop := ∀ x ∈ xs, x < 4294967296
def lim (xs : List Nat) (i : Nat) : Nat := xs.getD i 0
def Norm (xs : List Nat) : Prop := xs = [] ∨ lim xs (xs.length - 1) ≠ 0
def pw (k : Nat) : Nat := 4294967296 ^ k
theorem pw_pos (k : Nat) : 0 < pw k := by unfold pw; exact Nat.pow_pos (by decide)
theorem pw_le {a b : Nat} (h : a ≤ b) : pw a ≤ pw b := by unfold pw; exact Nat.pow_le_pow_right (by decide) h
theorem lt_pw_mono {x a b : Nat} (hx : x < pw a) (h : a ≤ b) : x < pw b := Nat.lt_of_lt_of_le hx (pw_le h)
theorem Ok.nil : Ok [] := fun _ h => by cases h
theorem Ok.cons {x : Nat} {xs : List Nat} (hx : x < 4294967296) (h : Ok xs) : Ok (x :: xs) := fun y hy => by
  rcases List.mem_cons.1 hy with rfl | hy
  · exact hx
  · exact h y hy
theorem Ok.append {xs ys : List Nat} (h : Ok xs) (k : Ok ys) : Ok (xs ++ ys) := fun y hy => by
  rcases List.mem_append.1 hy with hy | hy
  · exact h y hy
  · exact k y hy
theorem Ok.take {xs : List Nat} (h : Ok xs) (n : Nat) : Ok (xs.take n) := fun x hx => h x (List.mem_of_mem_take hx)
theorem Ok.drop {xs : List Nat} (h : Ok xs) (n : Nat) : Ok (xs.drop n) := fun x hx => h x (List.mem_of_mem_drop hx)
theorem Ok.set {xs : List Nat} (h : Ok xs) (n v : Nat) (hv : v < 4294967296) : Ok (xs.set n v) := fun x hx => by
  rcases List.mem_or_eq_of_mem_set hx with hx | rfl
  · exact h x hx
  · exact hv
theorem Ok.replicate (n : Nat) : Ok (List.replicate n 0) := fun x hx => by rw [(List.mem_replicate.1 hx).2]; decide
theorem lim_eq {xs : List Nat} {i : Nat} (h : i < xs.length) : lim xs i = xs[i] := by
  unfold lim; rw [List.getD_eq_getElem?_getD, List.getElem?_eq_getElem h]; rfl
theorem getElem?_lim {xs : List Nat} {i : Nat} (h : i < xs.length) : xs[i]? = some (lim xs i) := by rw [lim_eq h, List.getElem?_eq_getElem h]
theorem lim_take {xs : List Nat} {i n : Nat} (h : i < n) : lim (xs.take n) i = lim xs i := by
  unfold lim; rw [List.getD_eq_getElem?_getD, List.getD_eq_getElem?_getD, List.getElem?_take_of_lt h]
def IsBl (n k : Nat) : Prop := n < 2 ^ k ∧ (k = 0 ∨ 2 ^ (k - 1) ≤ n)
def IsTz (n k : Nat) : Prop := (n = 0 ∧ k = 0) ∨ ∃ m, n = 2 ^ k * (2 * m + 1)
theorem IsBl.zero : IsBl 0 0 := ⟨by decide, .inl rfl⟩
theorem IsTz.lt {n k m : Nat} (h : IsTz n k) (h0 : n ≠ 0) (hm : n < 2 ^ m) : k < m := by
  rcases h with ⟨e, _⟩ | ⟨l, hl⟩
  · exact absurd e h0
  · rcases Nat.lt_or_ge k m with h | h
    · exact h
    · have h1 := Nat.pow_le_pow_right (n := 2) (by decide) h
      have h2 : 2 ^ k * 1 ≤ 2 ^ k * (2 * l + 1) := Nat.mul_le_mul_left _ (by omega)
      omega
end Cin

namespace Cin
open Go Go.RowKit
def ints (k : IntKind) (ys : List Nat) : Array Value := (ys.map fun (x : Nat) => Value.int k (x : Int)).toArray
def Blk (w : World) (b : Nat) (t : TypeId) (k : IntKind) (ys : List Nat) : Prop := w.heap[b]? = some (.cells (ints k ys) t (0, 0))
theorem ints_get {k : IntKind} {ys : List Nat} {i : Nat} (h : i < ys.length) : (ints k ys)[i]? = some (.int k (lim ys i : Nat)) := by
  simp [ints, getElem?_lim h]
theorem ints_set (k : IntKind) (ys : List Nat) (i v : Nat) : (ints k ys).setIfInBounds i (.int k (v : Nat)) = ints k (ys.set i v) := by
  simp [ints, List.map_set]
section
variable {w w' : World} {b b' : Nat} {t : TypeId} {k : IntKind} {ys zs : List Nat}
theorem Blk.lt (h : Blk w b t k ys) : b < w.heap.size := by
  rcases Nat.lt_or_ge b w.heap.size with h' | h'
  · exact h'
  · unfold Blk at h; rw [Array.getElem?_eq_none h'] at h; cases h
theorem Blk.cell (h : Blk w b t k ys) {i : Nat} (hi : i < ys.length) : w.cell? ⟨b, i, none⟩ = some (.int k (lim ys i : Nat)) := by
  unfold Blk at h
  simp [World.cell?, h, ints_get hi]
theorem Blk.free (h : Blk w b t k ys) (i : Nat) : w.frozen? ⟨b, i, none⟩ = false := by
  unfold Blk at h
  simp [World.frozen?, h]
theorem Blk.set (h : Blk w b t k ys) (i v : Nat) : Blk (w.setCell ⟨b, i, none⟩ (.int k (v : Nat))) b t k (ys.set i v) := by
  unfold Blk at *
  simp [World.setCell, Array.getElem?_modify, h, ints_set]
theorem Blk.alloc (h : Blk w b t k ys) (o : Obj) : Blk (w.alloc o) b t k ys := by
  have hl := h.lt
  unfold Blk at *
  rw [Below.heap_alloc _ _ _ hl]; exact h
theorem Blk.new (w : World) (t : TypeId) (k : IntKind) (ys : List Nat) : Blk (w.alloc (.cells (ints k ys) t)) w.heap.size t k ys := by
  unfold Blk
  show (w.heap.push _)[_]? = _
  simp
theorem Blk.drew (h : Blk w b t k ys) : Blk w.drew b t k ys := h
theorem Blk.of_block (h : Blk w b t k ys) (hb : w'.heap[b]? = w.heap[b]?) : Blk w' b t k ys := by unfold Blk at *; rw [hb]; exact h
theorem Blk.below {B : Nat} (h : Blk w b t k ys) (hw : Below B w w') (hb : b < B) : Blk w' b t k ys := h.of_block (hw.block b hb)
theorem Blk.inj (h : Blk w b t k ys) (h' : Blk w b t k zs) : ys = zs := by
  unfold Blk at h h'
  rw [h] at h'
  simp only [Option.some.injEq, Obj.cells.injEq, and_true, ints] at h'
  have := congrArg Array.toList h'
  simp only at this
  have := congrArg (List.map (fun v : Value => (intOf v).toNat)) this
  simpa [List.map_map, Function.comp_def, intOf] using this
end
theorem bel_alloc (w : World) (o : Obj) : Below w.heap.size w (w.alloc o) := (Below.refl _ _).alloc (Nat.le_refl _) o
theorem bel_on {w w1 w2 : World} (h : Below w.heap.size w w1) (h' : Below w1.heap.size w1 w2) : Below w.heap.size w w2 := h.trans (h'.mono h.size)
structure Keep (S : Nat → Prop) (w w' : World) : Prop where
  os : w'.os = w.os
  tape : w'.tape = w.tape
  output : w'.output = w.output
  size : w.heap.size ≤ w'.heap.size
  block : ∀ k, k < w.heap.size → ¬ S k → w'.heap[k]? = w.heap[k]?
section
variable {S S' : Nat → Prop} {w w' w'' : World}
theorem Keep.refl (S : Nat → Prop) (w : World) : Keep S w w := ⟨rfl, rfl, rfl, Nat.le_refl _, fun _ _ _ => rfl⟩
theorem Keep.trans (h : Keep S w w') (h' : Keep S w' w'') : Keep S w w'' :=
  ⟨h'.os.trans h.os, h'.tape.trans h.tape, h'.output.trans h.output, Nat.le_trans h.size h'.size, fun i hi hs => (h'.block i (Nat.lt_of_lt_of_le hi h.size) hs).trans (h.block i hi hs)⟩
theorem Keep.mono (h : Keep S w w') (hs : ∀ k, k < w.heap.size → S k → S' k) : Keep S' w w' := ⟨h.os, h.tape, h.output, h.size, fun k hk hn => h.block k hk (fun h2 => hn (hs k hk h2))⟩
theorem Keep.drew (h : Keep S w w') : Keep S w w'.drew := ⟨h.os, h.tape, h.output, h.size, h.block⟩
theorem Keep.alloc (h : Keep S w w') (o : Obj) : Keep S w (w'.alloc o) :=
  h.trans ⟨rfl, rfl, rfl, by simp, fun k hk _ => Below.heap_alloc _ _ _ hk⟩
theorem Keep.setCell (h : Keep S w w') {a : Addr} (ha : S a.block) (u : Value) : Keep S w (w'.setCell a u) :=
  h.trans ⟨rfl, rfl, rfl, by simp, fun k _ hn => Below.heap_setCell _ _ _ _ (fun e => hn (e ▸ ha))⟩
theorem Keep.below (h : Keep S w w') {B : Nat} (hB : B ≤ w.heap.size) (hs : ∀ k, S k → B ≤ k) : Below B w w' :=
  ⟨h.os, h.tape, h.output, h.size, fun k hk => h.block k (Nat.lt_of_lt_of_le hk hB) (fun h2 => by have := hs k h2; omega)⟩
theorem Keep.of_below (h : Below w.heap.size w w') : Keep S w w' := ⟨h.os, h.tape, h.output, h.size, fun k hk _ => h.block k hk⟩
end
def Sl (t : TypeId) (k : IntKind) (w : World) (v : Value) (xs : List Nat) : Prop :=
  (v = .slice none 0 0 ∧ xs = []) ∨
  ∃ b off cap cur, v = .slice (some ⟨b, off, none⟩) xs.length cap ∧ w.heap[b]? = some (.cells cur t (0, 0)) ∧ off + cap ≤ cur.size ∧ xs.length ≤ cap ∧ ∀ i, i < xs.length → cur[off + i]? = some (.int k (lim xs i : Nat))
theorem lt_of_heap {w : World} {b : Nat} {o : Obj} (h : w.heap[b]? = some o) : b < w.heap.size := by
  rcases Nat.lt_or_ge b w.heap.size with h' | h'
  · exact h'
  · rw [Array.getElem?_eq_none h'] at h; cases h
section
variable {w w' : World} {t : TypeId} {k : IntKind} {v : Value} {xs : List Nat}
theorem Sl.nil (t : TypeId) (k : IntKind) (w : World) : Sl t k w (.slice none 0 0) [] := .inl ⟨rfl, rfl⟩
theorem Sl.shape (h : Sl t k w v xs) : ∃ ad cap, v = .slice ad xs.length cap ∧ xs.length ≤ cap ∧ (ad = none → xs = [] ∧ cap = 0) := by
  rcases h with ⟨rfl, rfl⟩ | ⟨b, off, cap, cur, rfl, _, _, hc, _⟩
  · exact ⟨none, 0, rfl, Nat.le_refl _, fun _ => ⟨rfl, rfl⟩⟩
  · exact ⟨_, _, rfl, hc, fun e => by cases e⟩
theorem Sl.cell {ad : Option Addr} {n cap : Nat} (h : Sl t k w (.slice ad n cap) xs) {i : Nat} (hi : i < xs.length) :
    ∃ b off, ad = some ⟨b, off, none⟩ ∧ w.cell? ⟨b, off + i, none⟩ = some (.int k (lim xs i : Nat)) ∧ b < w.heap.size := by
  rcases h with ⟨_, rfl⟩ | ⟨b, off, cap, cur, e, hb, hc, hl, hx⟩
  · simp at hi
  · cases e
    refine ⟨b, off, rfl, ?_, lt_of_heap hb⟩
    simp only [World.cell?, hb]
    exact hx i hi
theorem Sl.of_block (h : Sl t k w v xs) (hb : ∀ b off n c, v = .slice (some ⟨b, off, none⟩) n c → w'.heap[b]? = w.heap[b]?) : Sl t k w' v xs := by
  rcases h with ⟨rfl, rfl⟩ | ⟨b, off, cap, cur, rfl, hB, hc, hl, hx⟩
  · exact .inl ⟨rfl, rfl⟩
  · exact .inr ⟨b, off, cap, cur, rfl, by rw [hb _ _ _ _ rfl]; exact hB, hc, hl, hx⟩
theorem Sl.lt (h : Sl t k w v xs) {b off n c : Nat} (e : v = .slice (some ⟨b, off, none⟩) n c) : b < w.heap.size := by
  rcases h with ⟨rfl, _⟩ | ⟨b', off', cap, cur, rfl, hb, _⟩
  · cases e
  · cases e; exact lt_of_heap hb
theorem Sl.below (h : Sl t k w v xs) (hw : Below w.heap.size w w') : Sl t k w' v xs :=
  h.of_block fun b _ _ _ e => hw.block b (h.lt e)
theorem Sl.alloc (h : Sl t k w v xs) (o : Obj) : Sl t k (w.alloc o) v xs := h.below ((Below.refl _ _).alloc (Nat.le_refl _) o)
theorem Sl.drew (h : Sl t k w v xs) : Sl t k w.drew v xs := h
theorem Sl.take {ad : Option Addr} {m cap : Nat} (h : Sl t k w (.slice ad m cap) xs) {n : Nat} (hn : n ≤ xs.length) : Sl t k w (.slice ad n cap) (xs.take n) := by
  rcases h with ⟨e, rfl⟩ | ⟨b, off, cap, cur, e, hb, hc, hl, hx⟩
  · cases e; simp at hn; subst hn; exact .inl ⟨rfl, rfl⟩
  · cases e
    have hn' : (xs.take n).length = n := by rw [List.length_take]; omega
    refine .inr ⟨b, off, cap, cur, by rw [hn'], hb, hc, by omega, fun i hi => ?_⟩
    rw [hn'] at hi
    rw [lim_take hi]
    exact hx i (by omega)
theorem Sl.len {ad : Option Addr} {m cap : Nat} (h : Sl t k w (.slice ad m cap) xs) : xs.length = m := by
  obtain ⟨_, _, e, _⟩ := h.shape; cases e; rfl
end
def RefV (t : TypeId) (w : World) (v : Value) (n : Nat) : Prop := ∃ xs, Sl t .u32 w v xs ∧ Ok xs ∧ Norm xs ∧ val xs = n
def NatV (t : TypeId) (w : World) (v : Value) (n : Nat) : Prop := ∃ s, v = .agg #[s] ∧ RefV t w s n
theorem NatV.shape {t : TypeId} {w : World} {v : Value} {n : Nat} (h : NatV t w v n) : ∃ ad len cap, v = .agg #[.slice ad len cap] ∧ RefV t w (.slice ad len cap) n := by
  obtain ⟨s, rfl, xs, hs, r⟩ := h
  obtain ⟨ad, cap, rfl, _⟩ := hs.shape
  exact ⟨ad, _, cap, rfl, xs, hs, r⟩
theorem RefV.shape {t : TypeId} {w : World} {v : Value} {n : Nat} (h : RefV t w v n) : ∃ ad len cap xs, v = .slice ad len cap ∧ Sl t .u32 w (.slice ad len cap) xs ∧ Ok xs ∧ Norm xs ∧ val xs = n ∧ xs.length = len ∧ len ≤ cap := by
  obtain ⟨xs, hs, r⟩ := h
  obtain ⟨ad, cap, rfl, hc, _⟩ := hs.shape
  exact ⟨ad, _, cap, xs, rfl, hs, r.1, r.2.1, r.2.2, rfl, hc⟩
theorem RefV.below {t : TypeId} {w w' : World} {v : Value} {n : Nat} (h : RefV t w v n) (hw : Below w.heap.size w w') : RefV t w' v n :=
  let ⟨xs, h1, h2⟩ := h; ⟨xs, h1.below hw, h2⟩
theorem NatV.below {t : TypeId} {w w' : World} {v : Value} {n : Nat} (h : NatV t w v n) (hw : Below w.heap.size w w') : NatV t w' v n :=
  let ⟨s, h1, h2⟩ := h; ⟨s, h1, h2.below hw⟩
theorem RefV.zero (t : TypeId) (w : World) : RefV t w (.slice none 0 0) 0 := ⟨[], Sl.nil _ _ _, Ok.nil, .inl rfl, rfl⟩
theorem NatV.zero (t : TypeId) (w : World) : NatV t w (.agg #[.slice none 0 0]) 0 := ⟨_, rfl, RefV.zero _ _⟩
theorem Sl.setOther {t t' : TypeId} {k : IntKind} {w : World} {v : Value} {xs : List Nat} (h : Sl t k w v xs) {a : Addr} {c : Array Value} {f : Nat × Nat} (hb : w.heap[a.block]? = some (.cells c t' f)) (ht : t' ≠ t) (u : Value) : Sl t k (w.setCell a u) v xs := by
  rcases h with ⟨rfl, rfl⟩ | ⟨b, off, cap, cur, rfl, hB, hc, hl, hx⟩
  · exact .inl ⟨rfl, rfl⟩
  · refine .inr ⟨b, off, cap, cur, rfl, ?_, hc, hl, hx⟩
    rw [Below.heap_setCell _ _ _ _ (fun e => ?_)]
    · exact hB
    · rw [← e, hB] at hb
      simp only [Option.some.injEq, Obj.cells.injEq] at hb
      exact ht hb.2.1.symm
theorem RefV.setOther {t t' : TypeId} {w : World} {v : Value} {n : Nat} (h : RefV t w v n) {a : Addr} {c : Array Value} {f : Nat × Nat} (hb : w.heap[a.block]? = some (.cells c t' f)) (ht : t' ≠ t) (u : Value) : RefV t (w.setCell a u) v n :=
  let ⟨xs, h1, h2⟩ := h; ⟨xs, h1.setOther hb ht u, h2⟩
theorem NatV.setOther {t t' : TypeId} {w : World} {v : Value} {n : Nat} (h : NatV t w v n) {a : Addr} {c : Array Value} {f : Nat × Nat} (hb : w.heap[a.block]? = some (.cells c t' f)) (ht : t' ≠ t) (u : Value) : NatV t (w.setCell a u) v n :=
  let ⟨s, h1, h2⟩ := h; ⟨s, h1, h2.setOther hb ht u⟩
theorem new_block (w : World) (o : Obj) : (w.alloc o).heap[w.heap.size]? = some o := by show (w.heap.push _)[_]? = _; simp
theorem cell_of {w : World} {b : Nat} {c : Array Value} {t : TypeId} {f : Nat × Nat} (h : w.heap[b]? = some (.cells c t f)) (i : Nat) : w.cell? ⟨b, i, none⟩ = c[i]? := by simp [World.cell?, h]
theorem free_of {w : World} {b : Nat} {c : Array Value} {t : TypeId} (h : w.heap[b]? = some (.cells c t (0, 0))) (i : Nat) : w.frozen? ⟨b, i, none⟩ = false := by simp [World.frozen?, h]
end Cin

namespace Cin
open Go Go.RowKit
def noX (X : List Nat) (L : Array Bool) : Prop := ∀ k ∈ X, L.getD k true = false
theorem noX_set {X : List Nat} {L : Array Bool} {i : Nat} (hi : i ∉ X) : noX X (L.setIfInBounds i true) ↔ noX X L := by
  constructor <;> intro h k hk <;> have hne : i ≠ k := fun e => hi (by rw [e]; exact hk)
  · have := h k hk; rwa [getD_set_ne true hne] at this
  · rw [getD_set_ne true hne]; exact h k hk
theorem noX_sub {X : List Nat} {L : Array Bool} {i : Nat} (h : noX X (L.setIfInBounds i true)) : noX X L := by
  intro k hk
  have := h k hk
  by_cases e : i = k
  · subst e
    rcases Nat.lt_or_ge i L.size with h' | h'
    · simp [h'] at this
    · simp at this
  · rwa [getD_set_ne true e] at this
theorem noX_not {X : List Nat} {L : Array Bool} {i : Nat} (h : noX X (L.setIfInBounds i true)) : i ∉ X := by
  intro hi
  have := h i hi
  rcases Nat.lt_or_ge i L.size with h' | h'
  · simp [h'] at this
  · simp at this
section
variable {P : Program} {ops : Array Oper} {Q : Exit → Act → World → Prop} {md : Region.Mode} {S S0 S1 : World → Prop} {X : List Nat}
def wpAnyX (P : Program) (md : Region.Mode) (ops : Array Oper) (Q : Exit → Act → World → Prop) (S0 S1 : World → Prop) (X : List Nat) : Nat → Array Bool → Act → World → Prop
  | 0, listed, a, w => Region.ready md ops listed = [] ∧ Q .normal a w
  | fuel + 1, listed, a, w =>
    (Region.ready md ops listed = [] → Q .normal a w) ∧
    ∀ i ∈ Region.ready md ops listed, wpOp P ops Q i (fun a' w' => (S0 w' ∧ (noX X (listed.setIfInBounds i true) → S1 w')) ∧ wpAnyX P md ops Q S0 S1 X fuel (listed.setIfInBounds i true) a' w') a w
theorem wpAny_of_x : ∀ (fuel : Nat) (listed : Array Bool) (a : Act) (w : World), wpAnyX P md ops Q S0 S1 X fuel listed a w → wpAny P md ops Q fuel listed a w
  | 0, _, _, _, h => h
  | fuel + 1, _, _, _, h => ⟨h.1, fun i hi => wpOp_mono (fun a' w' h' => wpAny_of_x fuel _ a' w' h'.2) (h.2 i hi)⟩
theorem wpAnyX_first {i : Nat} {oi : Oper} {v : Value} (hi : ops[i]? = some oi) (hsel : ∀ (j : Nat) (o : Oper) cs b, ops[j]? = some o → o.op ≠ .select cs b)
    (hQ : ∀ c a w, Q (.panic c) (a.put oi.dst v) w → Q (.panic c) a w) (hX : i ∉ X) (R : Array Bool → Prop)
    (hR : ∀ L j, R L → i ∈ Region.ready md ops L → j ∈ Region.ready md ops L → j ≠ i → R (L.setIfInBounds j true)) (hS : ∀ L w, R L → S0 w → (noX X L → S1 w) → S w) :
    ∀ (fuel : Nat) (listed : Array Bool) (a : Act) (w : World),
      (∀ j oj, ops[j]? = some oj → j ≠ i → listed.getD j true = false → (∀ e ∈ oj.after, Region.binds md e = true → e.on ≠ i) → oi.apart ops oj = true) →
      i ∈ Region.ready md ops listed → YieldsIf P ops S oi v a → R listed → (S0 w ∧ (noX X listed → S1 w)) →
      wpAnyX P md ops Q S0 S1 X fuel (listed.setIfInBounds i true) (a.put oi.dst v) w → wpAnyX P md ops Q S0 S1 X (fuel + 1) listed a w := by
  intro fuel
  induction fuel with
  | zero =>
    intro listed a w _ hr hy hRl hSw H
    refine ⟨fun h => (by rw [h] at hr; cases hr), fun j hj => ?_⟩
    by_cases hji : j = i
    · subst hji; exact hy.wpOp hi (hS _ w hRl hSw.1 hSw.2) ⟨⟨hSw.1, fun h => hSw.2 ((noX_set hX).1 h)⟩, H⟩
    · have := ready_mono hj hji
      rw [H.1] at this
      cases this
  | succ fuel ih =>
    intro listed a w hfree hr hy hRl hSw H
    refine ⟨fun h => (by rw [h] at hr; cases hr), fun j hj => ?_⟩
    by_cases hji : j = i
    · subst hji; exact hy.wpOp hi (hS _ w hRl hSw.1 hSw.2) ⟨⟨hSw.1, fun h => hSw.2 ((noX_set hX).1 h)⟩, H⟩
    · have h1 := H.2 j (ready_mono hj hji)
      obtain ⟨hjun, oj, hoj, hall⟩ := mem_ready.1 hj
      have hnot : ∀ e ∈ oj.after, Region.binds md e = true → e.on ≠ i := fun e he hb heq => by
        have h1 := hall e he hb
        have h0 := (mem_ready.1 hr).1
        rw [heq] at h1
        rcases Nat.lt_or_ge i listed.size with h' | h'
        · simp [h'] at h0 h1; rw [h0] at h1; cases h1
        · simp [Array.getElem?_eq_none h'] at h1
      have h2 := wpOp_putIf hoj (hfree j oj hoj hji hjun hnot) (fun cs b => hsel i oi cs b hi) (fun cs b => hsel j oj cs b hoj) hQ hy h1
      have hfree' : ∀ k ok, ops[k]? = some ok → k ≠ i → (listed.setIfInBounds j true).getD k true = false →
          (∀ e ∈ ok.after, Region.binds md e = true → e.on ≠ i) → oi.apart ops ok = true := fun k ok hk hki hun hno => by
        refine hfree k ok hk hki ?_ hno
        by_cases hjk : j = k
        · subst hjk; exact hjun
        · rw [getD_set_ne true hjk] at hun; exact hun
      refine wpOp_mono (fun a' w' h3 => ?_) h2
      obtain ⟨hy', ⟨h30, h31⟩, h32⟩ := h3
      rw [Array.setIfInBounds_comm _ _ (Ne.symm hji)] at h31
      have hn : S0 w' ∧ (noX X (listed.setIfInBounds j true) → S1 w') := ⟨h30, fun h => h31 ((noX_set hX).2 h)⟩
      refine ⟨hn, ih (listed.setIfInBounds j true) a' w' hfree' (ready_mono hr (Ne.symm hji)) hy' (hR listed j hRl hr hj hji) hn ?_⟩
      rw [Array.setIfInBounds_comm _ _ hji]
      exact h32
theorem wpAnyX_take {i : Nat} {oi : Oper} {v : Value} {fuel : Nat} {listed : Array Bool} {a : Act} {w : World} (hi : ops[i]? = some oi)
    (hs : Region.noSelect ops = true) (hf : Region.free md ops listed i = true) (hr : i ∈ Region.ready md ops listed) (hX : i ∉ X)
    (hQ : ∀ c a w, Q (.panic c) (a.put oi.dst v) w → Q (.panic c) a w) (hy : YieldsIf P ops S0 oi v a) (hS : S0 w ∧ (noX X listed → S1 w))
    (h : wpAnyX P md ops Q S0 S1 X fuel (listed.setIfInBounds i true) (a.put oi.dst v) w) : wpAnyX P md ops Q S0 S1 X (fuel + 1) listed a w :=
  wpAnyX_first (S := S0) hi (Region.noSelect_spec hs) hQ hX (fun _ => True) (fun _ _ _ _ _ _ => trivial) (fun _ _ _ h _ => h) fuel listed a w (Region.free_spec hi hf) hr hy trivial hS h
def bindsOn (md : Region.Mode) (o : Oper) (p : Nat → Bool) : Bool := o.after.any fun e => Region.binds md e && p e.on
def depsOf (md : Region.Mode) (ops : Array Oper) (i : Nat) : List Nat :=
  (List.range ops.size).foldl (fun T k => match ops[k]? with | some o => if bindsOn md o (fun m => m == i || T.contains m) then k :: T else T | none => T) []
def waits (md : Region.Mode) (ops : Array Oper) (listed : Array Bool) (X : List Nat) (i : Nat) : Bool :=
  let T := depsOf md ops i
  X.all T.contains && T.all (fun k => !listed.getD k true && (match ops[k]? with | some o => bindsOn md o (fun m => m == i || T.contains m) | none => false))
theorem wpAnyX_wait {i : Nat} {oi : Oper} {v : Value} {fuel : Nat} {listed : Array Bool} {a : Act} {w : World} (hi : ops[i]? = some oi)
    (hs : Region.noSelect ops = true) (hf : Region.free md ops listed i = true) (hr : i ∈ Region.ready md ops listed) (hX : i ∉ X) (hw : waits md ops listed X i = true)
    (hQ : ∀ c a w, Q (.panic c) (a.put oi.dst v) w → Q (.panic c) a w) (hy : YieldsIf P ops (fun w => S0 w ∧ S1 w) oi v a) (hS : S0 w ∧ (noX X listed → S1 w))
    (h : wpAnyX P md ops Q S0 S1 X fuel (listed.setIfInBounds i true) (a.put oi.dst v) w) : wpAnyX P md ops Q S0 S1 X (fuel + 1) listed a w := by
  simp only [waits, Bool.and_eq_true, List.all_eq_true] at hw
  generalize depsOf md ops i = T at hw
  refine wpAnyX_first (S := fun w => S0 w ∧ S1 w) hi (Region.noSelect_spec hs) hQ hX (fun L => ∀ k ∈ T, L.getD k true = false) ?_ ?_ fuel listed a w (Region.free_spec hi hf) hr hy ?_ hS h
  · intro L j hL hri hrj hji k hk
    have hun : ∀ m, (m == i || T.contains m) = true → L.getD m false = false := by
      intro m hm
      have : L.getD m true = false := by
        rcases Bool.or_eq_true .. ▸ hm with h | h
        · have : m = i := by simpa using h
          subst this; exact (mem_ready.1 hri).1
        · exact hL m (by simpa using h)
      rcases Nat.lt_or_ge m L.size with h' | h'
      · simp [h'] at this ⊢; exact this
      · simp [Array.getElem?_eq_none h']
    by_cases e : j = k
    · subst e
      obtain ⟨_, oj, hoj, hall⟩ := mem_ready.1 hrj
      have h2 := (hw.2 j hk).2
      simp only [hoj, bindsOn, Array.any_eq_true'] at h2
      obtain ⟨e, he, h3⟩ := h2
      simp only [Bool.and_eq_true] at h3
      have h4 := hall e he h3.1
      rw [hun e.on h3.2] at h4; cases h4
    · rw [getD_set_ne true e]; exact hL k hk
  · intro L w hL h0 h1
    exact ⟨h0, h1 fun k hk => hL k (by simpa using hw.1 k hk)⟩
  · intro k hk
    have := (hw.2 k hk).1
    simpa using this
theorem wpAnyX_wait' {i : Nat} {oi : Oper} {v : Value} {fuel : Nat} {listed : Array Bool} {a : Act} {w : World} (hi : ops[i]? = some oi)
    (hs : Region.noSelect ops = true) (hf : Region.free md ops listed i = true) (hr : i ∈ Region.ready md ops listed) (hX : i ∉ X) (hw : X.isEmpty = true ∨ waits md ops listed X i = true)
    (hQ : ∀ c a w, Q (.panic c) (a.put oi.dst v) w → Q (.panic c) a w) (hy : YieldsIf P ops (fun w => S0 w ∧ S1 w) oi v a) (hS : S0 w ∧ (noX X listed → S1 w))
    (h : wpAnyX P md ops Q S0 S1 X fuel (listed.setIfInBounds i true) (a.put oi.dst v) w) : wpAnyX P md ops Q S0 S1 X (fuel + 1) listed a w := by
  rcases hw with hw | hw
  · have hX0 : X = [] := by simpa using hw
    subst hX0
    exact wpAnyX_first (S := fun w => S0 w ∧ S1 w) hi (Region.noSelect_spec hs) hQ hX (fun _ => True) (fun _ _ _ _ _ _ => trivial) (fun _ _ _ h h' => ⟨h, h' (fun k hk => by cases hk)⟩) fuel listed a w (Region.free_spec hi hf) hr hy trivial hS h
  · exact wpAnyX_wait hi hs hf hr hX hw hQ hy hS h
theorem wpAnyX_all {rs : List Nat} {fuel : Nat} {listed : Array Bool} {a : Act} {w : World} (hr : Region.ready md ops listed = rs) (hne : rs ≠ [])
    (h : ∀ i ∈ rs, wpOp P ops Q i (fun a' w' => (S0 w' ∧ (noX X (listed.setIfInBounds i true) → S1 w')) ∧ wpAnyX P md ops Q S0 S1 X fuel (listed.setIfInBounds i true) a' w') a w) : wpAnyX P md ops Q S0 S1 X (fuel + 1) listed a w :=
  ⟨fun h0 => absurd (hr ▸ h0) hne, hr ▸ h⟩
theorem wpAnyX_done {listed : Array Bool} {a : Act} {w : World} (hr : Region.ready md ops listed = []) (h : Q .normal a w) :
    ∀ fuel, wpAnyX P md ops Q S0 S1 X fuel listed a w
  | 0 => ⟨hr, h⟩
  | _ + 1 => ⟨fun _ => h, by rw [hr]; simp⟩
theorem wp_region_x {id : Nat} {a : Act} {w : World} (hm : P.follows .mixedOrders = true)
    (h : wpAnyX P .any ops Q S0 S1 X ops.size (Array.replicate ops.size false) a { w with drawn := w.drawn + 1 }) : (Code.region id ops true).wp P Q a w :=
  wp_region_any hm (wpAny_of_x _ _ _ _ h)
end
end Cin
