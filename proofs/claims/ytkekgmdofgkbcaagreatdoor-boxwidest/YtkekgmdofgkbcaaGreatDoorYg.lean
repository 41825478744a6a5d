/- Blocks that are held over calls; whole numbers with a sign, and how great they are. No program. -/
import Derived.Test.YtkekgmdofgkbcaaGreatDoorYf
import Derived.Great.BuildSlice
import Derived.Maps.AppendAt
import Derived.Laws.CopyOwn
namespace Cin
open Go Go.RowKit
def Held (w : World) : List (Nat × Array Value × TypeId) → Prop
  | [] => True
  | (b, c, t) :: L => w.heap[b]? = some (.cells c t (0, 0)) ∧ Held w L
theorem Held.below {w w' : World} : ∀ {L : List (Nat × Array Value × TypeId)}, Held w L → Below w.heap.size w w' → Held w' L
  | [], _, _ => trivial
  | (_, _, _) :: _, h, hb => ⟨(hb.block _ (lt_of_heap h.1)).trans h.1, Held.below h.2 hb⟩
theorem Held.drew {w : World} {L : List (Nat × Array Value × TypeId)} (h : Held w L) : Held w.drew L := h.below (Below.refl _ _).drew
theorem Held.new {w : World} {L : List (Nat × Array Value × TypeId)} (h : Held w L) (c : Array Value) (t : TypeId) : Held (w.alloc (.cells c t)) ((w.heap.size, c, t) :: L) :=
  ⟨new_block _ _, h.below (bel_alloc _ _)⟩
section
variable {w : World} {c0 c1 c2 c3 c4 : Array Value} {t0 t1 t2 t3 t4 : TypeId}
theorem heldN1 : Held (w.alloc (.cells c0 t0)) [(w.heap.size, c0, t0)] := ⟨new_block _ _, trivial⟩
theorem heldN2 : Held ((w.alloc (.cells c0 t0)).alloc (.cells c1 t1)) [(w.heap.size, c0, t0), (w.heap.size + 1, c1, t1)] := ⟨new_block2 _ _ _, nb21 _ _ _, trivial⟩
theorem heldN3 : Held (((w.alloc (.cells c0 t0)).alloc (.cells c1 t1)).alloc (.cells c2 t2)) [(w.heap.size, c0, t0), (w.heap.size + 1, c1, t1), (w.heap.size + 1 + 1, c2, t2)] := ⟨new_block3 _ _ _ _, nb31 _ _ _ _, nb32 _ _ _ _, trivial⟩
theorem heldN4 : Held ((((w.alloc (.cells c0 t0)).alloc (.cells c1 t1)).alloc (.cells c2 t2)).alloc (.cells c3 t3)) [(w.heap.size, c0, t0), (w.heap.size + 1, c1, t1), (w.heap.size + 1 + 1, c2, t2), (w.heap.size + 1 + 1 + 1, c3, t3)] := ⟨nb40 _ _ _ _ _, nb41 _ _ _ _ _, nb42 _ _ _ _ _, nb43 _ _ _ _ _, trivial⟩
end
theorem cell_drew (w : World) (a : Addr) : w.drew.cell? a = w.cell? a := rfl
theorem frozen_drew (w : World) (a : Addr) : w.drew.frozen? a = w.frozen? a := rfl
theorem cell_lt {w : World} {b o : Nat} {x : Value} (h : w.cell? ⟨b, o, none⟩ = some x) : b < w.heap.size := by
  rcases Nat.lt_or_ge b w.heap.size with h' | h'
  · exact h'
  · simp [World.cell?, Array.getElem?_eq_none h'] at h
theorem cell_below {w w' : World} {b o : Nat} {x : Value} (h : w.cell? ⟨b, o, none⟩ = some x) (hb : Below w.heap.size w w') : w'.cell? ⟨b, o, none⟩ = some x := by rw [hb.cell (cell_lt h)]; exact h
theorem cell_set {w : World} {b o b' o' : Nat} {x u : Value} (h : w.cell? ⟨b, o, none⟩ = some x) (hb : b ≠ b') : (w.setCell ⟨b', o', none⟩ u).cell? ⟨b, o, none⟩ = some x := by
  rw [World.cell?_setCell_other _ _ _ _ (by intro e; injection e with e1; exact hb e1.symm)]; exact h
theorem below_drew {B : Nat} {w X : World} : Below B w X.drew ↔ Below B w X := ⟨fun h => ⟨h.os, h.tape, h.output, h.size, h.block⟩, fun h => h.drew⟩
theorem bel_set1 {B : Nat} {w X : World} {b o : Nat} {u : Value} (h : Below B w X) (hb : B ≤ b) : Below B w (X.setCell ⟨b, o, none⟩ u) := h.setCell (p := ⟨b, o, none⟩) hb u
theorem bel_set2 {B : Nat} {w X : World} {b o b' o' : Nat} {u u' : Value} (h : Below B w X) (hb : B ≤ b) (hb' : B ≤ b') : Below B w ((X.setCell ⟨b, o, none⟩ u).setCell ⟨b', o', none⟩ u') := bel_set1 (bel_set1 h hb) hb'
theorem cell0 {w : World} {b : Nat} {x : Value} {l : List Value} {t : TypeId} (h : w.heap[b]? = some (.cells (x :: l).toArray t (0, 0))) : w.cell? ⟨b, 0, none⟩ = some x := by rw [cell_of h]; simp
theorem cell1 {w : World} {b : Nat} {x y : Value} {l : List Value} {t : TypeId} (h : w.heap[b]? = some (.cells (x :: y :: l).toArray t (0, 0))) : w.cell? ⟨b, 1, none⟩ = some y := by rw [cell_of h]; simp
def Slot (w : World) (b : Nat) (t : TypeId) (n : Nat) : Prop := ∃ c : Array Value, c.size = n ∧ w.heap[b]? = some (.cells c t (0, 0))
section
variable {w w' : World} {b n : Nat} {t : TypeId}
theorem Slot.of {c : Array Value} (h : w.heap[b]? = some (.cells c t (0, 0))) (hn : c.size = n) : Slot w b t n := ⟨c, hn, h⟩
theorem Slot.lt (h : Slot w b t n) : b < w.heap.size := let ⟨_, _, h⟩ := h; lt_of_heap h
theorem Slot.below (h : Slot w b t n) (hb : Below w.heap.size w w') : Slot w' b t n := let ⟨c, hn, h⟩ := h; ⟨c, hn, (hb.block _ (lt_of_heap h)).trans h⟩
theorem Slot.drew (h : Slot w b t n) : Slot w.drew b t n := h
theorem slot_drew : Slot w.drew b t n ↔ Slot w b t n := Iff.rfl
theorem Slot.set (h : Slot w b t n) (b' o : Nat) (u : Value) : Slot (w.setCell ⟨b', o, none⟩ u) b t n := by
  obtain ⟨c, hn, h⟩ := h
  by_cases hb : b' = b
  · subst hb
    have : (w.setCell ⟨b', o, none⟩ u).heap[b']? = some (.cells (c.setIfInBounds o u) t (0, 0)) := by simp [World.setCell, Array.getElem?_modify, h]
    exact ⟨_, by simpa using hn, this⟩
  · exact ⟨c, hn, by rw [Below.heap_setCell _ _ _ _ (show b ≠ b' from Ne.symm hb)]; exact h⟩
theorem Slot.one (h : Slot w b t 1) : ∃ x, w.cell? ⟨b, 0, none⟩ = some x ∧ w.frozen? ⟨b, 0, none⟩ = false := by
  obtain ⟨c, hn, h⟩ := h
  exact ⟨c[0]'(by omega), by rw [cell_of h, Array.getElem?_eq_getElem (by omega)], free_of h 0⟩
theorem Slot.two (h : Slot w b t 2) : ∃ x y, w.cell? ⟨b, 0, none⟩ = some x ∧ w.cell? ⟨b, 1, none⟩ = some y ∧ w.frozen? ⟨b, 0, none⟩ = false ∧ w.frozen? ⟨b, 1, none⟩ = false := by
  obtain ⟨c, hn, h⟩ := h
  exact ⟨c[0]'(by omega), c[1]'(by omega), by rw [cell_of h, Array.getElem?_eq_getElem (by omega)], by rw [cell_of h, Array.getElem?_eq_getElem (by omega)], free_of h 0, free_of h 1⟩
theorem Slot.set2 (h : Slot w b t 2) (u u' : Value) : ((w.setCell ⟨b, 0, none⟩ u).setCell ⟨b, 1, none⟩ u').cell? ⟨b, 0, none⟩ = some u ∧ ((w.setCell ⟨b, 0, none⟩ u).setCell ⟨b, 1, none⟩ u').cell? ⟨b, 1, none⟩ = some u' := by
  obtain ⟨x, y, hx, hy, _⟩ := h.two
  refine ⟨?_, ?_⟩
  · rw [World.cell?_setCell_other _ _ _ _ (by intro e; injection e with _ e2; cases e2)]; exact World.cell?_setCell_same _ _ _ hx
  · refine World.cell?_setCell_same _ _ _ (u := y) ?_
    rw [World.cell?_setCell_other _ _ _ _ (by intro e; injection e with _ e2; cases e2)]; exact hy
theorem Slot.set1 (h : Slot w b t 1) (u : Value) : (w.setCell ⟨b, 0, none⟩ u).cell? ⟨b, 0, none⟩ = some u := by
  obtain ⟨x, hx, _⟩ := h.one
  exact World.cell?_setCell_same _ _ _ hx
theorem RefV.slot {tt : TypeId} {v : Value} {m : Nat} (h : RefV tt w v m) (hs : Slot w b t n) (ht : t ≠ tt) (o : Nat) (u : Value) : RefV tt (w.setCell ⟨b, o, none⟩ u) v m :=
  let ⟨_, _, hk⟩ := hs; h.setOther (a := ⟨b, o, none⟩) hk ht u
end
def NatB (t : TypeId) (w : World) (v : Value) (n k : Nat) : Prop := NatV t w v n ∧ n < pw k
def IntV (t : TypeId) (w : World) (v : Value) (z : Int) : Prop := ∃ s, v = .agg #[.bool (decide (z < 0)), s] ∧ RefV t w s z.natAbs
def IntB (t : TypeId) (w : World) (v : Value) (z : Int) (k : Nat) : Prop := IntV t w v z ∧ z.natAbs < pw k
section
variable {t : TypeId} {w w' : World} {v : Value} {n k : Nat} {z : Int}
theorem NatB.below (h : NatB t w v n k) (hb : Below w.heap.size w w') : NatB t w' v n k := ⟨h.1.below hb, h.2⟩
theorem IntV.below (h : IntV t w v z) (hb : Below w.heap.size w w') : IntV t w' v z := let ⟨s, e, r⟩ := h; ⟨s, e, r.below hb⟩
theorem IntB.below (h : IntB t w v z k) (hb : Below w.heap.size w w') : IntB t w' v z k := ⟨h.1.below hb, h.2⟩
theorem NatB.mono {j : Nat} (h : NatB t w v n k) (hj : k ≤ j) : NatB t w v n j := ⟨h.1, lt_pw_mono h.2 hj⟩
theorem IntB.mono {j : Nat} (h : IntB t w v z k) (hj : k ≤ j) : IntB t w v z j := ⟨h.1, lt_pw_mono h.2 hj⟩
theorem IntV.shape (h : IntV t w v z) : ∃ ad len cap, v = .agg #[.bool (decide (z < 0)), .slice ad len cap] ∧ RefV t w (.slice ad len cap) z.natAbs := by
  obtain ⟨s, rfl, hr⟩ := h
  obtain ⟨ad, len, cap, xs, rfl, _⟩ := hr.shape
  exact ⟨ad, len, cap, rfl, hr⟩
theorem IntB.shape (h : IntB t w v z k) : ∃ ad len cap, v = .agg #[.bool (decide (z < 0)), .slice ad len cap] ∧ RefV t w (.slice ad len cap) z.natAbs := h.1.shape
theorem IntB.shape2 (h : IntB t w v z k) : ∃ bb ad len cap, v = .agg #[.bool bb, .slice ad len cap] ∧ Hid (bb = decide (z < 0)) :=
  let ⟨ad, len, cap, e, _⟩ := h.shape; ⟨_, ad, len, cap, e, Lib.hid rfl⟩
theorem NatB.shape (h : NatB t w v n k) : ∃ ad len cap, v = .agg #[.slice ad len cap] ∧ RefV t w (.slice ad len cap) n := h.1.shape
theorem IntV.zero (t : TypeId) (w : World) : IntV t w (.agg #[.bool false, .slice none 0 0]) 0 := ⟨_, rfl, RefV.zero _ _⟩
theorem IntB.zero (t : TypeId) (w : World) (k : Nat) : IntB t w (.agg #[.bool false, .slice none 0 0]) 0 k := ⟨IntV.zero _ _, pw_pos k⟩
theorem IntB.setOther (h : IntB t w v z k) {t' : TypeId} {a : Addr} {c : Array Value} {f : Nat × Nat} (hb : w.heap[a.block]? = some (.cells c t' f)) (ht : t' ≠ t) (u : Value) : IntB t (w.setCell a u) v z k :=
  let ⟨⟨s, e, r⟩, hk⟩ := h; ⟨⟨s, e, r.setOther hb ht u⟩, hk⟩
theorem IntB.part {ad : Option Addr} {len cap : Nat} {b : Bool} (h : IntB t w (.agg #[.bool b, .slice ad len cap]) z k) : NatB t w (.agg #[.slice ad len cap]) z.natAbs k ∧ b = decide (z < 0) := by
  obtain ⟨⟨s, e, r⟩, hk⟩ := h
  injection e with e
  injection e with e
  simp only [List.cons.injEq, Value.bool.injEq, and_true] at e
  obtain ⟨rfl, rfl⟩ := e
  exact ⟨⟨⟨_, rfl, r⟩, hk⟩, rfl⟩
end
def sg (b : Bool) (n : Nat) : Int := if b then -(n : Int) else n
theorem sg_natAbs (b : Bool) (n : Nat) : (sg b n).natAbs = n := by unfold sg; split <;> simp
theorem sg_neg (b : Bool) (n : Nat) : decide (sg b n < 0) = (b && !decide (n = 0)) := by
  unfold sg
  cases b
  · simp
  · by_cases h : n = 0
    · simp [h]
    · simp [h]; omega
theorem sg_of (z : Int) : sg (decide (z < 0)) z.natAbs = z := by unfold sg; split <;> rename_i h <;> simp at h <;> omega
theorem intB_of {t : TypeId} {w : World} {s : Value} {b bb : Bool} {n k : Nat} (h : RefV t w s n) (hk : n < pw k) (e : bb = (b && !decide (n = 0))) : IntB t w (.agg #[.bool bb, s]) (sg b n) k :=
  ⟨⟨s, by rw [sg_neg, e], by rw [sg_natAbs]; exact h⟩, by rw [sg_natAbs]; exact hk⟩
def cmpZ (x y : Int) : Int := if x < y then -1 else if y < x then 1 else 0
def sgnZ (x : Int) : Int := if x < 0 then -1 else if 0 < x then 1 else 0
theorem pw_big (a b : Nat) : pw a + pw b ≤ pw (a + b + 1) := by
  have h1 := pw_le (a := a) (b := a + b) (by omega)
  have h2 := pw_le (a := b) (b := a + b) (by omega)
  rw [pw_succ]; omega
theorem mul_bound {x y : Int} {a b : Nat} (hx : x.natAbs < pw a) (hy : y.natAbs < pw b) : (x * y).natAbs < pw (a + b) := by
  rw [Int.natAbs_mul, pw_add]; exact Nat.mul_lt_mul'' hx hy
theorem fin_int {t ti : TypeId} {w0 w1 : World} {b k : Nat} {bb : Bool} {s : Value} {z : Int} (hI : IntB t w1 (.agg #[.bool bb, s]) z k) (hs : Slot w1 b ti 2) (ht : ti ≠ t) (hB : Below w0.heap.size w0 w1) (hb : w0.heap.size ≤ b) :
    IntB t ((w1.setCell ⟨b, 0, none⟩ (.bool bb)).setCell ⟨b, 1, none⟩ s) (.agg #[.bool bb, s]) z k ∧ Below w0.heap.size w0 ((w1.setCell ⟨b, 0, none⟩ (.bool bb)).setCell ⟨b, 1, none⟩ s) ∧
      ((w1.setCell ⟨b, 0, none⟩ (.bool bb)).setCell ⟨b, 1, none⟩ s).cell? ⟨b, 0, none⟩ = some (.bool bb) ∧ ((w1.setCell ⟨b, 0, none⟩ (.bool bb)).setCell ⟨b, 1, none⟩ s).cell? ⟨b, 1, none⟩ = some s := by
  obtain ⟨⟨s', e, r⟩, hk⟩ := hI
  injection e with e
  injection e with e
  simp only [List.cons.injEq, Value.bool.injEq, and_true] at e
  obtain ⟨rfl, rfl⟩ := e
  exact ⟨⟨⟨_, rfl, (r.slot hs ht 0 _).slot (hs.set b 0 _) ht 1 _⟩, hk⟩, bel_set2 hB hb hb, hs.set2 _ _⟩
theorem IntB.slot {t tt : TypeId} {w : World} {v : Value} {z : Int} {k b n : Nat} (h : IntB tt w v z k) (hs : Slot w b t n) (ht : t ≠ tt) (o : Nat) (u : Value) : IntB tt (w.setCell ⟨b, o, none⟩ u) v z k :=
  let ⟨_, _, hk⟩ := hs; h.setOther (a := ⟨b, o, none⟩) hk ht u
theorem fin_int2 {t t1 t2 : TypeId} {w0 w1 : World} {b c k j : Nat} {bb cc : Bool} {s r : Value} {z y : Int} (hI : IntB t w1 (.agg #[.bool bb, s]) z k) (hJ : IntB t w1 (.agg #[.bool cc, r]) y j) (hs : Slot w1 b t1 2) (hr : Slot w1 c t2 2) (h1 : t1 ≠ t) (h2 : t2 ≠ t)
    (hB : Below w0.heap.size w0 w1) (hb : w0.heap.size ≤ b) (hc : w0.heap.size ≤ c) (hne : b ≠ c) {W : World} (hW : W = (((w1.setCell ⟨b, 0, none⟩ (.bool bb)).setCell ⟨b, 1, none⟩ s).setCell ⟨c, 0, none⟩ (.bool cc)).setCell ⟨c, 1, none⟩ r) :
    IntB t W (.agg #[.bool bb, s]) z k ∧ IntB t W (.agg #[.bool cc, r]) y j ∧ Below w0.heap.size w0 W ∧
      W.cell? ⟨b, 0, none⟩ = some (.bool bb) ∧ W.cell? ⟨b, 1, none⟩ = some s ∧ W.cell? ⟨c, 0, none⟩ = some (.bool cc) ∧ W.cell? ⟨c, 1, none⟩ = some r := by
  subst hW
  have hr2 := (hr.set b 0 (.bool bb)).set b 1 s
  have e := hs.set2 (.bool bb) s
  have e2 := hr2.set2 (.bool cc) r
  refine ⟨(((hI.slot hs h1 0 _).slot (hs.set b 0 _) h1 1 _).slot hr2 h2 0 _).slot (hr2.set c 0 _) h2 1 _, (((hJ.slot hs h1 0 _).slot (hs.set b 0 _) h1 1 _).slot hr2 h2 0 _).slot (hr2.set c 0 _) h2 1 _, bel_set2 (bel_set2 hB hb hb) hc hc, ?_, ?_, e2.1, e2.2⟩
  · exact cell_set (cell_set e.1 hne) hne
  · exact cell_set (cell_set e.2 hne) hne
theorem NatB.slot {t tt : TypeId} {w : World} {v : Value} {m k b n : Nat} (h : NatB tt w v m k) (hs : Slot w b t n) (ht : t ≠ tt) (o : Nat) (u : Value) : NatB tt (w.setCell ⟨b, o, none⟩ u) v m k :=
  let ⟨_, _, hk⟩ := hs; ⟨h.1.setOther (a := ⟨b, o, none⟩) hk ht u, h.2⟩
theorem fin_nat2 {t t1 t2 : TypeId} {w0 w1 : World} {b c k j m n : Nat} {s r : Value} (hI : NatB t w1 (.agg #[s]) m k) (hJ : NatB t w1 (.agg #[r]) n j) (hs : Slot w1 b t1 1) (hr : Slot w1 c t2 1) (h1 : t1 ≠ t) (h2 : t2 ≠ t)
    (hB : Below w0.heap.size w0 w1) (hb : w0.heap.size ≤ b) (hc : w0.heap.size ≤ c) (hne : b ≠ c) {W : World} (hW : W = (w1.setCell ⟨b, 0, none⟩ s).setCell ⟨c, 0, none⟩ r) :
    NatB t W (.agg #[s]) m k ∧ NatB t W (.agg #[r]) n j ∧ Below w0.heap.size w0 W ∧ W.cell? ⟨b, 0, none⟩ = some s ∧ W.cell? ⟨c, 0, none⟩ = some r := by
  subst hW
  have hr2 := hr.set b 0 s
  exact ⟨(hI.slot hs h1 0 _).slot hr2 h2 0 _, (hJ.slot hs h1 0 _).slot hr2 h2 0 _, bel_set2 hB hb hc, cell_set (hs.set1 s) hne, hr2.set1 r⟩
theorem NatB.shape2 {t : TypeId} {w : World} {v : Value} {n k : Nat} (h : NatB t w v n k) : ∃ ad len cap, v = .agg #[.slice ad len cap] := let ⟨ad, len, cap, e, _⟩ := h.shape; ⟨ad, len, cap, e⟩
end Cin

namespace Cin
open Go Go.RowKit
def Mono (D : TypeId → Bool) (F : World → Prop) : Prop := ∀ u w, Ext D u w → F u → F w
section mono
variable {D : TypeId → Bool} {F G : World → Prop} {t : TypeId} {u w : World}
theorem Mono.and (h : Mono D F) (h' : Mono D G) : Mono D fun w => F w ∧ G w := fun u w e ⟨a, b⟩ => ⟨h u w e a, h' u w e b⟩
theorem Mono.true : Mono D fun _ => True := fun _ _ _ _ => trivial
theorem Sl.ext {k : IntKind} {v : Value} {xs : List Nat} (h : Sl t k u v xs) (e : Ext D u w) (ht : D t = true) : Sl t k w v xs := by
  rcases h with ⟨rfl, rfl⟩ | ⟨b, off, cap, cur, rfl, hB, r⟩
  · exact .inl ⟨rfl, rfl⟩
  · exact .inr ⟨b, off, cap, cur, rfl, e.block b _ _ _ hB ht, r⟩
theorem RefV.ext {v : Value} {n : Nat} (h : RefV t u v n) (e : Ext D u w) (ht : D t = true) : RefV t w v n := let ⟨xs, h1, h2⟩ := h; ⟨xs, h1.ext e ht, h2⟩
theorem NatB.ext {v : Value} {n k : Nat} (h : NatB t u v n k) (e : Ext D u w) (ht : D t = true) : NatB t w v n k := let ⟨⟨s, h1, h2⟩, hk⟩ := h; ⟨⟨s, h1, h2.ext e ht⟩, hk⟩
theorem IntB.ext {v : Value} {z : Int} {k : Nat} (h : IntB t u v z k) (e : Ext D u w) (ht : D t = true) : IntB t w v z k := let ⟨⟨s, h1, h2⟩, hk⟩ := h; ⟨⟨s, h1, h2.ext e ht⟩, hk⟩
theorem monoNat (ht : D t = true) (v : Value) (n k : Nat) : Mono D fun w => NatB t w v n k := fun _ _ e h => h.ext e ht
theorem monoInt (ht : D t = true) (v : Value) (z : Int) (k : Nat) : Mono D fun w => IntB t w v z k := fun _ _ e h => h.ext e ht
theorem monoRef (ht : D t = true) (v : Value) (n k : Nat) : Mono D fun w => RefV t w v n ∧ n < pw k := fun _ _ e h => ⟨h.1.ext e ht, h.2⟩
end mono
def Wk (P : Program) (w0 : World) (D Z : TypeId → Bool) (Post : Ending → World → Prop) (L : LC) (F : World → Prop) (tr : Tr) (E : Env) : Prop :=
  Mono D F → ∀ u, F u → interp P w0 D Z Post tr L E u
section rules
variable {P : Program} {w0 : World} {D Z : TypeId → Bool} {Post : Ending → World → Prop} {F : World → Prop} {E : Env} {k : Tr} {L : LC}
theorem wRet {x : SV} (h : ∀ w, Below w0.heap.size w0 w → F w → Post (.returned (x.den [] E)) w) : Wk P w0 D Z Post L F (.ret x) E :=
  fun hm u hF w e b => h w b (hm u w e hF)
theorem wIf {c : A} {x y : Tr} (b : Bool) (hc : c.den [] E = .bool b) (h1 : b = true → Wk P w0 D Z Post L F x E) (h2 : b = false → Wk P w0 D Z Post L F y E) : Wk P w0 D Z Post L F (.cond c x y) E :=
  fun hm u hF => ⟨b, hc, fun e => h1 e hm u hF, fun e => h2 e hm u hF⟩
theorem wTrue {c : A} {x y : Tr} (hc : c.den [] E = .bool true) (h1 : Wk P w0 D Z Post L F x E) : Wk P w0 D Z Post L F (.cond c x y) E := wIf true hc (fun _ => h1) (fun h => by cases h)
theorem wFalse {c : A} {x y : Tr} (hc : c.den [] E = .bool false) (h1 : Wk P w0 D Z Post L F y E) : Wk P w0 D Z Post L F (.cond c x y) E := wIf false hc (fun h => by cases h) (fun _ => h1)
theorem wPr {op : Op} {ty : TypeId} {ar : List V1} {v : Value} (h : PrimOk P op ty (ar.map (V1.den [] E)) v) (hv : v.oneCell' = true) {E' : Env} (hk : Wk P w0 D Z Post L F k E') (hE : E ++ [[v]] = E' := by intros; (simp only [List.cons_append, List.nil_append]) <;> exact rfl) : Wk P w0 D Z Post L F (.em (.pr op ty ar) k) E :=
  fun hm u hF => ⟨v, h, hv, hE ▸ hk hm u hF⟩
theorem wMono {G : World → Prop} (hG : Mono D G) (h : ∀ w, F w → G w) {tr : Tr} (hk : Wk P w0 D Z Post L G tr E) : Wk P w0 D Z Post L F tr E := fun _ u hF => hk hG u (h u hF)
theorem wCall {f : FuncId} {ar : List V1} {sh : List (Option Nat)} {args : Array Value} (G : List Value → World → Prop) (hG : ∀ cs, Mono D (G cs))
    (hc : ∀ w, Below w0.heap.size w0 w → F w → Calls P f args w fun e w' => ∃ cs : List Value, e = .returned ((mkSV sh 0).den [] [cs]) ∧ cs.all Value.oneCell' = true ∧ G cs w' ∧ Below w.heap.size w w')
    {E' : List Value → Env} (hk : ∀ cs, Wk P w0 D Z Post L (fun w => G cs w ∧ F w) k (E' cs)) (ha : (ar.map (V1.den [] E)).toArray = args := by rfl) (hE : ∀ cs, E ++ [cs] = E' cs := by intros; (simp only [List.cons_append, List.nil_append]) <;> exact rfl) : Wk P w0 D Z Post L F (.em (.call f ar sh) k) E := by
  intro hm u hF w e b
  subst ha
  refine (hc w b (hm u w e hF)).mono ?_
  rintro e1 w' ⟨cs, h1, h2, h3, h4⟩
  exact ⟨cs, h1, h2, h4, hE cs ▸ hk cs ((hG cs).and hm) w' ⟨h3, hm u w' (e.below h4) hF⟩⟩
theorem wVal {f : FuncId} {ar : List V1} {args : Array Value} {v : Value}
    (hc : ∀ w, Below w0.heap.size w0 w → F w → Calls P f args w fun e w' => e = .returned v ∧ Below w.heap.size w w') (hv : v.oneCell' = true)
    {E' : Env} (hk : Wk P w0 D Z Post L F k E') (ha : (ar.map (V1.den [] E)).toArray = args := by rfl) (hE : E ++ [[v]] = E' := by intros; (simp only [List.cons_append, List.nil_append]) <;> exact rfl) : Wk P w0 D Z Post L F (.em (.call f ar [none]) k) E := by
  intro hm u hF w e b
  subst ha
  refine (hc w b (hm u w e hF)).mono ?_
  rintro e1 w' ⟨rfl, h4⟩
  exact ⟨[v], rfl, by simp [hv], h4, hE ▸ hk hm w' (hm u w' (e.below h4) hF)⟩
theorem wInt {t : TypeId} (ht : D t = true) {f : FuncId} {ar : List V1} {args : Array Value} {z : Int} {m : Nat}
    (hc : ∀ w, Below w0.heap.size w0 w → F w → Calls P f args w fun e w' => ∃ v, e = .returned v ∧ IntB t w' v z m ∧ Below w.heap.size w w')
    {E' : Value → Value → Env} (hk : ∀ x y, Wk P w0 D Z Post L (fun w => IntB t w (.agg #[x, y]) z m ∧ F w) k (E' x y)) (ha : (ar.map (V1.den [] E)).toArray = args := by rfl) (hE : ∀ x y, E ++ [[x, y]] = E' x y := by intros; (simp only [List.cons_append, List.nil_append]) <;> exact rfl) : Wk P w0 D Z Post L F (.em (.call f ar [some 2]) k) E := by
  intro hm u hF w e b
  subst ha
  refine (hc w b (hm u w e hF)).mono ?_
  rintro e1 w' ⟨v, rfl, hv, h4⟩
  obtain ⟨bb, ad, len, cap, rfl, _⟩ := hv.shape2
  exact ⟨[.bool bb, .slice ad len cap], rfl, rfl, h4, hE _ _ ▸ hk _ _ ((monoInt ht _ _ _).and hm) w' ⟨hv, hm u w' (e.below h4) hF⟩⟩
theorem wNat {t : TypeId} (ht : D t = true) {f : FuncId} {ar : List V1} {args : Array Value} {n m : Nat}
    (hc : ∀ w, Below w0.heap.size w0 w → F w → Calls P f args w fun e w' => ∃ v, e = .returned v ∧ NatB t w' v n m ∧ Below w.heap.size w w')
    {E' : Value → Env} (hk : ∀ x, Wk P w0 D Z Post L (fun w => NatB t w (.agg #[x]) n m ∧ F w) k (E' x)) (ha : (ar.map (V1.den [] E)).toArray = args := by rfl) (hE : ∀ x, E ++ [[x]] = E' x := by intros; (simp only [List.cons_append, List.nil_append]) <;> exact rfl) : Wk P w0 D Z Post L F (.em (.call f ar [some 1]) k) E := by
  intro hm u hF w e b
  subst ha
  refine (hc w b (hm u w e hF)).mono ?_
  rintro e1 w' ⟨v, rfl, hv, h4⟩
  obtain ⟨ad, len, cap, rfl⟩ := hv.shape2
  exact ⟨[.slice ad len cap], rfl, rfl, h4, hE _ ▸ hk _ ((monoNat ht _ _ _).and hm) w' ⟨hv, hm u w' (e.below h4) hF⟩⟩
theorem wRef {t : TypeId} (ht : D t = true) {f : FuncId} {ar : List V1} {args : Array Value} {n m : Nat}
    (hc : ∀ w, Below w0.heap.size w0 w → F w → Calls P f args w fun e w' => ∃ v, e = .returned v ∧ (RefV t w' v n ∧ n < pw m) ∧ Below w.heap.size w w')
    {E' : Value → Env} (hk : ∀ x, Wk P w0 D Z Post L (fun w => (RefV t w x n ∧ n < pw m) ∧ F w) k (E' x)) (ha : (ar.map (V1.den [] E)).toArray = args := by rfl) (hE : ∀ x, E ++ [[x]] = E' x := by intros; (simp only [List.cons_append, List.nil_append]) <;> exact rfl) : Wk P w0 D Z Post L F (.em (.call f ar [none]) k) E := by
  intro hm u hF w e b
  subst ha
  refine (hc w b (hm u w e hF)).mono ?_
  rintro e1 w' ⟨v, rfl, hv, h4⟩
  obtain ⟨ad, len, cap, _, rfl, _⟩ := hv.1.shape
  exact ⟨[.slice ad len cap], rfl, rfl, h4, hE _ ▸ hk _ ((monoRef ht _ _ _).and hm) w' ⟨hv, hm u w' (e.below h4) hF⟩⟩
theorem wKnown {f : FuncId} {ar : List V1} {sh : List (Option Nat)} {args : Array Value} {V : Value} (cs : List Value)
    (hc : ∀ w, Below w0.heap.size w0 w → F w → Calls P f args w fun e w' => e = .returned V ∧ Below w.heap.size w w') (hV : (mkSV sh 0).den [] [cs] = V) (hv : cs.all Value.oneCell' = true)
    {E' : Env} (hk : Wk P w0 D Z Post L F k E') (ha : (ar.map (V1.den [] E)).toArray = args := by rfl) (hE : E ++ [cs] = E' := by intros; (simp only [List.cons_append, List.nil_append]) <;> exact rfl) : Wk P w0 D Z Post L F (.em (.call f ar sh) k) E := by
  intro hm u hF w e b
  subst ha hV
  refine (hc w b (hm u w e hF)).mono ?_
  rintro e1 w' ⟨rfl, h4⟩
  exact ⟨cs, rfl, hv, h4, hE ▸ hk hm w' (hm u w' (e.below h4) hF)⟩
theorem wIntV {t : TypeId} (ht : D t = true) {f : FuncId} {ar : List V1} {args : Array Value} {z : Int} {m : Nat} {c : Value}
    (hc : ∀ w, Below w0.heap.size w0 w → F w → Calls P f args w fun e w' => ∃ v, e = .returned (.tuple #[v, c]) ∧ IntB t w' v z m ∧ Below w.heap.size w w') (hv : c.oneCell' = true)
    {E' : Value → Value → Env} (hk : ∀ x y, Wk P w0 D Z Post L (fun w => IntB t w (.agg #[x, y]) z m ∧ F w) k (E' x y)) (ha : (ar.map (V1.den [] E)).toArray = args := by rfl) (hE : ∀ x y, E ++ [[x, y, c]] = E' x y := by intros; (simp only [List.cons_append, List.nil_append]) <;> exact rfl) : Wk P w0 D Z Post L F (.em (.call f ar [some 2, none]) k) E := by
  intro hm u hF w e b
  subst ha
  refine (hc w b (hm u w e hF)).mono ?_
  rintro e1 w' ⟨v, rfl, h1, h4⟩
  obtain ⟨bb, ad, len, cap, rfl, _⟩ := h1.shape2
  exact ⟨[.bool bb, .slice ad len cap, c], rfl, by simp only [List.all_cons, List.all_nil, hv, Bool.and_true]; rfl, h4, hE _ _ ▸ hk _ _ ((monoInt ht _ _ _).and hm) w' ⟨h1, hm u w' (e.below h4) hF⟩⟩
theorem wRefV {t : TypeId} (ht : D t = true) {f : FuncId} {ar : List V1} {args : Array Value} {n m : Nat} {c : Value}
    (hc : ∀ w, Below w0.heap.size w0 w → F w → Calls P f args w fun e w' => ∃ v, e = .returned (.tuple #[v, c]) ∧ (RefV t w' v n ∧ n < pw m) ∧ Below w.heap.size w w') (hv : c.oneCell' = true)
    {E' : Value → Env} (hk : ∀ x, Wk P w0 D Z Post L (fun w => (RefV t w x n ∧ n < pw m) ∧ F w) k (E' x)) (ha : (ar.map (V1.den [] E)).toArray = args := by rfl) (hE : ∀ x, E ++ [[x, c]] = E' x := by intros; (simp only [List.cons_append, List.nil_append]) <;> exact rfl) : Wk P w0 D Z Post L F (.em (.call f ar [none, none]) k) E := by
  intro hm u hF w e b
  subst ha
  refine (hc w b (hm u w e hF)).mono ?_
  rintro e1 w' ⟨v, rfl, h1, h4⟩
  obtain ⟨ad, len, cap, _, rfl, _⟩ := h1.1.shape
  exact ⟨[.slice ad len cap, c], rfl, by simp only [List.all_cons, List.all_nil, hv, Bool.and_true]; rfl, h4, hE _ ▸ hk _ ((monoRef ht _ _ _).and hm) w' ⟨h1, hm u w' (e.below h4) hF⟩⟩
theorem mu_eq (I : List Value → World → Prop) (μ : List Value → Nat) {n : Nat} {cs : List Value} (hn : μ cs = n) : (fun cs' u => I cs' u ∧ μ cs' < μ cs) = fun cs' u => ∃ n', n' < n ∧ (I cs' u ∧ μ cs' = n') := by
  funext cs' u
  exact propext ⟨fun h => ⟨μ cs', by omega, h.1, rfl⟩, fun ⟨n', h1, h2, h3⟩ => ⟨h2, by omega⟩⟩
theorem wLoop {d : Nat} {init : List A} {body : Tr} (I : List Value → World → Prop) (hI : ∀ cs, Mono D (I cs)) (μ : List Value → Nat) (h0 : ∀ w, F w → I (init.map (A.den [] E)) w)
    {E' : List Value → Env} (hk : ∀ cs, cs.length = init.length → Wk P w0 D D Post (updL L d fun cs' u => I cs' u ∧ μ cs' < μ cs) (fun w => I cs w ∧ F w) body (E' cs)) (hE : ∀ cs, E ++ [cs] = E' cs := by intros; (simp only [List.cons_append, List.nil_append]) <;> exact rfl) :
    Wk P w0 D D Post L F (.loop d init body) E :=
  fun hm u hF => ⟨fun n cs u => I cs u ∧ μ cs = n, _, ⟨h0 u hF, rfl⟩, fun n cs u' hl _ he ⟨hi, hn⟩ => by
    rw [← mu_eq I μ hn]; exact hE cs ▸ hk cs hl ((hI cs).and hm) u' ⟨hi, hm u u' he hF⟩⟩
theorem wBack {d : Nat} {vals : List A} (h : ∀ w, F w → L d (vals.map (A.den [] E)) w) : Wk P w0 D Z Post L F (.back d vals) E := fun _ u hF => h u hF
end rules
section prims
variable {P : Program} {t t2 ty : TypeId} {vs : List Value} {p q : Operand} {κ : IntKind} {x y : Int} {b c : Bool}
theorem prEq (hp : pe vs p = .int κ x) (hq : pe vs q = .int κ y) : PrimOk P (.binOp .eql t p q t2) ty vs (.bool (x == y)) := fun w => by
  simp only [execOp, hp, hq]
  simp [eqGuard, binOp, Op.intCmp]
theorem prNe (hp : pe vs p = .int κ x) (hq : pe vs q = .int κ y) : PrimOk P (.binOp .neq t p q t2) ty vs (.bool (x != y)) := fun w => by
  simp only [execOp, hp, hq]
  simp [eqGuard, binOp, Op.intCmp]
theorem prLt (hp : pe vs p = .int κ x) (hq : pe vs q = .int κ y) : PrimOk P (.binOp .lss t p q t2) ty vs (.bool (decide (x < y))) := fun w => by
  simp only [execOp, hp, hq]
  simp [eqGuard, binOp, Op.intCmp]
theorem prLe (hp : pe vs p = .int κ x) (hq : pe vs q = .int κ y) : PrimOk P (.binOp .leq t p q t2) ty vs (.bool (decide (x ≤ y))) := fun w => by
  simp only [execOp, hp, hq]
  simp [eqGuard, binOp, Op.intCmp]
theorem prGt (hp : pe vs p = .int κ x) (hq : pe vs q = .int κ y) : PrimOk P (.binOp .gtr t p q t2) ty vs (.bool (decide (y < x))) := fun w => by
  simp only [execOp, hp, hq]
  simp [eqGuard, binOp, Op.intCmp]
theorem prGe (hp : pe vs p = .int κ x) (hq : pe vs q = .int κ y) : PrimOk P (.binOp .geq t p q t2) ty vs (.bool (decide (y ≤ x))) := fun w => by
  simp only [execOp, hp, hq]
  simp [eqGuard, binOp, Op.intCmp]
theorem prAdd (hp : pe vs p = .int κ x) (hq : pe vs q = .int κ y) : PrimOk P (.binOp .add t p q t2) ty vs (.int κ (κ.wrap (x + y))) := fun w => by
  simp only [execOp, hp, hq]
  simp [eqGuard, binOp, Op.intArith]
theorem prNot (hp : pe vs p = .bool b) : PrimOk P (.unOp .not t p) ty vs (.bool (!b)) := fun w => by
  simp only [execOp, hp]
  simp [Op.unary]
theorem prLenS {s : ByteArray} {T : TypeId} (hu : P.underlying T = some .string) (hp : pe vs p = .string s) : PrimOk P (.call { callee := .builtin .len, args := #[p], argTypes := #[T] }) ty vs (.int .i64 s.size) := fun w => by
  simp [execOp, resolve, hp, invoke, builtin, Builtin.len_, goInt, run_underlying hu]
theorem prLen {ad : Option Addr} {n m : Nat} {T e : TypeId} (hu : P.underlying T = some (.slice e)) (hp : pe vs p = .slice ad n m) : PrimOk P (.call { callee := .builtin .len, args := #[p], argTypes := #[T] }) ty vs (.int .i64 n) := fun w => by
  simp [execOp, resolve, hp, invoke, builtin, Builtin.len_, goInt, run_underlying hu]
theorem prSEq {s r : ByteArray} (hp : pe vs p = .string s) (hq : pe vs q = .string r) : PrimOk P (.binOp .eql t p q t2) ty vs (.bool (s.toList == r.toList)) := fun w => by
  simp only [execOp, hp, hq]
  simp [eqGuard, binOp, Op.stringOp]
theorem prSAdd {s r : ByteArray} (hp : pe vs p = .string s) (hq : pe vs q = .string r) (h : s.size + r.size ≤ 1000000000000) : PrimOk P (.binOp .add t p q t2) ty vs (.string (s ++ r)) := fun w => by
  simp only [execOp, hp, hq]
  simp [eqGuard, binOp, Op.stringOp]
  omega
theorem prIdx {s : ByteArray} {T : TypeId} {m : Nat} {b : UInt8} (hu : P.underlying T = some .string) (hp : pe vs p = .string s) (hq : pe vs q = .int κ m) (hm : s.data.toList[m]? = some b) : PrimOk P (.index T p q) ty vs (.int .u8 b.toNat) := fun w => by
  have e : s[m]? = some b := by
    rw [Array.getElem?_toList] at hm
    obtain ⟨h1, h2⟩ := Array.getElem?_eq_some_iff.1 hm
    rw [getElem?_pos s m h1]
    exact congrArg some h2
  simp only [execOp, hp, hq]
  simp [Instr.index, asIntOf, run_underlying hu, e]
theorem prSlH {s : ByteArray} {T : TypeId} {i : Int} (hu : P.underlying T = some .string) (hp : pe vs p = .string s) (hq : pe vs q = .int κ i) (h0 : 0 ≤ i) (h1 : i ≤ s.size) : PrimOk P (.slice T p none (some q) none) ty vs (.string (s.extract 0 i.toNat)) := fun w => by
  simp only [execOp, hp, hq, Option.map_none, Option.map_some]
  simp [Instr.sliceAt, Instr.slice, Instr.sliceBounds, Instr.sliceBound, asIntOf, run_underlying hu, h0, h1]
theorem prSlL {s : ByteArray} {T : TypeId} {i : Int} (hu : P.underlying T = some .string) (hp : pe vs p = .string s) (hq : pe vs q = .int κ i) (h0 : 0 ≤ i) (h1 : i ≤ s.size) : PrimOk P (.slice T p (some q) none none) ty vs (.string (s.extract i.toNat s.size)) := fun w => by
  simp only [execOp, hp, hq, Option.map_none, Option.map_some]
  simp [Instr.sliceAt, Instr.slice, Instr.sliceBounds, Instr.sliceBound, asIntOf, run_underlying hu, h0, h1]
end prims
end Cin

namespace Cin
open Go Go.RowKit
def RowO (B : Nat) (t : TypeId) (n : Nat) (w : World) (v : Value) (xs : List (List Value)) : Prop := (∀ x ∈ xs, x.length = n) ∧ w.ownsRow B t n v xs.length xs.flatten
section
variable {D Z : TypeId → Bool} {B n : Nat} {t : TypeId} {u w : World} {v : Value} {xs : List (List Value)}
theorem RowO.weak {B' : Nat} (h : RowO B t n w v xs) (hB : B' ≤ B) : RowO B' t n w v xs := by
  refine ⟨h.1, h.2.1, ?_⟩
  rcases h.2.2 with h' | ⟨g, cap, cur, e, hb, r⟩
  · exact .inl h'
  · exact .inr ⟨g, cap, cur, e, by omega, r⟩
theorem RowO.ext (h : RowO B t n u v xs) (e : Ext D u w) (ht : D t = true) : RowO B t n w v xs := by
  refine ⟨h.1, h.2.1, ?_⟩
  rcases h.2.2 with h' | ⟨g, cap, cur, e1, hb, hg, r⟩
  · exact .inl h'
  · exact .inr ⟨g, cap, cur, e1, hb, e.block g _ _ _ hg ht, r⟩
theorem RowO.below {w' : World} (h : RowO B t n w v xs) (hb : Below w.heap.size w w') : RowO B t n w' v xs := h.ext (D := fun _ => true) (Ext.of_below hb) rfl
theorem RowO.pl (h : RowO B t n w v xs) : [v].all Value.oneCell' = true := by
  rcases h.2.2 with ⟨rfl, _⟩ | ⟨g, cap, cur, rfl, _⟩ <;> rfl
theorem RowO.shape (h : RowO B t n w v xs) (hx : xs ≠ []) : ∃ g cap, v = .slice (some ⟨g, 0, none⟩) xs.length cap := by
  rcases h.2.2 with ⟨_, h0⟩ | ⟨g, cap, cur, rfl, _⟩
  · exact absurd (List.eq_nil_of_length_eq_zero h0) hx
  · exact ⟨g, cap, rfl⟩
theorem flat_at : ∀ {xs : List (List Value)} {i j : Nat} {x : List Value} {y : Value}, (∀ x ∈ xs, x.length = n) → xs[i]? = some x → x[j]? = some y → xs.flatten[i * n + j]? = some y
  | [], i, _, _, _, _, h, _ => by cases i <;> simp at h
  | a :: r, 0, j, x, y, hl, h, hy => by
    simp only [List.getElem?_cons_zero, Option.some.injEq] at h
    subst h
    have := (List.getElem?_eq_some_iff.1 hy).1
    rw [List.flatten_cons, Nat.zero_mul, Nat.zero_add, List.getElem?_append_left this]; exact hy
  | a :: r, i + 1, j, x, y, hl, h, hy => by
    have ha := hl a List.mem_cons_self
    rw [List.flatten_cons, List.getElem?_append_right (by rw [ha, Nat.succ_mul]; omega), ha, show (i + 1) * n + j - n = i * n + j by rw [Nat.succ_mul]; omega]
    exact flat_at (fun x hx => hl x (List.mem_cons_of_mem _ hx)) (by simpa using h) hy
theorem RowO.at {g cap len i : Nat} {x : List Value} (h : RowO B t n w (.slice (some ⟨g, 0, none⟩) len cap) xs) (hx : xs[i]? = some x) : w.rangeAt g (i * n) x := by
  intro j y hy
  have hf := flat_at h.1 hx hy
  rcases h.2.2 with ⟨h0, _⟩ | ⟨g', cap', cur, e, hb, hg, h1, h2, h3, h4⟩
  · cases h0
  · injection e with e1 e2 e3
    injection e1 with e1
    injection e1 with e1
    subst e1
    have : cur[i * n + j]? = some y := by
      rw [← Array.getElem?_toList]
      rw [← h4] at hf
      rw [List.getElem?_take] at hf
      split at hf
      · exact hf
      · cases hf
    simp [World.cell?, hg, this]
theorem RowO.len {g cap len : Nat} (h : RowO B t n w (.slice (some ⟨g, 0, none⟩) len cap) xs) : len = xs.length := by
  rcases h.2.2 with ⟨h0, _⟩ | ⟨g', cap', cur, e, _⟩
  · cases h0
  · injection e
end
section prims
variable {P : Program} {T e ty : TypeId} {vs : List Value} {p q : Operand} {κ : IntKind} {i : Int}
end prims
section rules
variable {P : Program} {w0 : World} {D Z : TypeId → Bool} {Post : Ending → World → Prop} {F : World → Prop} {E : Env} {k : Tr} {L : LC}
def VarV (B : Nat) (t : TypeId) (w : World) (g : Nat) (cs : List Value) : Prop := B ≤ g ∧ w.heap[g]? = some (.cells cs.toArray t (0, 0))
theorem VarV.range {B g : Nat} {t : TypeId} {w : World} {cs : List Value} (h : VarV B t w g cs) : w.rangeAt g 0 cs := by
  intro j v hj
  simp [World.cell?, h.2, hj]
theorem flat_len {n : Nat} : ∀ {xs : List (List Value)}, (∀ x ∈ xs, x.length = n) → xs.flatten.length = xs.length * n
  | [], _ => by simp
  | a :: r, h => by rw [List.flatten_cons, List.length_append, h a List.mem_cons_self, flat_len (fun x hx => h x (List.mem_cons_of_mem _ hx)), List.length_cons, Nat.succ_mul]; omega
end rules
end Cin

namespace Cin
open Go Go.RowKit
def Keeps (t : TypeId) (g : Nat) (G : World → Prop) : Prop := ∀ (w : World) (cs cs' : List Value), w.heap[g]? = some (.cells cs.toArray t (0, 0)) → G w → G (w.setRow g cs'.toArray)
section keeps
variable {Z : TypeId → Bool} {t t' : TypeId} {g g' B n len cap : Nat} {G H : World → Prop} {xs : List (List Value)} {ds : List Value}
theorem Keeps.and (h : Keeps t g G) (h' : Keeps t g H) : Keeps t g fun w => G w ∧ H w := fun w cs cs' hv ⟨a, b⟩ => ⟨h w cs cs' hv a, h' w cs cs' hv b⟩
theorem Keeps.mono (hG : Mono Z G) (hZ : Z t = false) : Keeps t g G := fun w cs cs' hv hg => hG w _ ⟨by simp, fun b c tt f hb ht => by
  by_cases hne : b = g
  · subst hne
    rw [hv] at hb
    injection hb with hb
    injection hb with _ h2 _
    subst h2
    rw [hZ] at ht; cases ht
  · rw [setRow_other w g b _ hne]; exact hb⟩ hg
theorem Keeps.var (h : g' ≠ g) : Keeps t g fun w => VarV B t' w g' ds := fun w _ cs' _ ⟨h1, h2⟩ => ⟨h1, by rw [setRow_other w g g' _ h]; exact h2⟩
theorem Keeps.row (h : g' ≠ g) : Keeps t g fun w => RowO B t' n w (.slice (some ⟨g', 0, none⟩) len cap) xs := fun w _ cs' _ ⟨h1, h2, h3⟩ => by
  refine ⟨h1, h2, ?_⟩
  rcases h3 with ⟨h0, _⟩ | ⟨k, cp, cur, e, hb, hg, r⟩
  · cases h0
  · have hk : k = g' := by
      injection e with e1 _ _
      injection e1 with e1
      injection e1 with e1
      exact e1.symm
    subst hk
    exact .inr ⟨k, cp, cur, e, hb, by rw [setRow_other w g k _ h]; exact hg, r⟩
theorem RowO.lt {w : World} (h : RowO B t n w (.slice (some ⟨g, 0, none⟩) len cap) xs) : g < w.heap.size := by
  rcases h.2.2 with ⟨h0, _⟩ | ⟨k, cp, cur, e, hb, hg, r⟩
  · cases h0
  · have hk : k = g := by
      injection e with e1 _ _
      injection e1 with e1
      injection e1 with e1
      exact e1.symm
    subst hk
    exact lt_of_heap hg
theorem VarV.lt {w : World} (h : VarV B t w g ds) : g < w.heap.size := lt_of_heap h.2
end keeps
section rules
variable {P : Program} {w0 : World} {D Z : TypeId → Bool} {Post : Ending → World → Prop} {F : World → Prop} {E : Env} {k : Tr} {L : LC}
end rules
end Cin

namespace Cin
open Go Go.RowKit
def RowR (n : Nat) (w : World) (v : Value) (xs : List (List Value)) : Prop :=
  (∀ x ∈ xs, x.length = n) ∧ ((∃ ad cap, v = .slice ad 0 cap ∧ (ad = none → cap = 0) ∧ xs = []) ∨ ∃ b o cap, v = .slice (some ⟨b, o, none⟩) xs.length cap ∧ b < w.heap.size ∧ xs.length ≤ maxLen ∧ ∀ i x, xs[i]? = some x → w.rangeAt b (o + i * n) x)
section
variable {n : Nat} {w w' : World} {v : Value} {xs : List (List Value)}
theorem RowR.below (h : RowR n w v xs) (hb : Below w.heap.size w w') : RowR n w' v xs := by
  refine ⟨h.1, ?_⟩
  rcases h.2 with h' | ⟨b, o, cap, e, hs, hm, hr⟩
  · exact .inl h'
  · exact .inr ⟨b, o, cap, e, Nat.lt_of_lt_of_le hs hb.size, hm, fun i x hx j y hy => by
      rw [hb.cell (p := ⟨b, o + i * n + j, none⟩) hs]; exact hr i x hx j y hy⟩
theorem RowR.nil (ad : Option Addr) (cap : Nat) (hc : ad = none → cap = 0) : RowR n w (.slice ad 0 cap) [] := ⟨fun _ h => (by cases h), .inl ⟨ad, cap, rfl, hc, rfl⟩⟩
theorem RowR.shape (h : RowR n w v xs) : ∃ ad cap, v = .slice ad xs.length cap ∧ xs.length ≤ maxLen ∧ (xs ≠ [] → ∃ b o, ad = some ⟨b, o, none⟩ ∧ ∀ i x, xs[i]? = some x → w.rangeAt b (o + i * n) x) := by
  rcases h.2 with ⟨ad, cap, e, _, h0⟩ | ⟨b, o, cap, e, hs, hm, hr⟩
  · subst h0; exact ⟨ad, cap, e, Nat.zero_le _, fun h => absurd rfl h⟩
  · exact ⟨_, cap, e, hm, fun _ => ⟨b, o, rfl, hr⟩⟩
theorem RowR.len {ad : Option Addr} {len cap : Nat} (h : RowR n w (.slice ad len cap) xs) : len = xs.length := by
  obtain ⟨_, _, e, _⟩ := h.shape
  injection e
theorem RowR.at {b o len cap i : Nat} {x : List Value} (h : RowR n w (.slice (some ⟨b, o, none⟩) len cap) xs) (hx : xs[i]? = some x) : w.rangeAt b (o + i * n) x := by
  obtain ⟨ad, c, e, _, hr⟩ := h.shape
  obtain ⟨b', o', e2, hr⟩ := hr (fun e0 => by rw [e0] at hx; simp at hx)
  injection e with e1 _ _
  rw [e2] at e1
  injection e1 with e1
  injection e1 with e3 e4
  subst e3 e4
  exact hr i x hx
end
section prims
variable {P : Program} {T e ty : TypeId} {vs : List Value} {p q : Operand} {κ : IntKind} {i : Int}
theorem prIdxR {b o len cap n : Nat} {ie : TypeInfo} (hu : P.underlying T = some (.slice e)) (hi : P.info? e = some ie) (hn : ie.size = n) (hp : pe vs p = .slice (some ⟨b, o, none⟩) len cap) (hq : pe vs q = .int κ i) (h0 : 0 ≤ i) (h1 : i < len) :
    PrimOk P (.indexAddr T p q) ty vs (.pointer (some ⟨b, o + i.toNat * n, none⟩)) := fun w => by
  simp only [execOp, hp, hq]
  simp [Instr.indexAt, asIntOf, run_underlying hu, h0, h1, Go.sizeOf, typeInfo, hi, hn, Addr.add_mid]
end prims
end Cin
