/- Blocks that are held over calls; whole numbers with a sign, and how great they are. No program. -/
import Derived.Test.YtpmnakjllkidiaaGreatDoorYf
import Derived.Test.YtpmnakjllkidiaaGreatDoorYa
import Derived.Deep.RegionHeld3
namespace Cin
open Go Go.RowKit
def Held (w : World) : List (Nat × Array Value × TypeId) → Prop
  | [] => True
  | (b, c, t) :: L => w.heap[b]? = some (.cells c t (0, 0)) ∧ Held w L
theorem Held.below {w w' : World} : ∀ {L : List (Nat × Array Value × TypeId)}, Held w L → Below w.heap.size w w' → Held w' L
  | [], _, _ => trivial
  | (_, _, _) :: _, h, hb => ⟨(hb.block _ (lt_of_heap h.1)).trans h.1, Held.below h.2 hb⟩
theorem Held.drew {w : World} {L : List (Nat × Array Value × TypeId)} (h : Held w L) : Held w.drew L := h.below (Below.refl _ _).drew
theorem Held.new {w : World} {L : List (Nat × Array Value × TypeId)} (h : Held w L) (c : Array Value) (t : TypeId) : Held (w.alloc (.cells c t)) ((w.heap.size, c, t) :: L) :=
  ⟨new_block _ _, h.below (bel_alloc _ _)⟩
section
variable {w : World} {c0 c1 c2 c3 c4 : Array Value} {t0 t1 t2 t3 t4 : TypeId}
theorem heldN1 : Held (w.alloc (.cells c0 t0)) [(w.heap.size, c0, t0)] := ⟨new_block _ _, trivial⟩
theorem heldN2 : Held ((w.alloc (.cells c0 t0)).alloc (.cells c1 t1)) [(w.heap.size, c0, t0), (w.heap.size + 1, c1, t1)] := ⟨new_block2 _ _ _, nb21 _ _ _, trivial⟩
theorem heldN3 : Held (((w.alloc (.cells c0 t0)).alloc (.cells c1 t1)).alloc (.cells c2 t2)) [(w.heap.size, c0, t0), (w.heap.size + 1, c1, t1), (w.heap.size + 1 + 1, c2, t2)] := ⟨new_block3 _ _ _ _, nb31 _ _ _ _, nb32 _ _ _ _, trivial⟩
theorem heldN4 : Held ((((w.alloc (.cells c0 t0)).alloc (.cells c1 t1)).alloc (.cells c2 t2)).alloc (.cells c3 t3)) [(w.heap.size, c0, t0), (w.heap.size + 1, c1, t1), (w.heap.size + 1 + 1, c2, t2), (w.heap.size + 1 + 1 + 1, c3, t3)] := ⟨nb40 _ _ _ _ _, nb41 _ _ _ _ _, nb42 _ _ _ _ _, nb43 _ _ _ _ _, trivial⟩
end
theorem cell_drew (w : World) (a : Addr) : w.drew.cell? a = w.cell? a := rfl
theorem frozen_drew (w : World) (a : Addr) : w.drew.frozen? a = w.frozen? a := rfl
theorem cell_lt {w : World} {b o : Nat} {x : Value} (h : w.cell? ⟨b, o, none⟩ = some x) : b < w.heap.size := by
  rcases Nat.lt_or_ge b w.heap.size with h' | h'
  · exact h'
  · simp [World.cell?, Array.getElem?_eq_none h'] at h
theorem cell_below {w w' : World} {b o : Nat} {x : Value} (h : w.cell? ⟨b, o, none⟩ = some x) (hb : Below w.heap.size w w') : w'.cell? ⟨b, o, none⟩ = some x := by rw [hb.cell (cell_lt h)]; exact h
theorem cell_set {w : World} {b o b' o' : Nat} {x u : Value} (h : w.cell? ⟨b, o, none⟩ = some x) (hb : b ≠ b') : (w.setCell ⟨b', o', none⟩ u).cell? ⟨b, o, none⟩ = some x := by
  rw [World.cell?_setCell_other _ _ _ _ (by intro e; injection e with e1; exact hb e1.symm)]; exact h
theorem below_drew {B : Nat} {w X : World} : Below B w X.drew ↔ Below B w X := ⟨fun h => ⟨h.os, h.tape, h.output, h.size, h.block⟩, fun h => h.drew⟩
theorem bel_set1 {B : Nat} {w X : World} {b o : Nat} {u : Value} (h : Below B w X) (hb : B ≤ b) : Below B w (X.setCell ⟨b, o, none⟩ u) := h.setCell (p := ⟨b, o, none⟩) hb u
theorem bel_set2 {B : Nat} {w X : World} {b o b' o' : Nat} {u u' : Value} (h : Below B w X) (hb : B ≤ b) (hb' : B ≤ b') : Below B w ((X.setCell ⟨b, o, none⟩ u).setCell ⟨b', o', none⟩ u') := bel_set1 (bel_set1 h hb) hb'
theorem cell0 {w : World} {b : Nat} {x : Value} {l : List Value} {t : TypeId} (h : w.heap[b]? = some (.cells (x :: l).toArray t (0, 0))) : w.cell? ⟨b, 0, none⟩ = some x := by rw [cell_of h]; simp
theorem cell1 {w : World} {b : Nat} {x y : Value} {l : List Value} {t : TypeId} (h : w.heap[b]? = some (.cells (x :: y :: l).toArray t (0, 0))) : w.cell? ⟨b, 1, none⟩ = some y := by rw [cell_of h]; simp
def Slot (w : World) (b : Nat) (t : TypeId) (n : Nat) : Prop := ∃ c : Array Value, c.size = n ∧ w.heap[b]? = some (.cells c t (0, 0))
section
variable {w w' : World} {b n : Nat} {t : TypeId}
theorem Slot.of {c : Array Value} (h : w.heap[b]? = some (.cells c t (0, 0))) (hn : c.size = n) : Slot w b t n := ⟨c, hn, h⟩
theorem Slot.lt (h : Slot w b t n) : b < w.heap.size := let ⟨_, _, h⟩ := h; lt_of_heap h
theorem Slot.below (h : Slot w b t n) (hb : Below w.heap.size w w') : Slot w' b t n := let ⟨c, hn, h⟩ := h; ⟨c, hn, (hb.block _ (lt_of_heap h)).trans h⟩
theorem Slot.drew (h : Slot w b t n) : Slot w.drew b t n := h
theorem slot_drew : Slot w.drew b t n ↔ Slot w b t n := Iff.rfl
theorem Slot.set (h : Slot w b t n) (b' o : Nat) (u : Value) : Slot (w.setCell ⟨b', o, none⟩ u) b t n := by
  obtain ⟨c, hn, h⟩ := h
  by_cases hb : b' = b
  · subst hb
    have : (w.setCell ⟨b', o, none⟩ u).heap[b']? = some (.cells (c.setIfInBounds o u) t (0, 0)) := by simp [World.setCell, Array.getElem?_modify, h]
    exact ⟨_, by simpa using hn, this⟩
  · exact ⟨c, hn, by rw [Below.heap_setCell _ _ _ _ (show b ≠ b' from Ne.symm hb)]; exact h⟩
theorem Slot.one (h : Slot w b t 1) : ∃ x, w.cell? ⟨b, 0, none⟩ = some x ∧ w.frozen? ⟨b, 0, none⟩ = false := by
  obtain ⟨c, hn, h⟩ := h
  exact ⟨c[0]'(by omega), by rw [cell_of h, Array.getElem?_eq_getElem (by omega)], free_of h 0⟩
theorem Slot.two (h : Slot w b t 2) : ∃ x y, w.cell? ⟨b, 0, none⟩ = some x ∧ w.cell? ⟨b, 1, none⟩ = some y ∧ w.frozen? ⟨b, 0, none⟩ = false ∧ w.frozen? ⟨b, 1, none⟩ = false := by
  obtain ⟨c, hn, h⟩ := h
  exact ⟨c[0]'(by omega), c[1]'(by omega), by rw [cell_of h, Array.getElem?_eq_getElem (by omega)], by rw [cell_of h, Array.getElem?_eq_getElem (by omega)], free_of h 0, free_of h 1⟩
theorem Slot.set2 (h : Slot w b t 2) (u u' : Value) : ((w.setCell ⟨b, 0, none⟩ u).setCell ⟨b, 1, none⟩ u').cell? ⟨b, 0, none⟩ = some u ∧ ((w.setCell ⟨b, 0, none⟩ u).setCell ⟨b, 1, none⟩ u').cell? ⟨b, 1, none⟩ = some u' := by
  obtain ⟨x, y, hx, hy, _⟩ := h.two
  refine ⟨?_, ?_⟩
  · rw [World.cell?_setCell_other _ _ _ _ (by intro e; injection e with _ e2; cases e2)]; exact World.cell?_setCell_same _ _ _ hx
  · refine World.cell?_setCell_same _ _ _ (u := y) ?_
    rw [World.cell?_setCell_other _ _ _ _ (by intro e; injection e with _ e2; cases e2)]; exact hy
theorem Slot.set1 (h : Slot w b t 1) (u : Value) : (w.setCell ⟨b, 0, none⟩ u).cell? ⟨b, 0, none⟩ = some u := by
  obtain ⟨x, hx, _⟩ := h.one
  exact World.cell?_setCell_same _ _ _ hx
theorem RefV.slot {tt : TypeId} {v : Value} {m : Nat} (h : RefV tt w v m) (hs : Slot w b t n) (ht : t ≠ tt) (o : Nat) (u : Value) : RefV tt (w.setCell ⟨b, o, none⟩ u) v m :=
  let ⟨_, _, hk⟩ := hs; h.setOther (a := ⟨b, o, none⟩) hk ht u
end
def NatB (t : TypeId) (w : World) (v : Value) (n k : Nat) : Prop := NatV t w v n ∧ n < pw k
def IntV (t : TypeId) (w : World) (v : Value) (z : Int) : Prop := ∃ s, v = .agg #[.bool (decide (z < 0)), s] ∧ RefV t w s z.natAbs
def IntB (t : TypeId) (w : World) (v : Value) (z : Int) (k : Nat) : Prop := IntV t w v z ∧ z.natAbs < pw k
section
variable {t : TypeId} {w w' : World} {v : Value} {n k : Nat} {z : Int}
theorem NatB.below (h : NatB t w v n k) (hb : Below w.heap.size w w') : NatB t w' v n k := ⟨h.1.below hb, h.2⟩
theorem IntV.below (h : IntV t w v z) (hb : Below w.heap.size w w') : IntV t w' v z := let ⟨s, e, r⟩ := h; ⟨s, e, r.below hb⟩
theorem IntB.below (h : IntB t w v z k) (hb : Below w.heap.size w w') : IntB t w' v z k := ⟨h.1.below hb, h.2⟩
theorem NatB.mono {j : Nat} (h : NatB t w v n k) (hj : k ≤ j) : NatB t w v n j := ⟨h.1, lt_pw_mono h.2 hj⟩
theorem IntB.mono {j : Nat} (h : IntB t w v z k) (hj : k ≤ j) : IntB t w v z j := ⟨h.1, lt_pw_mono h.2 hj⟩
theorem IntV.shape (h : IntV t w v z) : ∃ ad len cap, v = .agg #[.bool (decide (z < 0)), .slice ad len cap] ∧ RefV t w (.slice ad len cap) z.natAbs := by
  obtain ⟨s, rfl, hr⟩ := h
  obtain ⟨ad, len, cap, xs, rfl, _⟩ := hr.shape
  exact ⟨ad, len, cap, rfl, hr⟩
theorem IntB.shape (h : IntB t w v z k) : ∃ ad len cap, v = .agg #[.bool (decide (z < 0)), .slice ad len cap] ∧ RefV t w (.slice ad len cap) z.natAbs := h.1.shape
theorem IntB.shape2 (h : IntB t w v z k) : ∃ bb ad len cap, v = .agg #[.bool bb, .slice ad len cap] ∧ Hid (bb = decide (z < 0)) :=
  let ⟨ad, len, cap, e, _⟩ := h.shape; ⟨_, ad, len, cap, e, Lib.hid rfl⟩
theorem NatB.shape (h : NatB t w v n k) : ∃ ad len cap, v = .agg #[.slice ad len cap] ∧ RefV t w (.slice ad len cap) n := h.1.shape
theorem IntV.zero (t : TypeId) (w : World) : IntV t w (.agg #[.bool false, .slice none 0 0]) 0 := ⟨_, rfl, RefV.zero _ _⟩
theorem IntB.zero (t : TypeId) (w : World) (k : Nat) : IntB t w (.agg #[.bool false, .slice none 0 0]) 0 k := ⟨IntV.zero _ _, pw_pos k⟩
theorem IntB.setOther (h : IntB t w v z k) {t' : TypeId} {a : Addr} {c : Array Value} {f : Nat × Nat} (hb : w.heap[a.block]? = some (.cells c t' f)) (ht : t' ≠ t) (u : Value) : IntB t (w.setCell a u) v z k :=
  let ⟨⟨s, e, r⟩, hk⟩ := h; ⟨⟨s, e, r.setOther hb ht u⟩, hk⟩
theorem IntB.part {ad : Option Addr} {len cap : Nat} {b : Bool} (h : IntB t w (.agg #[.bool b, .slice ad len cap]) z k) : NatB t w (.agg #[.slice ad len cap]) z.natAbs k ∧ b = decide (z < 0) := by
  obtain ⟨⟨s, e, r⟩, hk⟩ := h
  injection e with e
  injection e with e
  simp only [List.cons.injEq, Value.bool.injEq, and_true] at e
  obtain ⟨rfl, rfl⟩ := e
  exact ⟨⟨⟨_, rfl, r⟩, hk⟩, rfl⟩
end
def sg (b : Bool) (n : Nat) : Int := if b then -(n : Int) else n
theorem sg_natAbs (b : Bool) (n : Nat) : (sg b n).natAbs = n := by unfold sg; split <;> simp
theorem sg_neg (b : Bool) (n : Nat) : decide (sg b n < 0) = (b && !decide (n = 0)) := by
  unfold sg
  cases b
  · simp
  · by_cases h : n = 0
    · simp [h]
    · simp [h]; omega
theorem sg_of (z : Int) : sg (decide (z < 0)) z.natAbs = z := by unfold sg; split <;> rename_i h <;> simp at h <;> omega
theorem intB_of {t : TypeId} {w : World} {s : Value} {b bb : Bool} {n k : Nat} (h : RefV t w s n) (hk : n < pw k) (e : bb = (b && !decide (n = 0))) : IntB t w (.agg #[.bool bb, s]) (sg b n) k :=
  ⟨⟨s, by rw [sg_neg, e], by rw [sg_natAbs]; exact h⟩, by rw [sg_natAbs]; exact hk⟩
def cmpZ (x y : Int) : Int := if x < y then -1 else if y < x then 1 else 0
def sgnZ (x : Int) : Int := if x < 0 then -1 else if 0 < x then 1 else 0
theorem pw_big (a b : Nat) : pw a + pw b ≤ pw (a + b + 1) := by
  have h1 := pw_le (a := a) (b := a + b) (by omega)
  have h2 := pw_le (a := b) (b := a + b) (by omega)
  rw [pw_succ]; omega
theorem mul_bound {x y : Int} {a b : Nat} (hx : x.natAbs < pw a) (hy : y.natAbs < pw b) : (x * y).natAbs < pw (a + b) := by
  rw [Int.natAbs_mul, pw_add]; exact Nat.mul_lt_mul'' hx hy
theorem fin_int {t ti : TypeId} {w0 w1 : World} {b k : Nat} {bb : Bool} {s : Value} {z : Int} (hI : IntB t w1 (.agg #[.bool bb, s]) z k) (hs : Slot w1 b ti 2) (ht : ti ≠ t) (hB : Below w0.heap.size w0 w1) (hb : w0.heap.size ≤ b) :
    IntB t ((w1.setCell ⟨b, 0, none⟩ (.bool bb)).setCell ⟨b, 1, none⟩ s) (.agg #[.bool bb, s]) z k ∧ Below w0.heap.size w0 ((w1.setCell ⟨b, 0, none⟩ (.bool bb)).setCell ⟨b, 1, none⟩ s) ∧
      ((w1.setCell ⟨b, 0, none⟩ (.bool bb)).setCell ⟨b, 1, none⟩ s).cell? ⟨b, 0, none⟩ = some (.bool bb) ∧ ((w1.setCell ⟨b, 0, none⟩ (.bool bb)).setCell ⟨b, 1, none⟩ s).cell? ⟨b, 1, none⟩ = some s := by
  obtain ⟨⟨s', e, r⟩, hk⟩ := hI
  injection e with e
  injection e with e
  simp only [List.cons.injEq, Value.bool.injEq, and_true] at e
  obtain ⟨rfl, rfl⟩ := e
  exact ⟨⟨⟨_, rfl, (r.slot hs ht 0 _).slot (hs.set b 0 _) ht 1 _⟩, hk⟩, bel_set2 hB hb hb, hs.set2 _ _⟩
theorem IntB.slot {t tt : TypeId} {w : World} {v : Value} {z : Int} {k b n : Nat} (h : IntB tt w v z k) (hs : Slot w b t n) (ht : t ≠ tt) (o : Nat) (u : Value) : IntB tt (w.setCell ⟨b, o, none⟩ u) v z k :=
  let ⟨_, _, hk⟩ := hs; h.setOther (a := ⟨b, o, none⟩) hk ht u
theorem fin_int2 {t t1 t2 : TypeId} {w0 w1 : World} {b c k j : Nat} {bb cc : Bool} {s r : Value} {z y : Int} (hI : IntB t w1 (.agg #[.bool bb, s]) z k) (hJ : IntB t w1 (.agg #[.bool cc, r]) y j) (hs : Slot w1 b t1 2) (hr : Slot w1 c t2 2) (h1 : t1 ≠ t) (h2 : t2 ≠ t)
    (hB : Below w0.heap.size w0 w1) (hb : w0.heap.size ≤ b) (hc : w0.heap.size ≤ c) (hne : b ≠ c) {W : World} (hW : W = (((w1.setCell ⟨b, 0, none⟩ (.bool bb)).setCell ⟨b, 1, none⟩ s).setCell ⟨c, 0, none⟩ (.bool cc)).setCell ⟨c, 1, none⟩ r) :
    IntB t W (.agg #[.bool bb, s]) z k ∧ IntB t W (.agg #[.bool cc, r]) y j ∧ Below w0.heap.size w0 W ∧
      W.cell? ⟨b, 0, none⟩ = some (.bool bb) ∧ W.cell? ⟨b, 1, none⟩ = some s ∧ W.cell? ⟨c, 0, none⟩ = some (.bool cc) ∧ W.cell? ⟨c, 1, none⟩ = some r := by
  subst hW
  have hr2 := (hr.set b 0 (.bool bb)).set b 1 s
  have e := hs.set2 (.bool bb) s
  have e2 := hr2.set2 (.bool cc) r
  refine ⟨(((hI.slot hs h1 0 _).slot (hs.set b 0 _) h1 1 _).slot hr2 h2 0 _).slot (hr2.set c 0 _) h2 1 _, (((hJ.slot hs h1 0 _).slot (hs.set b 0 _) h1 1 _).slot hr2 h2 0 _).slot (hr2.set c 0 _) h2 1 _, bel_set2 (bel_set2 hB hb hb) hc hc, ?_, ?_, e2.1, e2.2⟩
  · exact cell_set (cell_set e.1 hne) hne
  · exact cell_set (cell_set e.2 hne) hne
theorem NatB.slot {t tt : TypeId} {w : World} {v : Value} {m k b n : Nat} (h : NatB tt w v m k) (hs : Slot w b t n) (ht : t ≠ tt) (o : Nat) (u : Value) : NatB tt (w.setCell ⟨b, o, none⟩ u) v m k :=
  let ⟨_, _, hk⟩ := hs; ⟨h.1.setOther (a := ⟨b, o, none⟩) hk ht u, h.2⟩
theorem fin_nat2 {t t1 t2 : TypeId} {w0 w1 : World} {b c k j m n : Nat} {s r : Value} (hI : NatB t w1 (.agg #[s]) m k) (hJ : NatB t w1 (.agg #[r]) n j) (hs : Slot w1 b t1 1) (hr : Slot w1 c t2 1) (h1 : t1 ≠ t) (h2 : t2 ≠ t)
    (hB : Below w0.heap.size w0 w1) (hb : w0.heap.size ≤ b) (hc : w0.heap.size ≤ c) (hne : b ≠ c) {W : World} (hW : W = (w1.setCell ⟨b, 0, none⟩ s).setCell ⟨c, 0, none⟩ r) :
    NatB t W (.agg #[s]) m k ∧ NatB t W (.agg #[r]) n j ∧ Below w0.heap.size w0 W ∧ W.cell? ⟨b, 0, none⟩ = some s ∧ W.cell? ⟨c, 0, none⟩ = some r := by
  subst hW
  have hr2 := hr.set b 0 s
  exact ⟨(hI.slot hs h1 0 _).slot hr2 h2 0 _, (hJ.slot hs h1 0 _).slot hr2 h2 0 _, bel_set2 hB hb hc, cell_set (hs.set1 s) hne, hr2.set1 r⟩
theorem NatB.shape2 {t : TypeId} {w : World} {v : Value} {n k : Nat} (h : NatB t w v n k) : ∃ ad len cap, v = .agg #[.slice ad len cap] := let ⟨ad, len, cap, e, _⟩ := h.shape; ⟨ad, len, cap, e⟩
end Cin

namespace Cin
open Go Go.RowKit
def Mono (D : TypeId → Bool) (F : World → Prop) : Prop := ∀ u w, Ext D u w → F u → F w
section mono
variable {D : TypeId → Bool} {F G : World → Prop} {t : TypeId} {u w : World}
theorem Mono.and (h : Mono D F) (h' : Mono D G) : Mono D fun w => F w ∧ G w := fun u w e ⟨a, b⟩ => ⟨h u w e a, h' u w e b⟩
theorem Mono.true : Mono D fun _ => True := fun _ _ _ _ => trivial
theorem Sl.ext {k : IntKind} {v : Value} {xs : List Nat} (h : Sl t k u v xs) (e : Ext D u w) (ht : D t = true) : Sl t k w v xs := by
  rcases h with ⟨rfl, rfl⟩ | ⟨b, off, cap, cur, rfl, hB, r⟩
  · exact .inl ⟨rfl, rfl⟩
  · exact .inr ⟨b, off, cap, cur, rfl, e.block b _ _ _ hB ht, r⟩
theorem RefV.ext {v : Value} {n : Nat} (h : RefV t u v n) (e : Ext D u w) (ht : D t = true) : RefV t w v n := let ⟨xs, h1, h2⟩ := h; ⟨xs, h1.ext e ht, h2⟩
theorem NatB.ext {v : Value} {n k : Nat} (h : NatB t u v n k) (e : Ext D u w) (ht : D t = true) : NatB t w v n k := let ⟨⟨s, h1, h2⟩, hk⟩ := h; ⟨⟨s, h1, h2.ext e ht⟩, hk⟩
theorem IntB.ext {v : Value} {z : Int} {k : Nat} (h : IntB t u v z k) (e : Ext D u w) (ht : D t = true) : IntB t w v z k := let ⟨⟨s, h1, h2⟩, hk⟩ := h; ⟨⟨s, h1, h2.ext e ht⟩, hk⟩
theorem monoNat (ht : D t = true) (v : Value) (n k : Nat) : Mono D fun w => NatB t w v n k := fun _ _ e h => h.ext e ht
theorem monoInt (ht : D t = true) (v : Value) (z : Int) (k : Nat) : Mono D fun w => IntB t w v z k := fun _ _ e h => h.ext e ht
theorem monoRef (ht : D t = true) (v : Value) (n k : Nat) : Mono D fun w => RefV t w v n ∧ n < pw k := fun _ _ e h => ⟨h.1.ext e ht, h.2⟩
end mono
def Wk (P : Program) (w0 : World) (D Z : TypeId → Bool) (Post : Ending → World → Prop) (L : LC) (F : World → Prop) (tr : Tr) (E : Env) : Prop :=
  Mono D F → ∀ u : Gh, F u.w → interp P w0 D Z Post tr L E u
section rules
variable {P : Program} {w0 : World} {D Z : TypeId → Bool} {Post : Ending → World → Prop} {F : World → Prop} {E : Env} {k : Tr} {L : LC}
theorem wRet {x : SV} (h : ∀ w, Below w0.heap.size w0 w → F w → Post (.returned (x.den [] E)) w) : Wk P w0 D Z Post L F (.ret x) E :=
  fun hm u hF w e b => h w b (hm u.w w e.ext hF)
theorem wIf {c : A} {x y : Tr} (b : Bool) (hc : c.den [] E = .bool b) (h1 : b = true → Wk P w0 D Z Post L F x E) (h2 : b = false → Wk P w0 D Z Post L F y E) : Wk P w0 D Z Post L F (.cond c x y) E :=
  fun hm u hF => ⟨b, hc, fun e => h1 e hm u hF, fun e => h2 e hm u hF⟩
theorem wTrue {c : A} {x y : Tr} (hc : c.den [] E = .bool true) (h1 : Wk P w0 D Z Post L F x E) : Wk P w0 D Z Post L F (.cond c x y) E := wIf true hc (fun _ => h1) (fun h => by cases h)
theorem wFalse {c : A} {x y : Tr} (hc : c.den [] E = .bool false) (h1 : Wk P w0 D Z Post L F y E) : Wk P w0 D Z Post L F (.cond c x y) E := wIf false hc (fun h => by cases h) (fun _ => h1)
theorem wPr {op : Op} {ty : TypeId} {ar : List V1} {v : Value} (h : PrimOk P op ty (ar.map (V1.den [] E)) v) (hv : v.oneCell' = true) {E' : Env} (hk : Wk P w0 D Z Post L F k E') (hE : E ++ [[v]] = E' := by intros; (simp only [List.cons_append, List.nil_append]) <;> exact rfl) : Wk P w0 D Z Post L F (.em (.pr op ty ar) k) E :=
  fun hm u hF => ⟨v, h, hv, hE ▸ hk hm u hF⟩
theorem wMono {G : World → Prop} (hG : Mono D G) (h : ∀ w, F w → G w) {tr : Tr} (hk : Wk P w0 D Z Post L G tr E) : Wk P w0 D Z Post L F tr E := fun _ u hF => hk hG u (h u.w hF)
theorem wCall {f : FuncId} {ar : List V1} {sh : List (Option Nat)} {args : Array Value} (G : List Value → World → Prop) (hG : ∀ cs, Mono D (G cs))
    (hc : ∀ w, Below w0.heap.size w0 w → F w → Calls P f args w fun e w' => ∃ cs : List Value, e = .returned ((mkSV sh 0).den [] [cs]) ∧ cs.all Value.oneCell' = true ∧ G cs w' ∧ Below w.heap.size w w')
    {E' : List Value → Env} (hk : ∀ cs, Wk P w0 D Z Post L (fun w => G cs w ∧ F w) k (E' cs)) (ha : (ar.map (V1.den [] E)).toArray = args := by rfl) (hE : ∀ cs, E ++ [cs] = E' cs := by intros; (simp only [List.cons_append, List.nil_append]) <;> exact rfl) : Wk P w0 D Z Post L F (.em (.call f ar sh) k) E := by
  intro hm u hF w e b
  subst ha
  refine (hc w b (hm u.w w e.ext hF)).mono ?_
  rintro e1 w' ⟨cs, h1, h2, h3, h4⟩
  exact ⟨cs, h1, h2, h4, hE cs ▸ hk cs ((hG cs).and hm) (u.more w w') ⟨h3, hm u.w w' (e.below h4).ext hF⟩⟩
theorem wVal {f : FuncId} {ar : List V1} {args : Array Value} {v : Value}
    (hc : ∀ w, Below w0.heap.size w0 w → F w → Calls P f args w fun e w' => e = .returned v ∧ Below w.heap.size w w') (hv : v.oneCell' = true)
    {E' : Env} (hk : Wk P w0 D Z Post L F k E') (ha : (ar.map (V1.den [] E)).toArray = args := by rfl) (hE : E ++ [[v]] = E' := by intros; (simp only [List.cons_append, List.nil_append]) <;> exact rfl) : Wk P w0 D Z Post L F (.em (.call f ar [none]) k) E := by
  intro hm u hF w e b
  subst ha
  refine (hc w b (hm u.w w e.ext hF)).mono ?_
  rintro e1 w' ⟨rfl, h4⟩
  exact ⟨[v], rfl, by simp [hv], h4, hE ▸ hk hm (u.more w w') (hm u.w w' (e.below h4).ext hF)⟩
theorem wInt {t : TypeId} (ht : D t = true) {f : FuncId} {ar : List V1} {args : Array Value} {z : Int} {m : Nat}
    (hc : ∀ w, Below w0.heap.size w0 w → F w → Calls P f args w fun e w' => ∃ v, e = .returned v ∧ IntB t w' v z m ∧ Below w.heap.size w w')
    {E' : Value → Value → Env} (hk : ∀ x y, Wk P w0 D Z Post L (fun w => IntB t w (.agg #[x, y]) z m ∧ F w) k (E' x y)) (ha : (ar.map (V1.den [] E)).toArray = args := by rfl) (hE : ∀ x y, E ++ [[x, y]] = E' x y := by intros; (simp only [List.cons_append, List.nil_append]) <;> exact rfl) : Wk P w0 D Z Post L F (.em (.call f ar [some 2]) k) E := by
  intro hm u hF w e b
  subst ha
  refine (hc w b (hm u.w w e.ext hF)).mono ?_
  rintro e1 w' ⟨v, rfl, hv, h4⟩
  obtain ⟨bb, ad, len, cap, rfl, _⟩ := hv.shape2
  exact ⟨[.bool bb, .slice ad len cap], rfl, rfl, h4, hE _ _ ▸ hk _ _ ((monoInt ht _ _ _).and hm) (u.more w w') ⟨hv, hm u.w w' (e.below h4).ext hF⟩⟩
theorem wNat {t : TypeId} (ht : D t = true) {f : FuncId} {ar : List V1} {args : Array Value} {n m : Nat}
    (hc : ∀ w, Below w0.heap.size w0 w → F w → Calls P f args w fun e w' => ∃ v, e = .returned v ∧ NatB t w' v n m ∧ Below w.heap.size w w')
    {E' : Value → Env} (hk : ∀ x, Wk P w0 D Z Post L (fun w => NatB t w (.agg #[x]) n m ∧ F w) k (E' x)) (ha : (ar.map (V1.den [] E)).toArray = args := by rfl) (hE : ∀ x, E ++ [[x]] = E' x := by intros; (simp only [List.cons_append, List.nil_append]) <;> exact rfl) : Wk P w0 D Z Post L F (.em (.call f ar [some 1]) k) E := by
  intro hm u hF w e b
  subst ha
  refine (hc w b (hm u.w w e.ext hF)).mono ?_
  rintro e1 w' ⟨v, rfl, hv, h4⟩
  obtain ⟨ad, len, cap, rfl⟩ := hv.shape2
  exact ⟨[.slice ad len cap], rfl, rfl, h4, hE _ ▸ hk _ ((monoNat ht _ _ _).and hm) (u.more w w') ⟨hv, hm u.w w' (e.below h4).ext hF⟩⟩
theorem wRef {t : TypeId} (ht : D t = true) {f : FuncId} {ar : List V1} {args : Array Value} {n m : Nat}
    (hc : ∀ w, Below w0.heap.size w0 w → F w → Calls P f args w fun e w' => ∃ v, e = .returned v ∧ (RefV t w' v n ∧ n < pw m) ∧ Below w.heap.size w w')
    {E' : Value → Env} (hk : ∀ x, Wk P w0 D Z Post L (fun w => (RefV t w x n ∧ n < pw m) ∧ F w) k (E' x)) (ha : (ar.map (V1.den [] E)).toArray = args := by rfl) (hE : ∀ x, E ++ [[x]] = E' x := by intros; (simp only [List.cons_append, List.nil_append]) <;> exact rfl) : Wk P w0 D Z Post L F (.em (.call f ar [none]) k) E := by
  intro hm u hF w e b
  subst ha
  refine (hc w b (hm u.w w e.ext hF)).mono ?_
  rintro e1 w' ⟨v, rfl, hv, h4⟩
  obtain ⟨ad, len, cap, _, rfl, _⟩ := hv.1.shape
  exact ⟨[.slice ad len cap], rfl, rfl, h4, hE _ ▸ hk _ ((monoRef ht _ _ _).and hm) (u.more w w') ⟨hv, hm u.w w' (e.below h4).ext hF⟩⟩
theorem wKnown {f : FuncId} {ar : List V1} {sh : List (Option Nat)} {args : Array Value} {V : Value} (cs : List Value)
    (hc : ∀ w, Below w0.heap.size w0 w → F w → Calls P f args w fun e w' => e = .returned V ∧ Below w.heap.size w w') (hV : (mkSV sh 0).den [] [cs] = V) (hv : cs.all Value.oneCell' = true)
    {E' : Env} (hk : Wk P w0 D Z Post L F k E') (ha : (ar.map (V1.den [] E)).toArray = args := by rfl) (hE : E ++ [cs] = E' := by intros; (simp only [List.cons_append, List.nil_append]) <;> exact rfl) : Wk P w0 D Z Post L F (.em (.call f ar sh) k) E := by
  intro hm u hF w e b
  subst ha hV
  refine (hc w b (hm u.w w e.ext hF)).mono ?_
  rintro e1 w' ⟨rfl, h4⟩
  exact ⟨cs, rfl, hv, h4, hE ▸ hk hm (u.more w w') (hm u.w w' (e.below h4).ext hF)⟩
theorem wIntV {t : TypeId} (ht : D t = true) {f : FuncId} {ar : List V1} {args : Array Value} {z : Int} {m : Nat} {c : Value}
    (hc : ∀ w, Below w0.heap.size w0 w → F w → Calls P f args w fun e w' => ∃ v, e = .returned (.tuple #[v, c]) ∧ IntB t w' v z m ∧ Below w.heap.size w w') (hv : c.oneCell' = true)
    {E' : Value → Value → Env} (hk : ∀ x y, Wk P w0 D Z Post L (fun w => IntB t w (.agg #[x, y]) z m ∧ F w) k (E' x y)) (ha : (ar.map (V1.den [] E)).toArray = args := by rfl) (hE : ∀ x y, E ++ [[x, y, c]] = E' x y := by intros; (simp only [List.cons_append, List.nil_append]) <;> exact rfl) : Wk P w0 D Z Post L F (.em (.call f ar [some 2, none]) k) E := by
  intro hm u hF w e b
  subst ha
  refine (hc w b (hm u.w w e.ext hF)).mono ?_
  rintro e1 w' ⟨v, rfl, h1, h4⟩
  obtain ⟨bb, ad, len, cap, rfl, _⟩ := h1.shape2
  exact ⟨[.bool bb, .slice ad len cap, c], rfl, by simp only [List.all_cons, List.all_nil, hv, Bool.and_true]; rfl, h4, hE _ _ ▸ hk _ _ ((monoInt ht _ _ _).and hm) (u.more w w') ⟨h1, hm u.w w' (e.below h4).ext hF⟩⟩
theorem wRefV {t : TypeId} (ht : D t = true) {f : FuncId} {ar : List V1} {args : Array Value} {n m : Nat} {c : Value}
    (hc : ∀ w, Below w0.heap.size w0 w → F w → Calls P f args w fun e w' => ∃ v, e = .returned (.tuple #[v, c]) ∧ (RefV t w' v n ∧ n < pw m) ∧ Below w.heap.size w w') (hv : c.oneCell' = true)
    {E' : Value → Env} (hk : ∀ x, Wk P w0 D Z Post L (fun w => (RefV t w x n ∧ n < pw m) ∧ F w) k (E' x)) (ha : (ar.map (V1.den [] E)).toArray = args := by rfl) (hE : ∀ x, E ++ [[x, c]] = E' x := by intros; (simp only [List.cons_append, List.nil_append]) <;> exact rfl) : Wk P w0 D Z Post L F (.em (.call f ar [none, none]) k) E := by
  intro hm u hF w e b
  subst ha
  refine (hc w b (hm u.w w e.ext hF)).mono ?_
  rintro e1 w' ⟨v, rfl, h1, h4⟩
  obtain ⟨ad, len, cap, _, rfl, _⟩ := h1.1.shape
  exact ⟨[.slice ad len cap, c], rfl, by simp only [List.all_cons, List.all_nil, hv, Bool.and_true]; rfl, h4, hE _ ▸ hk _ ((monoRef ht _ _ _).and hm) (u.more w w') ⟨h1, hm u.w w' (e.below h4).ext hF⟩⟩
theorem mu_eq (I : List Value → Gh → Prop) (μ : List Value → Nat) {n : Nat} {cs : List Value} (hn : μ cs = n) : (fun cs' u => I cs' u ∧ μ cs' < μ cs) = fun cs' u => ∃ n', n' < n ∧ (I cs' u ∧ μ cs' = n') := by
  funext cs' u
  exact propext ⟨fun h => ⟨μ cs', by omega, h.1, rfl⟩, fun ⟨n', h1, h2, h3⟩ => ⟨h2, by omega⟩⟩
theorem wLoop {d : Nat} {init : List A} {body : Tr} (I : List Value → World → Prop) (hI : ∀ cs, Mono D (I cs)) (μ : List Value → Nat) (h0 : ∀ w, F w → I (init.map (A.den [] E)) w)
    {E' : List Value → Env} (hk : ∀ cs, cs.length = init.length → Wk P w0 D D Post (updL L d fun cs' u => I cs' u.w ∧ μ cs' < μ cs) (fun w => I cs w ∧ F w) body (E' cs)) (hE : ∀ cs, E ++ [cs] = E' cs := by intros; (simp only [List.cons_append, List.nil_append]) <;> exact rfl) :
    Wk P w0 D D Post L F (.loop d init body) E :=
  fun hm u hF => ⟨fun n cs u => I cs u.w ∧ μ cs = n, _, ⟨h0 u.w hF, rfl⟩, fun n cs u' hl _ he ⟨hi, hn⟩ => by
    rw [← mu_eq (fun cs u => I cs u.w) μ hn]; exact hE cs ▸ hk cs hl ((hI cs).and hm) u' ⟨hi, hm u.w u'.w he hF⟩⟩
theorem wBack {d : Nat} {vals : List A} (h : ∀ w : Gh, F w.w → L d (vals.map (A.den [] E)) w) : Wk P w0 D Z Post L F (.back d vals) E := fun _ u hF => h u hF
end rules
section prims
variable {P : Program} {t t2 ty : TypeId} {vs : List Value} {p q : Operand} {κ : IntKind} {x y : Int} {b c : Bool}
theorem prEq (hp : pe vs p = .int κ x) (hq : pe vs q = .int κ y) : PrimOk P (.binOp .eql t p q t2) ty vs (.bool (x == y)) := fun w => by
  simp only [execOp, hp, hq]
  simp [eqGuard, binOp, Op.intCmp]
theorem prNe (hp : pe vs p = .int κ x) (hq : pe vs q = .int κ y) : PrimOk P (.binOp .neq t p q t2) ty vs (.bool (x != y)) := fun w => by
  simp only [execOp, hp, hq]
  simp [eqGuard, binOp, Op.intCmp]
theorem prLt (hp : pe vs p = .int κ x) (hq : pe vs q = .int κ y) : PrimOk P (.binOp .lss t p q t2) ty vs (.bool (decide (x < y))) := fun w => by
  simp only [execOp, hp, hq]
  simp [eqGuard, binOp, Op.intCmp]
theorem prLe (hp : pe vs p = .int κ x) (hq : pe vs q = .int κ y) : PrimOk P (.binOp .leq t p q t2) ty vs (.bool (decide (x ≤ y))) := fun w => by
  simp only [execOp, hp, hq]
  simp [eqGuard, binOp, Op.intCmp]
theorem prGt (hp : pe vs p = .int κ x) (hq : pe vs q = .int κ y) : PrimOk P (.binOp .gtr t p q t2) ty vs (.bool (decide (y < x))) := fun w => by
  simp only [execOp, hp, hq]
  simp [eqGuard, binOp, Op.intCmp]
theorem prGe (hp : pe vs p = .int κ x) (hq : pe vs q = .int κ y) : PrimOk P (.binOp .geq t p q t2) ty vs (.bool (decide (y ≤ x))) := fun w => by
  simp only [execOp, hp, hq]
  simp [eqGuard, binOp, Op.intCmp]
theorem prAdd (hp : pe vs p = .int κ x) (hq : pe vs q = .int κ y) : PrimOk P (.binOp .add t p q t2) ty vs (.int κ (κ.wrap (x + y))) := fun w => by
  simp only [execOp, hp, hq]
  simp [eqGuard, binOp, Op.intArith]
theorem prNot (hp : pe vs p = .bool b) : PrimOk P (.unOp .not t p) ty vs (.bool (!b)) := fun w => by
  simp only [execOp, hp]
  simp [Op.unary]
theorem run_beq (hu : P.underlying t = some .bool) (w : World) : (Op.equal t (.bool b) (.bool c)).run P w = .ok (b == c) w := by
  show (Op.equalIn (9999 + 1) t (.bool b) (.bool c)).run P w = _
  rw [Op.equalIn]
  simp only [Sem.run_bind, run_underlying hu, Result.andThen_ok]
  rfl
theorem prBNe (hu : P.underlying t = some .bool) (hp : pe vs p = .bool b) (hq : pe vs q = .bool c) : PrimOk P (.binOp .neq t p q t2) ty vs (.bool (!(b == c))) := fun w => by
  simp only [execOp, hp, hq]
  have e : binOp .neq t (.bool b) (.bool c) = (do pure (.bool (!(← Op.equal t (.bool b) (.bool c))))) := rfl
  simp [eqGuard, e, run_beq hu]
theorem prLenS {s : ByteArray} {T : TypeId} (hu : P.underlying T = some .string) (hp : pe vs p = .string s) : PrimOk P (.call { callee := .builtin .len, args := #[p], argTypes := #[T] }) ty vs (.int .i64 s.size) := fun w => by
  simp [execOp, resolve, hp, invoke, builtin, Builtin.len_, goInt, run_underlying hu]
theorem prLen {ad : Option Addr} {n m : Nat} {T e : TypeId} (hu : P.underlying T = some (.slice e)) (hp : pe vs p = .slice ad n m) : PrimOk P (.call { callee := .builtin .len, args := #[p], argTypes := #[T] }) ty vs (.int .i64 n) := fun w => by
  simp [execOp, resolve, hp, invoke, builtin, Builtin.len_, goInt, run_underlying hu]
theorem prSEq {s r : ByteArray} (hp : pe vs p = .string s) (hq : pe vs q = .string r) : PrimOk P (.binOp .eql t p q t2) ty vs (.bool (s.toList == r.toList)) := fun w => by
  simp only [execOp, hp, hq]
  simp [eqGuard, binOp, Op.stringOp]
theorem prSAdd {s r : ByteArray} (hp : pe vs p = .string s) (hq : pe vs q = .string r) (h : s.size + r.size ≤ 1000000000000) : PrimOk P (.binOp .add t p q t2) ty vs (.string (s ++ r)) := fun w => by
  simp only [execOp, hp, hq]
  simp [eqGuard, binOp, Op.stringOp]
  omega
theorem prIdx {s : ByteArray} {T : TypeId} {m : Nat} {b : UInt8} (hu : P.underlying T = some .string) (hp : pe vs p = .string s) (hq : pe vs q = .int κ m) (hm : s.data.toList[m]? = some b) : PrimOk P (.index T p q) ty vs (.int .u8 b.toNat) := fun w => by
  have e : s[m]? = some b := by
    rw [Array.getElem?_toList] at hm
    obtain ⟨h1, h2⟩ := Array.getElem?_eq_some_iff.1 hm
    rw [getElem?_pos s m h1]
    exact congrArg some h2
  simp only [execOp, hp, hq]
  simp [Instr.index, asIntOf, run_underlying hu, e]
theorem prSlH {s : ByteArray} {T : TypeId} {i : Int} (hu : P.underlying T = some .string) (hp : pe vs p = .string s) (hq : pe vs q = .int κ i) (h0 : 0 ≤ i) (h1 : i ≤ s.size) : PrimOk P (.slice T p none (some q) none) ty vs (.string (s.extract 0 i.toNat)) := fun w => by
  simp only [execOp, hp, hq, Option.map_none, Option.map_some]
  simp [Instr.sliceAt, Instr.slice, Instr.sliceBounds, Instr.sliceBound, asIntOf, run_underlying hu, h0, h1]
theorem prSlL {s : ByteArray} {T : TypeId} {i : Int} (hu : P.underlying T = some .string) (hp : pe vs p = .string s) (hq : pe vs q = .int κ i) (h0 : 0 ≤ i) (h1 : i ≤ s.size) : PrimOk P (.slice T p (some q) none none) ty vs (.string (s.extract i.toNat s.size)) := fun w => by
  simp only [execOp, hp, hq, Option.map_none, Option.map_some]
  simp [Instr.sliceAt, Instr.slice, Instr.sliceBounds, Instr.sliceBound, asIntOf, run_underlying hu, h0, h1]
end prims
end Cin

namespace Cin
open Go Go.RowKit
theorem rat_of {q : Rat} {n : Int} {d : Nat} (hd : d ≠ 0) (hc : n.natAbs.Coprime d) (h : mkRat n d = q) : q.num = n ∧ q.den = d := by
  subst h
  rw [← Rat.mk_eq_mkRat n d hd hc]
  exact ⟨rfl, rfl⟩
theorem add_parts (x y : Rat) {g h : Nat} {b d : Nat} {s : Int} (hg : g = Nat.gcd x.den y.den) (hb : b = x.den / g) (hs : s = x.num * ((y.den / g : Nat) : Int) + y.num * (b : Int)) (hh : h = Nat.gcd s.natAbs g) (hd : d = y.den / h) :
    (x + y).num = s / (h : Int) ∧ (x + y).den = b * d := by
  subst hb hd
  have hgp : 0 < g := by rw [hg]; exact Nat.gcd_pos_of_pos_left _ x.den_pos
  have hgx : g ∣ x.den := by rw [hg]; exact Nat.gcd_dvd_left _ _
  have hgy : g ∣ y.den := by rw [hg]; exact Nat.gcd_dvd_right _ _
  have hhg : h ∣ g := by rw [hh]; exact Nat.gcd_dvd_right _ _
  have aux := Rat.add.aux x y hg rfl rfl
  simp only at aux
  rw [← hs, ← hh] at aux
  have hbp : x.den / g ≠ 0 := by have := Nat.div_pos (Nat.le_of_dvd x.den_pos hgx) hgp; omega
  have hne : x.den / g * y.den ≠ 0 := Nat.mul_ne_zero hbp y.den_nz
  have hn : x + y = Rat.normalize s (x.den / g * y.den) hne := by
    rw [Rat.add_def, ← Rat.normalize_mul_left (a := g) hne (by omega)]
    congr 1
    · rw [hs]
      obtain ⟨p, hp⟩ := hgx
      obtain ⟨r, hr⟩ := hgy
      have e1 : x.den / g = p := by rw [hp, Nat.mul_div_cancel_left _ hgp]
      have e2 : y.den / g = r := by rw [hr, Nat.mul_div_cancel_left _ hgp]
      rw [e1, e2, hp, hr]
      push_cast
      grind
    · obtain ⟨p, hp⟩ := hgx
      rw [hp, Nat.mul_div_cancel_left _ hgp, Nat.mul_assoc]
  rw [hn, Rat.normalize_eq]
  simp only
  rw [← aux]
  refine ⟨rfl, ?_⟩
  exact Nat.mul_div_assoc _ (Nat.dvd_trans hhg hgy)
def cmpQ (x y : Rat) : Int := if x < y then -1 else if y < x then 1 else 0
theorem cmpQ_of (x y : Rat) : cmpZ (x.num * (y.den : Int)) (y.num * (x.den : Int)) = cmpQ x y := by
  unfold cmpZ cmpQ
  simp only [Rat.lt_iff]
def denZ (q : Rat) : Int := if q.den = 1 then 0 else (q.den : Int)
end Cin

namespace Cin
open Go Go.RowKit
def mn (x y : Rat) : Rat := if x ≤ y then x else y
def mx (x y : Rat) : Rat := if x ≤ y then y else x
theorem mn_l (x y : Rat) : mn x y ≤ x := by unfold mn; split <;> grind
theorem mn_r (x y : Rat) : mn x y ≤ y := by unfold mn; split <;> grind
theorem mx_l (x y : Rat) : x ≤ mx x y := by unfold mx; split <;> grind
theorem mx_r (x y : Rat) : y ≤ mx x y := by unfold mx; split <;> grind
theorem mn_or (x y : Rat) : mn x y = x ∨ mn x y = y := by unfold mn; split <;> simp
theorem mx_or (x y : Rat) : mx x y = x ∨ mx x y = y := by unfold mx; split <;> simp
def inZ (a b : Rat) (n : Nat) : Prop := n ≠ 0 ∧ n % 2 = 0 ∧ a < 0 ∧ 0 < b
instance (a b : Rat) (n : Nat) : Decidable (inZ a b n) := by unfold inZ; infer_instance
theorem mn_of {x y : Rat} (h : x ≤ y) : mn x y = x := if_pos h
theorem mn_of' {x y : Rat} (h : y ≤ x) : mn x y = y := by unfold mn; split <;> grind
theorem mx_of {x y : Rat} (h : x ≤ y) : mx x y = y := if_pos h
theorem mx_of' {x y : Rat} (h : y ≤ x) : mx x y = x := by unfold mx; split <;> grind
end Cin

namespace Cin
def tp (e : Int) : Rat := (2 : Rat) ^ e
theorem rle_lt {a b c : Rat} (h : a ≤ b) (h' : b < c) : a < c := by grind
theorem rlt_le {a b c : Rat} (h : a < b) (h' : b ≤ c) : a < c := by grind
theorem two_pos (e : Int) : 0 < tp e := Rat.zpow_pos (by decide)
theorem two_ne (e : Int) : tp e ≠ 0 := Rat.ne_of_gt (two_pos e)
theorem two_add (a b : Int) : tp (a + b) = tp a * tp b := Rat.zpow_add (by decide) a b
theorem two_zero : tp 0 = 1 := Rat.zpow_zero 2
theorem two_nat (n : Nat) : tp n = ((2 ^ n : Nat) : Rat) := by
  unfold tp
  rw [Rat.zpow_natCast, Rat.natCast_pow]; rfl
theorem two_natZ (n : Nat) : tp n = ((2 ^ n : Int) : Rat) := by rw [two_nat, ← Rat.intCast_natCast, Int.natCast_pow]; rfl
theorem two_neg (e : Int) : tp e * tp (-e) = 1 := by rw [← two_add, Int.add_right_neg, two_zero]
theorem two_mono {a b : Int} (h : a ≤ b) : tp a ≤ tp b := by
  obtain ⟨n, rfl⟩ := Int.le.dest h
  rw [two_add, two_nat]
  have h1 : (1 : Rat) ≤ ((2 ^ n : Nat) : Rat) := by
    have : ((1 : Nat) : Rat) ≤ ((2 ^ n : Nat) : Rat) := Rat.natCast_le_natCast.2 (Nat.one_le_two_pow)
    exact this
  have := Rat.mul_le_mul_of_nonneg_left h1 (Rat.le_of_lt (two_pos a))
  rwa [Rat.mul_one] at this
theorem two_lt_of {a b : Int} (h : tp a < tp b) : a < b := by
  by_cases h1 : a < b
  · exact h1
  · exact absurd (two_mono (Int.not_lt.1 h1)) (Rat.not_le.2 h)
def Can (m e : Int) : Prop := (m = 0 ∧ e = 0) ∨ m % 2 = 1
def IsDy (q : Rat) (m e : Int) : Prop := Can m e ∧ q = (m : Rat) * tp e
theorem IsDy.unique_le {q : Rat} {m e m' e' : Int} (h : IsDy q m e) (h' : IsDy q m' e') (hle : e ≤ e') (h0 : q ≠ 0) : m = m' ∧ e = e' := by
  obtain ⟨n, rfl⟩ := Int.le.dest hle
  have hq := h.2.symm.trans h'.2
  rw [two_add, two_natZ] at hq
  have e1 : (m : Rat) = ((m' * 2 ^ n : Int) : Rat) := by
    rw [Rat.intCast_mul]
    have := two_ne e
    generalize tp e = t at *
    generalize ((2 ^ n : Int) : Rat) = s at *
    grind
  have e2 : m = m' * 2 ^ n := Rat.intCast_inj.1 e1
  have hm : m % 2 = 1 := by
    rcases h.1 with ⟨r, _⟩ | r
    · refine absurd ?_ h0
      rw [h.2, r]; exact Rat.zero_mul _
    · exact r
  cases n with
  | zero => simp at e2; subst e2; exact ⟨rfl, by simp⟩
  | succ n =>
    rw [Int.pow_succ, ← Int.mul_assoc] at e2
    omega
theorem IsDy.unique {q : Rat} {m e m' e' : Int} (h : IsDy q m e) (h' : IsDy q m' e') : m = m' ∧ e = e' := by
  by_cases h0 : q = 0
  · have z : ∀ {m e : Int}, IsDy q m e → m = 0 ∧ e = 0 := by
      intro m e h
      rcases h.1 with r | r
      · exact r
      · have h2 := h.2
        rw [h0] at h2
        rcases Rat.mul_eq_zero.1 h2.symm with r1 | r1
        · have := Rat.intCast_eq_zero_iff.1 r1
          omega
        · exact absurd r1 (two_ne e)
    obtain ⟨rfl, rfl⟩ := z h
    obtain ⟨rfl, rfl⟩ := z h'
    exact ⟨rfl, rfl⟩
  · rcases Int.le_total e e' with hl | hl
    · exact h.unique_le h' hl h0
    · obtain ⟨a, b⟩ := h'.unique_le h hl h0
      exact ⟨a.symm, b.symm⟩
theorem isDy_of {m : Int} {n z : Nat} {e : Int} (hm : m ≠ 0) (hz : IsTz m.natAbs z) (hn : n = m.natAbs / 2 ^ z) : IsDy ((m : Rat) * tp e) (if m < 0 then -(n : Int) else n) (e + z) := by
  rcases hz with ⟨h, _⟩ | ⟨c, hc⟩
  · omega
  · have h1 : n = 2 * c + 1 := by rw [hn, hc, Nat.mul_div_cancel_left _ (Nat.two_pow_pos z)]
    have h2 : m = (if m < 0 then -(n : Int) else n) * 2 ^ z := by
      have h3 : (m.natAbs : Int) = (n : Int) * 2 ^ z := by
        rw [hc, h1, Int.natCast_mul, Int.natCast_pow, Int.mul_comm]; rfl
      split
      · rw [Int.neg_mul]; omega
      · omega
    refine ⟨.inr ?_, ?_⟩
    · split <;> omega
    · generalize (if m < 0 then -(n : Int) else (n : Int)) = r at h2
      rw [h2, two_add, two_natZ, Rat.intCast_mul]
      grind
theorem dy_zero : IsDy 0 0 0 := ⟨.inl ⟨rfl, rfl⟩, by rw [two_zero, Rat.mul_one]; rfl⟩
theorem tz_ex (n : Nat) (h : n ≠ 0) : ∃ z, IsTz n z := by
  induction n using Nat.strongRecOn with
  | ind n ih =>
    rcases Nat.mod_two_eq_zero_or_one n with r | r
    · obtain ⟨z, hz⟩ := ih (n / 2) (by omega) (by omega)
      rcases hz with ⟨h1, _⟩ | ⟨c, hc⟩
      · omega
      · exact ⟨z + 1, .inr ⟨c, by rw [Nat.pow_succ, Nat.mul_right_comm, ← hc]; omega⟩⟩
    · exact ⟨0, .inr ⟨n / 2, by omega⟩⟩
def tzG : Nat → Nat → Nat
  | 0, _ => 0
  | f + 1, n => if n % 2 = 0 then tzG f (n / 2) + 1 else 0
def tzOf (n : Nat) : Nat := if n = 0 then 0 else tzG n n
theorem tzG_ok (f n : Nat) (h : n ≠ 0) (hf : n ≤ f) : IsTz n (tzG f n) := by
  induction f generalizing n with
  | zero => omega
  | succ f ih =>
    unfold tzG
    split
    · rename_i r
      rcases ih (n / 2) (by omega) (by omega) with ⟨h1, _⟩ | ⟨c, hc⟩
      · omega
      · exact .inr ⟨c, by rw [Nat.pow_succ, Nat.mul_right_comm, ← hc]; omega⟩
    · exact .inr ⟨n / 2, by simp; omega⟩
theorem tzOf_ok (n : Nat) : IsTz n (tzOf n) := by
  unfold tzOf
  split
  · rename_i h; exact .inl ⟨h, rfl⟩
  · rename_i h; exact tzG_ok n n h (Nat.le_refl _)
def oddOf (q : Rat) : Int := if q.num < 0 then -((q.num.natAbs / 2 ^ tzOf q.num.natAbs : Nat) : Int) else (q.num.natAbs / 2 ^ tzOf q.num.natAbs : Nat)
def expOf (q : Rat) : Int := -(tzOf q.den : Int) + tzOf q.num.natAbs
def Dy (q : Rat) : Prop := IsDy q (oddOf q) (expOf q)
theorem dy_iff {q : Rat} {k : Nat} (h : q.den = 2 ^ k) : Dy q := by
  have e : q = (q.num : Rat) * tp (-(k : Int)) := by
    have h1 : (q.num : Rat) = q * (q.den : Rat) := by
      have e := Rat.mkRat_self q
      rw [Rat.mkRat_eq_div] at e
      have hd : (q.den : Rat) ≠ 0 := by
        have := q.den_nz
        intro h; exact this (Rat.natCast_eq_zero_iff.1 h)
      rw [← Rat.div_mul_cancel (a := (q.num : Rat)) hd, e]
    rw [h1, h, ← two_nat, Rat.mul_assoc, two_neg, Rat.mul_one]
  by_cases h0 : q.num = 0
  · have : q = 0 := Rat.num_eq_zero.1 h0
    rw [this]
    exact dy_zero
  · have hk : tzOf q.den = k := by
      have h1 := tzOf_ok q.den
      rw [h] at h1 ⊢
      rcases h1 with ⟨r, _⟩ | ⟨m, hm⟩
      · have := Nat.two_pow_pos k; omega
      · generalize tzOf (2 ^ k) = t at *
        have hle : t ≤ k := by
          have : 2 ^ t ≤ 2 ^ k := by rw [hm]; exact Nat.le_mul_of_pos_right _ (by omega)
          exact (Nat.pow_le_pow_iff_right (by decide)).1 this
        obtain ⟨d, rfl⟩ := Nat.exists_eq_add_of_le hle
        rw [Nat.pow_add] at hm
        have r2 := Nat.eq_of_mul_eq_mul_left (Nat.two_pow_pos t) hm
        cases d with
        | zero => rfl
        | succ d => rw [Nat.pow_succ] at r2; omega
    have r := isDy_of (m := q.num) (e := -(k : Int)) h0 (tzOf_ok q.num.natAbs) rfl
    rw [← e] at r
    unfold Dy oddOf expOf
    rw [hk]
    exact r
theorem IsDy.den {q : Rat} {m e : Int} (h : IsDy q m e) : ∃ k, q.den = 2 ^ k := by
  obtain ⟨h1, h2⟩ := h
  by_cases he : 0 ≤ e
  · obtain ⟨n, rfl⟩ := Int.eq_ofNat_of_zero_le he
    refine ⟨0, ?_⟩
    rw [h2, two_natZ, ← Rat.intCast_mul]; rfl
  · rcases h1 with ⟨rfl, rfl⟩ | h1
    · omega
    · obtain ⟨n, hn⟩ := Int.eq_ofNat_of_zero_le (show 0 ≤ -e by omega)
      have hc : m.natAbs.Coprime (2 ^ n) := Nat.Coprime.pow_right n (by
        rw [Nat.Coprime, Nat.gcd_comm, Nat.gcd_rec, show m.natAbs % 2 = 1 by omega, Nat.gcd_one_left])
      refine ⟨n, (rat_of (q := q) (Nat.pos_iff_ne_zero.1 (Nat.two_pow_pos n)) hc ?_).2⟩
      have h3 : tp e * ((2 ^ n : Nat) : Rat) = 1 := by rw [← two_nat, ← two_add, show e + (n : Int) = 0 by omega, two_zero]
      rw [Rat.mkRat_eq_div, h2, Rat.div_def]
      congr 1
      exact Rat.inv_eq_of_mul_eq_one (by rw [Rat.mul_comm]; exact h3)
theorem IsDy.dy {q : Rat} {m e : Int} (h : IsDy q m e) : Dy q := let ⟨_, hk⟩ := h.den; dy_iff hk
theorem IsDy.odd {q : Rat} {m e : Int} (h : IsDy q m e) : oddOf q = m := (h.dy.unique h).1
theorem IsDy.exp {q : Rat} {m e : Int} (h : IsDy q m e) : expOf q = e := (h.dy.unique h).2
theorem Dy.val {q : Rat} (h : Dy q) : (oddOf q : Rat) * tp (expOf q) = q := h.2.symm
def Rep (b : Nat) (q : Rat) : Prop := ∃ m e : Int, q = (m : Rat) * tp e ∧ m.natAbs < 2 ^ b
def IsDown (b : Nat) (a d : Rat) : Prop := Rep b d ∧ d ≤ a ∧ ∀ r, Rep b r → r ≤ a → r ≤ d
theorem IsDown.unique {b : Nat} {a d d' : Rat} (h : IsDown b a d) (h' : IsDown b a d') : d = d' := Rat.le_antisymm (h'.2.2 d h.1 h.2.1) (h.2.2 d' h'.1 h'.2.1)
theorem Rep.neg {b : Nat} {q : Rat} (h : Rep b q) : Rep b (-q) := by
  obtain ⟨m, e, rfl, hb⟩ := h
  exact ⟨-m, e, by rw [Rat.intCast_neg, Rat.neg_mul], by rw [Int.natAbs_neg]; exact hb⟩
theorem Rep.mono {b c : Nat} {q : Rat} (h : Rep b q) (hc : b ≤ c) : Rep c q := by
  obtain ⟨m, e, rfl, hb⟩ := h
  exact ⟨m, e, rfl, Nat.lt_of_lt_of_le hb (Nat.pow_le_pow_right (by decide) hc)⟩
theorem Rep.top {b : Nat} {m e : Int} (hb : 1 ≤ b) (hm : m.natAbs ≤ 2 ^ b) : Rep b ((m : Rat) * tp e) := by
  by_cases h : m.natAbs < 2 ^ b
  · exact ⟨m, e, rfl, h⟩
  · have h1 : m.natAbs = 2 ^ b := by omega
    have h2 : (1 : Nat) < 2 ^ b := by have := Nat.pow_le_pow_right (n := 2) (by decide) hb; omega
    have hp : ((2 ^ b : Nat) : Int) = 2 ^ b := by rw [Int.natCast_pow]; rfl
    rcases Int.natAbs_eq m with e1 | e1
    · refine ⟨1, e + b, ?_, h2⟩
      rw [e1, h1, two_add, two_natZ, hp]
      have : ((1 : Int) : Rat) = 1 := rfl
      rw [this]
      grind
    · refine ⟨-1, e + b, ?_, h2⟩
      rw [e1, h1, two_add, two_natZ, hp, Rat.intCast_neg]
      have : ((-1 : Int) : Rat) = -1 := rfl
      rw [this]
      grind
theorem Rep.mult {b : Nat} {r : Rat} {e : Int} (h : Rep b r) (hb : 1 ≤ b) (hr : tp (e + (b - 1 : Nat)) ≤ r ∨ r ≤ -tp (e + (b - 1 : Nat))) : ∃ c : Int, r = (c : Rat) * tp e := by
  obtain ⟨m, e', rfl, hm⟩ := h
  have h1 : tp (e + (b - 1 : Nat)) < tp (e' + b) := by
    have hm1 : (m : Rat) < ((2 ^ b : Nat) : Rat) := by
      rw [← Rat.intCast_natCast]
      exact Rat.intCast_lt_intCast.2 (by omega)
    have hm2 : -(m : Rat) < ((2 ^ b : Nat) : Rat) := by
      rw [← Rat.intCast_natCast, ← Rat.intCast_neg]
      exact Rat.intCast_lt_intCast.2 (by omega)
    rw [two_add e' b, two_nat b]
    have hp := two_pos e'
    rcases hr with hr | hr
    · have := Rat.mul_lt_mul_of_pos_right hm1 hp
      grind
    · have := Rat.mul_lt_mul_of_pos_right hm2 hp
      grind
  have h2 := two_lt_of h1
  obtain ⟨n, hn⟩ := Int.le.dest (show e ≤ e' by omega)
  refine ⟨m * 2 ^ n, ?_⟩
  rw [← hn, two_add, two_natZ, Rat.intCast_mul]
  grind
theorem down_of {b : Nat} {a : Rat} {c e : Int} (hb : 1 ≤ b) (h1 : (c : Rat) * tp e ≤ a) (h2 : a < ((c + 1 : Int) : Rat) * tp e) (ha : tp (e + (b - 1 : Nat)) ≤ a ∨ a ≤ -tp (e + (b - 1 : Nat))) (hr : Rep b ((c : Rat) * tp e)) : IsDown b a ((c : Rat) * tp e) := by
  refine ⟨hr, h1, fun r hrr hra => ?_⟩
  by_cases hs : tp (e + (b - 1 : Nat)) ≤ r ∨ r ≤ -tp (e + (b - 1 : Nat))
  · obtain ⟨d, rfl⟩ := hrr.mult hb hs
    have h3 : (d : Rat) * tp e < ((c + 1 : Int) : Rat) * tp e := rle_lt hra h2
    have h4 := Rat.intCast_lt_intCast.1 (Rat.lt_of_mul_lt_mul_right h3 (Rat.le_of_lt (two_pos e)))
    exact Rat.mul_le_mul_of_nonneg_right (Rat.intCast_le_intCast.2 (by omega)) (Rat.le_of_lt (two_pos e))
  · have hs1 : r < tp (e + (b - 1 : Nat)) := Rat.not_le.1 fun h => hs (.inl h)
    have hs2 : -tp (e + (b - 1 : Nat)) < r := Rat.not_le.1 fun h => hs (.inr h)
    rcases ha with ha | ha
    · have e1 : tp (e + (b - 1 : Nat)) = ((2 ^ (b - 1) : Int) : Rat) * tp e := by rw [two_add, two_natZ, Rat.mul_comm]
      have h3 : ((2 ^ (b - 1) : Int) : Rat) * tp e < ((c + 1 : Int) : Rat) * tp e := by rw [← e1]; exact rle_lt ha h2
      have h4 := Rat.intCast_lt_intCast.1 (Rat.lt_of_mul_lt_mul_right h3 (Rat.le_of_lt (two_pos e)))
      have h5 : ((2 ^ (b - 1) : Int) : Rat) * tp e ≤ (c : Rat) * tp e := Rat.mul_le_mul_of_nonneg_right (Rat.intCast_le_intCast.2 (by omega)) (Rat.le_of_lt (two_pos e))
      rw [← e1] at h5
      exact Rat.le_trans (Rat.le_of_lt hs1) h5
    · exfalso
      exact Rat.lt_irrefl (rlt_le hs2 (Rat.le_trans hra ha))
theorem Rep.odd {b : Nat} {q : Rat} (h : Rep b q) : (oddOf q).natAbs < 2 ^ b := by
  obtain ⟨m, e, rfl, hm⟩ := h
  by_cases h0 : m = 0
  · have : IsDy ((m : Rat) * tp e) 0 0 := by
      rw [h0]
      have : ((0 : Int) : Rat) * tp e = 0 := Rat.zero_mul _
      rw [this]; exact dy_zero
    rw [this.odd]; exact Nat.two_pow_pos b
  · obtain ⟨z, hz⟩ := tz_ex m.natAbs (by omega)
    rw [(isDy_of (e := e) h0 hz rfl).odd]
    have := Nat.div_le_self m.natAbs (2 ^ z)
    generalize m.natAbs / 2 ^ z = t at *
    split <;> omega
def sgr (neg : Bool) (x : Rat) : Rat := if neg then -x else x
theorem natR {a b : Nat} (h : a ≤ b) : (a : Rat) ≤ (b : Rat) := Rat.natCast_le_natCast.2 h
theorem natRl {a b : Nat} (h : a < b) : (a : Rat) < (b : Rat) := Rat.natCast_lt_natCast.2 h
theorem round_down {neg ex : Bool} {b M0 X Y : Nat} {p : Int} {A : Rat} (hb : 1 ≤ b) (hA : A * (Y : Rat) = (X : Rat) * tp (-p)) (hY : 0 < Y) (h1 : M0 * Y ≤ X) (h2 : X < (M0 + 1) * Y) (h3 : 2 ^ (b - 1) ≤ M0) (h4 : M0 < 2 ^ b) (he : ex = true ↔ M0 * Y = X) :
    IsDown b (sgr neg A) (sgr neg (((if neg && !ex then M0 + 1 else M0 : Nat) : Rat) * tp (-p))) := by
  have hYr : (0 : Rat) < (Y : Rat) := Rat.natCast_pos.2 hY
  have ht := two_pos (-p)
  have k1 : (M0 : Rat) * tp (-p) ≤ A := by
    refine Rat.le_of_mul_le_mul_right (c := (Y : Rat)) ?_ hYr
    rw [hA]
    have := Rat.mul_le_mul_of_nonneg_right (natR h1) (Rat.le_of_lt ht)
    rw [Rat.natCast_mul] at this
    grind
  have k2 : A < ((M0 + 1 : Nat) : Rat) * tp (-p) := by
    refine Rat.lt_of_mul_lt_mul_right (c := (Y : Rat)) ?_ (Rat.le_of_lt hYr)
    rw [hA]
    have := Rat.mul_lt_mul_of_pos_right (natRl h2) ht
    rw [Rat.natCast_mul] at this
    grind
  have k3 : tp (-p + (b - 1 : Nat)) ≤ A := by
    rw [two_add, two_nat, Rat.mul_comm]
    exact Rat.le_trans (Rat.mul_le_mul_of_nonneg_right (natR h3) (Rat.le_of_lt ht)) k1
  have c1 : ((M0 + 1 : Nat) : Rat) = (M0 : Rat) + 1 := by rw [Rat.natCast_add]; rfl
  have z0 : ((M0 : Int) : Rat) = (M0 : Rat) := rfl
  have z1 : ((1 : Int) : Rat) = 1 := rfl
  cases neg with
  | false =>
    have := down_of (b := b) (a := A) (c := (M0 : Int)) (e := -p) hb k1 (by rw [Rat.intCast_add, z0, z1, ← c1]; exact k2) (.inl k3) ⟨(M0 : Int), -p, rfl, by omega⟩
    rw [z0] at this
    simpa [sgr] using this
  | true =>
    have k4 : -A ≤ -tp (-p + (b - 1 : Nat)) := Rat.neg_le_neg k3
    cases ex with
    | true =>
      have k5 : A = (M0 : Rat) * tp (-p) := by
        have e1 := he.1 rfl
        refine Rat.le_antisymm (Rat.le_of_mul_le_mul_right (c := (Y : Rat)) ?_ hYr) k1
        rw [hA, ← e1, Rat.natCast_mul]
        grind
      have := down_of (b := b) (a := -A) (c := -(M0 : Int)) (e := -p) hb (by rw [Rat.intCast_neg, z0]; grind) (by rw [Rat.intCast_add, Rat.intCast_neg, z0, z1]; grind) (.inr k4) ⟨-(M0 : Int), -p, rfl, by omega⟩
      rw [Rat.intCast_neg, z0, Rat.neg_mul] at this
      simpa [sgr] using this
    | false =>
      have k5 : (M0 : Rat) * tp (-p) < A := by
        have e1 : M0 * Y < X := by
          have : ¬ M0 * Y = X := fun h => by cases he.2 h
          omega
        refine Rat.lt_of_mul_lt_mul_right (c := (Y : Rat)) ?_ (Rat.le_of_lt hYr)
        rw [hA]
        have := Rat.mul_lt_mul_of_pos_right (natRl e1) ht
        rw [Rat.natCast_mul] at this
        grind
      have e2 : ((-(M0 + 1 : Nat) : Int) : Rat) = -((M0 + 1 : Nat) : Rat) := rfl
      have := down_of (b := b) (a := -A) (c := (-(M0 + 1 : Nat) : Int)) (e := -p) hb (by rw [e2]; grind) (by rw [Rat.intCast_add, e2, c1, z1]; grind) (.inr k4) (Rep.top hb (by omega))
      rw [e2, Rat.neg_mul] at this
      simpa [sgr] using this
theorem num_over (a : Rat) : a * (a.den : Rat) = (a.num : Rat) := by
  have e := Rat.mkRat_self a
  rw [Rat.mkRat_eq_div] at e
  have hd : (a.den : Rat) ≠ 0 := by
    have := a.den_nz
    intro h; exact this (Rat.natCast_eq_zero_iff.1 h)
  have h := Rat.div_mul_cancel (a := (a.num : Rat)) hd
  rwa [e] at h
def blOf (n : Nat) : Nat := if n = 0 then 0 else Nat.log2 n + 1
theorem blOf_ok (n : Nat) : IsBl n (blOf n) := by
  unfold blOf
  split
  · rename_i h; subst h; exact ⟨by decide, .inl rfl⟩
  · rename_i h; exact ⟨Nat.lt_log2_self, .inr (Nat.log2_self_le h)⟩
theorem blOf_le {n j : Nat} (h : n < 2 ^ j) : blOf n ≤ j := by
  have h1 := blOf_ok n
  rcases Nat.lt_or_ge j (blOf n) with hl | hl
  · rcases h1.2 with r | r
    · omega
    · have := Nat.pow_le_pow_right (n := 2) (by decide) (show j ≤ blOf n - 1 by omega)
      omega
  · exact hl
theorem tzOf_le {n j : Nat} (h : n < 2 ^ j) : tzOf n ≤ j := by
  by_cases h0 : n = 0
  · subst h0; exact Nat.zero_le _
  · exact Nat.le_of_lt ((tzOf_ok n).lt h0 h)
def DyOk (q : Rat) : Prop := tzOf q.den + 1 = blOf q.den
theorem DyOk.den {q : Rat} (h : DyOk q) : q.den = 2 ^ tzOf q.den := by
  unfold DyOk at h
  have h1 := (blOf_ok q.den).1
  rw [← h] at h1
  rcases tzOf_ok q.den with ⟨r, _⟩ | ⟨m, hm⟩
  · exact absurd r q.den_nz
  · generalize tzOf q.den = t at *
    rw [hm, Nat.pow_succ] at h1
    have := Nat.lt_of_mul_lt_mul_left h1
    have : m = 0 := by omega
    rw [hm, this]; simp
theorem DyOk.val {q : Rat} (h : DyOk q) : (q.num : Rat) * tp (-(tzOf q.den : Int)) = q := by
  have h1 := num_over q
  have h2 : (q.den : Rat) = tp (tzOf q.den) := by rw [two_nat, ← h.den]
  rw [← h1, h2, Rat.mul_assoc, two_neg, Rat.mul_one]
theorem DyOk.dy {q : Rat} (h : DyOk q) : Dy q := dy_iff h.den
theorem dv_sign (m e : Int) : (m < 0 → (m : Rat) * tp e < 0) ∧ (m = 0 → (m : Rat) * tp e = 0) ∧ (0 < m → 0 < (m : Rat) * tp e) :=
  ⟨fun h => (Rat.mul_neg_iff_of_pos_right (two_pos e)).2 (Rat.intCast_neg_iff.2 h), fun h => by rw [h]; exact Rat.zero_mul _, fun h => Rat.mul_pos (Rat.intCast_pos.2 h) (two_pos e)⟩
theorem IsDy.neg {q : Rat} {m e : Int} (h : IsDy q m e) : IsDy (-q) (-m) e := by
  refine ⟨?_, by rw [h.2, Rat.intCast_neg, Rat.neg_mul]⟩
  rcases h.1 with ⟨rfl, rfl⟩ | r
  · exact .inl ⟨rfl, rfl⟩
  · exact .inr (by omega)
theorem Dy.neg {q : Rat} (h : Dy q) : Dy (-q) := (IsDy.neg h).dy
theorem Dy.oddNeg {q : Rat} (h : Dy q) : oddOf (-q) = -oddOf q := (IsDy.neg h).odd
theorem Dy.expNeg {q : Rat} (h : Dy q) : expOf (-q) = expOf q := (IsDy.neg h).exp
theorem odd_zero : oddOf 0 = 0 := dy_zero.odd
theorem exp_zero : expOf 0 = 0 := dy_zero.exp
end Cin

namespace Go.Proofs.YtpmnakjllkidiaaGreatDoor
open Go.RowKit Cin
theorem info_u32 : (Tryz.prog.info? 161).map (fun i => (i.zero, i.size, i.bytes)) = some (some (.int .u32 0), 1, 4) := by kernel_rfl
end Go.Proofs.YtpmnakjllkidiaaGreatDoor
