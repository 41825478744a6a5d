/- Blocks that are held over calls; whole numbers with a sign, and how great they are. No program. -/
import Derived.Test.YtfohgkabmdhhaaaGreatDoorYd
import Derived.Test.YtfohgkabmdhhaaaGreatDoorYc
namespace Cin
open Go Go.RowKit

/-- Each of these blocks lies at its place: its cells, their type; none is frozen. -/
def Held (w : World) : List (Nat × Array Value × TypeId) → Prop
  | [] => True
  | (b, c, t) :: L => w.heap[b]? = some (.cells c t (0, 0)) ∧ Held w L
theorem Held.below {w w' : World} : ∀ {L : List (Nat × Array Value × TypeId)}, Held w L → Below w.heap.size w w' → Held w' L
  | [], _, _ => trivial
  | (_, _, _) :: _, h, hb => ⟨(hb.block _ (lt_of_heap h.1)).trans h.1, Held.below h.2 hb⟩
theorem Held.drew {w : World} {L : List (Nat × Array Value × TypeId)} (h : Held w L) : Held w.drew L := h.below (Below.refl _ _).drew
theorem Held.new {w : World} {L : List (Nat × Array Value × TypeId)} (h : Held w L) (c : Array Value) (t : TypeId) : Held (w.alloc (.cells c t)) ((w.heap.size, c, t) :: L) :=
  ⟨new_block _ _, h.below (bel_alloc _ _)⟩
section
variable {w : World} {c0 c1 c2 c3 c4 : Array Value} {t0 t1 t2 t3 t4 : TypeId}
theorem heldN1 : Held (w.alloc (.cells c0 t0)) [(w.heap.size, c0, t0)] := ⟨new_block _ _, trivial⟩
theorem heldN2 : Held ((w.alloc (.cells c0 t0)).alloc (.cells c1 t1)) [(w.heap.size, c0, t0), (w.heap.size + 1, c1, t1)] := ⟨new_block2 _ _ _, nb21 _ _ _, trivial⟩
theorem heldN3 : Held (((w.alloc (.cells c0 t0)).alloc (.cells c1 t1)).alloc (.cells c2 t2)) [(w.heap.size, c0, t0), (w.heap.size + 1, c1, t1), (w.heap.size + 1 + 1, c2, t2)] := ⟨new_block3 _ _ _ _, nb31 _ _ _ _, nb32 _ _ _ _, trivial⟩
theorem heldN4 : Held ((((w.alloc (.cells c0 t0)).alloc (.cells c1 t1)).alloc (.cells c2 t2)).alloc (.cells c3 t3)) [(w.heap.size, c0, t0), (w.heap.size + 1, c1, t1), (w.heap.size + 1 + 1, c2, t2), (w.heap.size + 1 + 1 + 1, c3, t3)] := ⟨nb40 _ _ _ _ _, nb41 _ _ _ _ _, nb42 _ _ _ _ _, nb43 _ _ _ _ _, trivial⟩
end
theorem cell_drew (w : World) (a : Addr) : w.drew.cell? a = w.cell? a := rfl
theorem frozen_drew (w : World) (a : Addr) : w.drew.frozen? a = w.frozen? a := rfl
theorem cell_lt {w : World} {b o : Nat} {x : Value} (h : w.cell? ⟨b, o, none⟩ = some x) : b < w.heap.size := by
  rcases Nat.lt_or_ge b w.heap.size with h' | h'
  · exact h'
  · simp [World.cell?, Array.getElem?_eq_none h'] at h
theorem cell_below {w w' : World} {b o : Nat} {x : Value} (h : w.cell? ⟨b, o, none⟩ = some x) (hb : Below w.heap.size w w') : w'.cell? ⟨b, o, none⟩ = some x := by rw [hb.cell (cell_lt h)]; exact h
theorem cell_set {w : World} {b o b' o' : Nat} {x u : Value} (h : w.cell? ⟨b, o, none⟩ = some x) (hb : b ≠ b') : (w.setCell ⟨b', o', none⟩ u).cell? ⟨b, o, none⟩ = some x := by
  rw [World.cell?_setCell_other _ _ _ _ (by intro e; injection e with e1; exact hb e1.symm)]; exact h
theorem below_drew {B : Nat} {w X : World} : Below B w X.drew ↔ Below B w X := ⟨fun h => ⟨h.os, h.tape, h.output, h.size, h.block⟩, fun h => h.drew⟩
theorem bel_set1 {B : Nat} {w X : World} {b o : Nat} {u : Value} (h : Below B w X) (hb : B ≤ b) : Below B w (X.setCell ⟨b, o, none⟩ u) := h.setCell (p := ⟨b, o, none⟩) hb u
theorem bel_set1d {B : Nat} {w X : World} {b o : Nat} {u : Value} (h : Below B w X) (hb : B ≤ b) : Below B w (X.setCell ⟨b, o, none⟩ u).drew := (bel_set1 h hb).drew
theorem bel_set2 {B : Nat} {w X : World} {b o b' o' : Nat} {u u' : Value} (h : Below B w X) (hb : B ≤ b) (hb' : B ≤ b') : Below B w ((X.setCell ⟨b, o, none⟩ u).setCell ⟨b', o', none⟩ u') := bel_set1 (bel_set1 h hb) hb'
theorem bel_set2d {B : Nat} {w X : World} {b o b' o' : Nat} {u u' : Value} (h : Below B w X) (hb : B ≤ b) (hb' : B ≤ b') : Below B w ((X.setCell ⟨b, o, none⟩ u).setCell ⟨b', o', none⟩ u').drew := (bel_set2 h hb hb').drew
theorem cell0 {w : World} {b : Nat} {x : Value} {l : List Value} {t : TypeId} (h : w.heap[b]? = some (.cells (x :: l).toArray t (0, 0))) : w.cell? ⟨b, 0, none⟩ = some x := by rw [cell_of h]; simp
theorem cell1 {w : World} {b : Nat} {x y : Value} {l : List Value} {t : TypeId} (h : w.heap[b]? = some (.cells (x :: y :: l).toArray t (0, 0))) : w.cell? ⟨b, 1, none⟩ = some y := by rw [cell_of h]; simp

/-- A block of so many cells of a type, none frozen, whatever they hold. -/
def Slot (w : World) (b : Nat) (t : TypeId) (n : Nat) : Prop := ∃ c : Array Value, c.size = n ∧ w.heap[b]? = some (.cells c t (0, 0))
section
variable {w w' : World} {b n : Nat} {t : TypeId}
theorem Slot.of {c : Array Value} (h : w.heap[b]? = some (.cells c t (0, 0))) (hn : c.size = n) : Slot w b t n := ⟨c, hn, h⟩
theorem Slot.lt (h : Slot w b t n) : b < w.heap.size := let ⟨_, _, h⟩ := h; lt_of_heap h
theorem Slot.below (h : Slot w b t n) (hb : Below w.heap.size w w') : Slot w' b t n := let ⟨c, hn, h⟩ := h; ⟨c, hn, (hb.block _ (lt_of_heap h)).trans h⟩
theorem Slot.drew (h : Slot w b t n) : Slot w.drew b t n := h
theorem slot_drew : Slot w.drew b t n ↔ Slot w b t n := Iff.rfl
theorem Slot.set (h : Slot w b t n) (b' o : Nat) (u : Value) : Slot (w.setCell ⟨b', o, none⟩ u) b t n := by
  obtain ⟨c, hn, h⟩ := h
  by_cases hb : b' = b
  · subst hb
    have : (w.setCell ⟨b', o, none⟩ u).heap[b']? = some (.cells (c.setIfInBounds o u) t (0, 0)) := by simp [World.setCell, Array.getElem?_modify, h]
    exact ⟨_, by simpa using hn, this⟩
  · exact ⟨c, hn, by rw [Below.heap_setCell _ _ _ _ (show b ≠ b' from Ne.symm hb)]; exact h⟩
theorem Slot.one (h : Slot w b t 1) : ∃ x, w.cell? ⟨b, 0, none⟩ = some x ∧ w.frozen? ⟨b, 0, none⟩ = false := by
  obtain ⟨c, hn, h⟩ := h
  exact ⟨c[0]'(by omega), by rw [cell_of h, Array.getElem?_eq_getElem (by omega)], free_of h 0⟩
theorem Slot.two (h : Slot w b t 2) : ∃ x y, w.cell? ⟨b, 0, none⟩ = some x ∧ w.cell? ⟨b, 1, none⟩ = some y ∧ w.frozen? ⟨b, 0, none⟩ = false ∧ w.frozen? ⟨b, 1, none⟩ = false := by
  obtain ⟨c, hn, h⟩ := h
  exact ⟨c[0]'(by omega), c[1]'(by omega), by rw [cell_of h, Array.getElem?_eq_getElem (by omega)], by rw [cell_of h, Array.getElem?_eq_getElem (by omega)], free_of h 0, free_of h 1⟩
theorem Slot.set2 (h : Slot w b t 2) (u u' : Value) : ((w.setCell ⟨b, 0, none⟩ u).setCell ⟨b, 1, none⟩ u').cell? ⟨b, 0, none⟩ = some u ∧ ((w.setCell ⟨b, 0, none⟩ u).setCell ⟨b, 1, none⟩ u').cell? ⟨b, 1, none⟩ = some u' := by
  obtain ⟨x, y, hx, hy, _⟩ := h.two
  refine ⟨?_, ?_⟩
  · rw [World.cell?_setCell_other _ _ _ _ (by intro e; injection e with _ e2; cases e2)]; exact World.cell?_setCell_same _ _ _ hx
  · refine World.cell?_setCell_same _ _ _ (u := y) ?_
    rw [World.cell?_setCell_other _ _ _ _ (by intro e; injection e with _ e2; cases e2)]; exact hy
theorem Slot.set1 (h : Slot w b t 1) (u : Value) : (w.setCell ⟨b, 0, none⟩ u).cell? ⟨b, 0, none⟩ = some u := by
  obtain ⟨x, hx, _⟩ := h.one
  exact World.cell?_setCell_same _ _ _ hx
theorem RefV.slot {tt : TypeId} {v : Value} {m : Nat} (h : RefV tt w v m) (hs : Slot w b t n) (ht : t ≠ tt) (o : Nat) (u : Value) : RefV tt (w.setCell ⟨b, o, none⟩ u) v m :=
  let ⟨_, _, hk⟩ := hs; h.setOther (a := ⟨b, o, none⟩) hk ht u
end

/-- The number n, below 2 to the 32nd, k times by itself. -/
def NatB (t : TypeId) (w : World) (v : Value) (n k : Nat) : Prop := NatV t w v n ∧ n < pw k
/-- A whole number with a sign: whether it is below 0 (0 is not), and its size. -/
def IntV (t : TypeId) (w : World) (v : Value) (z : Int) : Prop := ∃ s, v = .agg #[.bool (decide (z < 0)), s] ∧ RefV t w s z.natAbs
def IntB (t : TypeId) (w : World) (v : Value) (z : Int) (k : Nat) : Prop := IntV t w v z ∧ z.natAbs < pw k
section
variable {t : TypeId} {w w' : World} {v : Value} {n k : Nat} {z : Int}
theorem NatB.below (h : NatB t w v n k) (hb : Below w.heap.size w w') : NatB t w' v n k := ⟨h.1.below hb, h.2⟩
theorem IntV.below (h : IntV t w v z) (hb : Below w.heap.size w w') : IntV t w' v z := let ⟨s, e, r⟩ := h; ⟨s, e, r.below hb⟩
theorem IntB.below (h : IntB t w v z k) (hb : Below w.heap.size w w') : IntB t w' v z k := ⟨h.1.below hb, h.2⟩
theorem NatB.mono {j : Nat} (h : NatB t w v n k) (hj : k ≤ j) : NatB t w v n j := ⟨h.1, lt_pw_mono h.2 hj⟩
theorem IntB.mono {j : Nat} (h : IntB t w v z k) (hj : k ≤ j) : IntB t w v z j := ⟨h.1, lt_pw_mono h.2 hj⟩
theorem IntV.shape (h : IntV t w v z) : ∃ ad len cap, v = .agg #[.bool (decide (z < 0)), .slice ad len cap] ∧ RefV t w (.slice ad len cap) z.natAbs := by
  obtain ⟨s, rfl, hr⟩ := h
  obtain ⟨ad, len, cap, xs, rfl, _⟩ := hr.shape
  exact ⟨ad, len, cap, rfl, hr⟩
theorem IntB.shape (h : IntB t w v z k) : ∃ ad len cap, v = .agg #[.bool (decide (z < 0)), .slice ad len cap] ∧ RefV t w (.slice ad len cap) z.natAbs := h.1.shape
theorem IntB.shape2 (h : IntB t w v z k) : ∃ bb ad len cap, v = .agg #[.bool bb, .slice ad len cap] ∧ Hid (bb = decide (z < 0)) :=
  let ⟨ad, len, cap, e, _⟩ := h.shape; ⟨_, ad, len, cap, e, Lib.hid rfl⟩
theorem NatB.shape (h : NatB t w v n k) : ∃ ad len cap, v = .agg #[.slice ad len cap] ∧ RefV t w (.slice ad len cap) n := h.1.shape
theorem IntV.zero (t : TypeId) (w : World) : IntV t w (.agg #[.bool false, .slice none 0 0]) 0 := ⟨_, rfl, RefV.zero _ _⟩
theorem IntB.zero (t : TypeId) (w : World) (k : Nat) : IntB t w (.agg #[.bool false, .slice none 0 0]) 0 k := ⟨IntV.zero _ _, pw_pos k⟩
theorem IntB.setOther (h : IntB t w v z k) {t' : TypeId} {a : Addr} {c : Array Value} {f : Nat × Nat} (hb : w.heap[a.block]? = some (.cells c t' f)) (ht : t' ≠ t) (u : Value) : IntB t (w.setCell a u) v z k :=
  let ⟨⟨s, e, r⟩, hk⟩ := h; ⟨⟨s, e, r.setOther hb ht u⟩, hk⟩
theorem IntB.part {ad : Option Addr} {len cap : Nat} {b : Bool} (h : IntB t w (.agg #[.bool b, .slice ad len cap]) z k) : NatB t w (.agg #[.slice ad len cap]) z.natAbs k ∧ b = decide (z < 0) := by
  obtain ⟨⟨s, e, r⟩, hk⟩ := h
  injection e with e
  injection e with e
  simp only [List.cons.injEq, Value.bool.injEq, and_true] at e
  obtain ⟨rfl, rfl⟩ := e
  exact ⟨⟨⟨_, rfl, r⟩, hk⟩, rfl⟩
end

/-- The sign that a number gets: below 0, if that is said and it is not 0. -/
def sg (b : Bool) (n : Nat) : Int := if b then -(n : Int) else n
theorem sg_natAbs (b : Bool) (n : Nat) : (sg b n).natAbs = n := by unfold sg; split <;> simp
theorem sg_neg (b : Bool) (n : Nat) : decide (sg b n < 0) = (b && !decide (n = 0)) := by
  unfold sg
  cases b
  · simp
  · by_cases h : n = 0
    · simp [h]
    · simp [h]; omega
theorem sg_of (z : Int) : sg (decide (z < 0)) z.natAbs = z := by unfold sg; split <;> rename_i h <;> simp at h <;> omega

theorem intB_of {t : TypeId} {w : World} {s : Value} {b bb : Bool} {n k : Nat} (h : RefV t w s n) (hk : n < pw k) (e : bb = (b && !decide (n = 0))) : IntB t w (.agg #[.bool bb, s]) (sg b n) k :=
  ⟨⟨s, by rw [sg_neg, e], by rw [sg_natAbs]; exact h⟩, by rw [sg_natAbs]; exact hk⟩

/-- -1, 0, 1. -/
def cmpZ (x y : Int) : Int := if x < y then -1 else if y < x then 1 else 0
def sgnZ (x : Int) : Int := if x < 0 then -1 else if 0 < x then 1 else 0
theorem pw_big (a b : Nat) : pw a + pw b ≤ pw (a + b + 1) := by
  have h1 := pw_le (a := a) (b := a + b) (by omega)
  have h2 := pw_le (a := b) (b := a + b) (by omega)
  rw [pw_succ]; omega
theorem add_bound {x y : Int} {a b : Nat} (hx : x.natAbs < pw a) (hy : y.natAbs < pw b) : (x + y).natAbs < pw (a + b + 1) := by
  have := pw_big a b; omega
theorem sub_bound {x y : Int} {a b : Nat} (hx : x.natAbs < pw a) (hy : y.natAbs < pw b) : (x - y).natAbs < pw (a + b + 1) := by
  have := pw_big a b; omega
theorem mul_bound {x y : Int} {a b : Nat} (hx : x.natAbs < pw a) (hy : y.natAbs < pw b) : (x * y).natAbs < pw (a + b) := by
  rw [Int.natAbs_mul, pw_add]; exact Nat.mul_lt_mul'' hx hy

/-- A whole number that is stored into the block of a result and told. -/
theorem fin_int {t ti : TypeId} {w0 w1 : World} {b k : Nat} {bb : Bool} {s : Value} {z : Int} (hI : IntB t w1 (.agg #[.bool bb, s]) z k) (hs : Slot w1 b ti 2) (ht : ti ≠ t) (hB : Below w0.heap.size w0 w1) (hb : w0.heap.size ≤ b) :
    IntB t ((w1.setCell ⟨b, 0, none⟩ (.bool bb)).setCell ⟨b, 1, none⟩ s) (.agg #[.bool bb, s]) z k ∧ Below w0.heap.size w0 ((w1.setCell ⟨b, 0, none⟩ (.bool bb)).setCell ⟨b, 1, none⟩ s) ∧
      ((w1.setCell ⟨b, 0, none⟩ (.bool bb)).setCell ⟨b, 1, none⟩ s).cell? ⟨b, 0, none⟩ = some (.bool bb) ∧ ((w1.setCell ⟨b, 0, none⟩ (.bool bb)).setCell ⟨b, 1, none⟩ s).cell? ⟨b, 1, none⟩ = some s := by
  obtain ⟨⟨s', e, r⟩, hk⟩ := hI
  injection e with e
  injection e with e
  simp only [List.cons.injEq, Value.bool.injEq, and_true] at e
  obtain ⟨rfl, rfl⟩ := e
  exact ⟨⟨⟨_, rfl, (r.slot hs ht 0 _).slot (hs.set b 0 _) ht 1 _⟩, hk⟩, bel_set2 hB hb hb, hs.set2 _ _⟩

theorem IntB.slot {t tt : TypeId} {w : World} {v : Value} {z : Int} {k b n : Nat} (h : IntB tt w v z k) (hs : Slot w b t n) (ht : t ≠ tt) (o : Nat) (u : Value) : IntB tt (w.setCell ⟨b, o, none⟩ u) v z k :=
  let ⟨_, _, hk⟩ := hs; h.setOther (a := ⟨b, o, none⟩) hk ht u
/-- Two of them. -/
theorem fin_int2 {t t1 t2 : TypeId} {w0 w1 : World} {b c k j : Nat} {bb cc : Bool} {s r : Value} {z y : Int} (hI : IntB t w1 (.agg #[.bool bb, s]) z k) (hJ : IntB t w1 (.agg #[.bool cc, r]) y j) (hs : Slot w1 b t1 2) (hr : Slot w1 c t2 2) (h1 : t1 ≠ t) (h2 : t2 ≠ t)
    (hB : Below w0.heap.size w0 w1) (hb : w0.heap.size ≤ b) (hc : w0.heap.size ≤ c) (hne : b ≠ c) {W : World} (hW : W = (((w1.setCell ⟨b, 0, none⟩ (.bool bb)).setCell ⟨b, 1, none⟩ s).setCell ⟨c, 0, none⟩ (.bool cc)).setCell ⟨c, 1, none⟩ r) :
    IntB t W (.agg #[.bool bb, s]) z k ∧ IntB t W (.agg #[.bool cc, r]) y j ∧ Below w0.heap.size w0 W ∧
      W.cell? ⟨b, 0, none⟩ = some (.bool bb) ∧ W.cell? ⟨b, 1, none⟩ = some s ∧ W.cell? ⟨c, 0, none⟩ = some (.bool cc) ∧ W.cell? ⟨c, 1, none⟩ = some r := by
  subst hW
  have hr2 := (hr.set b 0 (.bool bb)).set b 1 s
  have e := hs.set2 (.bool bb) s
  have e2 := hr2.set2 (.bool cc) r
  refine ⟨(((hI.slot hs h1 0 _).slot (hs.set b 0 _) h1 1 _).slot hr2 h2 0 _).slot (hr2.set c 0 _) h2 1 _, (((hJ.slot hs h1 0 _).slot (hs.set b 0 _) h1 1 _).slot hr2 h2 0 _).slot (hr2.set c 0 _) h2 1 _, bel_set2 (bel_set2 hB hb hb) hc hc, ?_, ?_, e2.1, e2.2⟩
  · exact cell_set (cell_set e.1 hne) hne
  · exact cell_set (cell_set e.2 hne) hne

theorem NatB.slot {t tt : TypeId} {w : World} {v : Value} {m k b n : Nat} (h : NatB tt w v m k) (hs : Slot w b t n) (ht : t ≠ tt) (o : Nat) (u : Value) : NatB tt (w.setCell ⟨b, o, none⟩ u) v m k :=
  let ⟨_, _, hk⟩ := hs; ⟨h.1.setOther (a := ⟨b, o, none⟩) hk ht u, h.2⟩
/-- Two naturals that are stored and told. -/
theorem fin_nat2 {t t1 t2 : TypeId} {w0 w1 : World} {b c k j m n : Nat} {s r : Value} (hI : NatB t w1 (.agg #[s]) m k) (hJ : NatB t w1 (.agg #[r]) n j) (hs : Slot w1 b t1 1) (hr : Slot w1 c t2 1) (h1 : t1 ≠ t) (h2 : t2 ≠ t)
    (hB : Below w0.heap.size w0 w1) (hb : w0.heap.size ≤ b) (hc : w0.heap.size ≤ c) (hne : b ≠ c) {W : World} (hW : W = (w1.setCell ⟨b, 0, none⟩ s).setCell ⟨c, 0, none⟩ r) :
    NatB t W (.agg #[s]) m k ∧ NatB t W (.agg #[r]) n j ∧ Below w0.heap.size w0 W ∧ W.cell? ⟨b, 0, none⟩ = some s ∧ W.cell? ⟨c, 0, none⟩ = some r := by
  subst hW
  have hr2 := hr.set b 0 s
  exact ⟨(hI.slot hs h1 0 _).slot hr2 h2 0 _, (hJ.slot hs h1 0 _).slot hr2 h2 0 _, bel_set2 hB hb hc, cell_set (hs.set1 s) hne, hr2.set1 r⟩
theorem NatB.shape2 {t : TypeId} {w : World} {v : Value} {n k : Nat} (h : NatB t w v n k) : ∃ ad len cap, v = .agg #[.slice ad len cap] := let ⟨ad, len, cap, e, _⟩ := h.shape; ⟨ad, len, cap, e⟩

end Cin
/- Contracts of whole's isZero, fresh, signed. -/
namespace Go.Proofs.YtfohgkabmdhhaaaGreatDoor
open Go.RowKit Cin

set_option maxHeartbeats 400000 in
/-- isZero: is it 0? -/
theorem isZero_any (v : Value) (n k : Nat) (w : World) (h : NatB 146 w v n k) (hk : k ≤ 10000000) :
    Calls Tryz.prog 144 #[v] w fun e w' => e = .returned (.bool (decide (n = 0))) ∧ Below w.heap.size w w' := by
  obtain ⟨ad, len, cap, rfl, hr⟩ := h.shape
  have H := Lib.hid h
  clear h hr
  go_enter Tryz.func144, Tryz.ntmps144
  go_wp2_with fail
  refine (bits_any _ n k _ (H.out.1.below (bel_alloc _ _)) H.out.2 (by omega)).mono ?_
  rintro e w1 ⟨j, rfl, hj, hb⟩
  have he : ((j : Int) == 0) = decide (n = 0) := by
    by_cases h0 : n = 0
    · subst h0
      rw [hj.unique IsBl.zero]; rfl
    · rw [decide_eq_false h0, beq_eq_false_iff_ne]
      intro e
      have := hj.1
      rw [show j = 0 by omega] at this
      omega
  have HB := Lib.hid (bel_on (bel_alloc _ _) hb)
  clear hb hj
  go_wp2
  go_ret
  exact ⟨rfl, HB.out⟩

theorem addB (v u : Value) (x y a b : Nat) (w : World) (h : NatB 146 w v x a) (h' : NatB 146 w u y b) (ha : a ≤ 10000000) (hb : b ≤ 10000000) :
    Calls Tryz.prog 156 #[v, u] w fun e w' => ∃ v', e = .returned v' ∧ NatB 146 w' v' (x + y) (a + b + 1) ∧ Below w.heap.size w w' :=
  (add_any v u x y (a + b) w h.1 h'.1 (lt_pw_mono h.2 (by omega)) (lt_pw_mono h'.2 (by omega)) (by omega)).mono fun _ _ ⟨v', e, hn, hw⟩ => ⟨v', e, ⟨hn, by have := pw_big a b; have := h.2; have := h'.2; omega⟩, hw⟩
theorem mulB (v u : Value) (x y a b : Nat) (w : World) (h : NatB 146 w v x a) (h' : NatB 146 w u y b) (ha : a ≤ 10000000) (hb : b ≤ 10000000) :
    Calls Tryz.prog 139 #[v, u] w fun e w' => ∃ v', e = .returned v' ∧ NatB 146 w' v' (x * y) (a + b) ∧ Below w.heap.size w w' :=
  (mul_any v u x y (a + b) w h.1 h'.1 (lt_pw_mono h.2 (by omega)) (lt_pw_mono h'.2 (by omega)) (by omega)).mono fun _ _ ⟨v', e, hn, hw⟩ => ⟨v', e, ⟨hn, lt_pw_mul h.2 h'.2⟩, hw⟩
theorem subB (v u : Value) (x y a b : Nat) (w : World) (h : NatB 146 w v x a) (h' : NatB 146 w u y b) (ha : a ≤ 10000000) (hb : b ≤ 10000000) (hle : y ≤ x) :
    Calls Tryz.prog 168 #[v, u] w fun e w' => ∃ v', e = .returned (.tuple #[v', .bool true]) ∧ NatB 146 w' v' (x - y) a ∧ Below w.heap.size w w' :=
  (sub_any v u x y (a + b) w h.1 h'.1 (lt_pw_mono h.2 (by omega)) (lt_pw_mono h'.2 (by omega)) (by omega) hle).mono fun _ _ ⟨v', e, hn, hw⟩ => ⟨v', e, ⟨hn, by have := h.2; omega⟩, hw⟩
theorem subLessB (v u : Value) (x y a b : Nat) (w : World) (h : NatB 146 w v x a) (h' : NatB 146 w u y b) (ha : a ≤ 10000000) (hb : b ≤ 10000000) (hlt : x < y) :
    Calls Tryz.prog 168 #[v, u] w fun e w' => e = .returned (.tuple #[.agg #[.slice none 0 0], .bool false]) ∧ Below w.heap.size w w' :=
  sub_less v u x y (a + b) w h.1 h'.1 (lt_pw_mono h.2 (by omega)) (lt_pw_mono h'.2 (by omega)) (by omega) hlt
theorem cmpB (v u : Value) (x y a b : Nat) (w : World) (h : NatB 146 w v x a) (h' : NatB 146 w u y b) (ha : a ≤ 10000000) (hb : b ≤ 10000000) :
    Calls Tryz.prog 143 #[v, u] w fun e w' => e = .returned (.int .i64 (cmpI x y)) ∧ Below w.heap.size w w' :=
  cmp_any v u x y (a + b) w h.1 h'.1 (lt_pw_mono h.2 (by omega)) (lt_pw_mono h'.2 (by omega)) (by omega)
theorem ofB (v : Nat) (w : World) (hv : v < 18446744073709551616) :
    Calls Tryz.prog 141 #[.int .u64 v] w fun e w' => ∃ v', e = .returned v' ∧ NatB 146 w' v' v 2 ∧ Below w.heap.size w w' :=
  (of_any v w hv).mono fun _ _ ⟨v', e, hn, hw⟩ => ⟨v', e, ⟨hn, hv⟩, hw⟩

set_option maxHeartbeats 400000 in
/-- fresh: the same number in memory of its own. -/
theorem fresh_any (v : Value) (n k : Nat) (w : World) (h : NatB 146 w v n k) (hk : k ≤ 10000000) :
    Calls Tryz.prog 140 #[v] w fun e w' => ∃ v', e = .returned v' ∧ NatB 146 w' v' n k ∧ Below w.heap.size w w' := by
  obtain ⟨ad, len, cap, rfl, hr⟩ := h.shape
  have H := Lib.hid h
  clear h hr
  go_enter Tryz.func140, Tryz.ntmps140
  go_wp2_with fail
  refine (addB _ _ n 0 k 0 _ (H.out.below (bel_alloc2 _ _ _)) ⟨NatV.zero _ _, by decide⟩ hk (by decide)).mono ?_
  rintro e w1 ⟨v1, rfl, hn, hb⟩
  obtain ⟨ad1, len1, cap1, rfl, hr⟩ := hn.shape
  have hh := (heldN2 (w := w)).below hb
  have hc := cell0 hh.2.1
  have hf := free_of hh.2.1 0
  have HR := Lib.hid (fin_nat (tn := 27) (bel_on (bel_alloc2 _ _ _) hb) hh.2.1 (by decide) hr (by omega) 0)
  clear hb hn hr hh
  go_wp2
  refine bodyPost_ret (v := .agg #[.slice ad1 len1 cap1]) (by simp [results, Tryz.results140, go_sem, World.cell?_setCell_same _ _ _ hc]) rfl ⟨_, rfl, ?_⟩
  exact ⟨⟨HR.out.1, H.out.2⟩, HR.out.2⟩

set_option maxRecDepth 100000 in
set_option maxHeartbeats 800000 in
/-- signed: with a sign. -/
theorem signed_any (b : Bool) (v : Value) (n k : Nat) (w : World) (h : NatB 146 w v n k) (hk : k ≤ 10000000) :
    Calls Tryz.prog 138 #[.bool b, v] w fun e w' => ∃ v', e = .returned v' ∧ IntB 146 w' v' (sg b n) k ∧ Below w.heap.size w w' := by
  obtain ⟨ad, len, cap, rfl, hr⟩ := h.shape
  have H := Lib.hid h
  clear h hr
  go_enter Tryz.func138, Tryz.ntmps138
  go_wp2_with fail
  have hh := heldN2 (w := w) (c0 := #[Value.slice ad len cap]) (t0 := 27) (c1 := #[Value.bool false, Value.slice none 0 0]) (t1 := 29)
  have hbX := bel_alloc2 w (Obj.cells #[Value.slice ad len cap] 27) (Obj.cells #[Value.bool false, Value.slice none 0 0] 29)
  have hsX : w.heap.size + 1 < ((w.alloc (Obj.cells #[Value.slice ad len cap] 27)).alloc (Obj.cells #[Value.bool false, Value.slice none 0 0] 29)).heap.size := by simp
  generalize (w.alloc (Obj.cells #[Value.slice ad len cap] 27)).alloc (Obj.cells #[Value.bool false, Value.slice none 0 0] 29) = X at *
  have hc0 := cell0 hh.1
  have HSL := Lib.hid (Slot.of (n := 2) hh.2.1 rfl)
  have HX := Lib.hid (H.out.below hbX)
  have HBX := Lib.hid hbX
  clear hh hbX
  have HR0 := Lib.hid (show RefV 146 w (.slice ad len cap) n from by obtain ⟨s, e, hs⟩ := H.out.1; injection e with e; injection e with e; simp only [List.cons.injEq, and_true] at e; rw [e]; exact hs)
  cases b
  ·
    refine wp_region_sched (fun w' => w'.cell? ⟨w.heap.size, 0, none⟩ = some (.slice ad len cap) ∧ Slot w' (w.heap.size + 1) 29 2 ∧ Below w.heap.size w w') [(0, true), (1, true), (2, true), (6, true), (3, false), (4, true), (5, true), (7, true), (8, false)] (by kernel_rfl) (by kernel_rfl) ?_ (fun hHeld => ?_)
    · (try dsimp only)
      exact ⟨hc0, HSL.out.drew, HBX.out.drew⟩
    try dsimp only at hHeld
    repeat (refine wpSched_at (by simp only [List.getElem?_toArray, List.getElem?_cons_zero, List.getElem?_cons_succ]; rfl) ?_; (first | (apply wpAt_take rfl; (intro wx hSx; (try dsimp only at hSx); go_simp; (try with_reducible rfl)); simp only [Act.put, List.setIfInBounds_toArray, List.set_cons_zero, List.set_cons_succ]) | (refine wpAt_skip rfl ?_; simp only [Act.put, List.setIfInBounds_toArray, List.set_cons_zero, List.set_cons_succ]) | (refine wpAt_pass rfl hHeld ?_; simp only [Act.put, List.setIfInBounds_toArray, List.set_cons_zero, List.set_cons_succ]) | (refine wpAt_eff rfl (fun K hK => ?_); ((obtain ⟨x0, y0, hx0, hy0, hfx0, hfy0⟩ := hHeld.2.1.two); (try simp only [cell_drew, frozen_drew] at hx0 hy0 hfx0 hfy0)); go_simp; (first | (try simp only [cell_drew, slot_drew, below_drew] at hHeld)); (refine hK.out _ _ ?_ (fun hHeld => ?_)); ((try dsimp only); ((try simp only [cell_drew, slot_drew, below_drew]); refine ⟨?_, ?_, ?_⟩; (first | exact hS.2.1 | with_reducible exact cell_set hHeld.1 (by omega) | with_reducible exact cell_set (cell_set hHeld.1 (by omega)) (by omega)); (first | exact hS.2.2.1 | with_reducible exact hHeld.2.1.set _ _ _ | with_reducible exact (hHeld.2.1.set _ _ _).set _ _ _); (first | exact hS.2.2.2 | with_reducible exact bel_set1 hHeld.2.2 (by omega) | with_reducible exact bel_set2 hHeld.2.2 (by omega) (by omega)))); clear hK K; (try clear hS); (try clear hfx0 hx0 x0); (try clear hfy0 hy0 y0); (try clear hfx1 hx1 x1); (try clear hfy1 hy1 y1); (try dsimp only at hHeld))))
    refine wpSched_nil ?_
    go_wp2_with fail
    obtain ⟨hr0, hr1⟩ := HSL.out.set2 (.bool false) (.slice ad len cap)
    have hrf := ((HR0.out.below HBX.out).slot HSL.out (by decide) 0 (.bool false)).slot (HSL.out.set (w.heap.size + 1) 0 _) (by decide) 1 (.slice ad len cap)
    refine bodyPost_ret (v := .agg #[.bool false, .slice ad len cap]) (by simp [results, Tryz.results138, go_sem, hr0, hr1]) rfl ⟨_, rfl, intB_of hrf H.out.2 (by simp), hHeld.2.2⟩
  ·
    refine wp_region_sched (fun w' => w'.cell? ⟨w.heap.size, 0, none⟩ = some (.slice ad len cap) ∧ Slot w' (w.heap.size + 1) 29 2 ∧ Below w.heap.size w w') [(0, true), (1, true), (2, true), (6, true), (3, false), (4, true), (5, true), (7, true), (8, false)] (by kernel_rfl) (by kernel_rfl) ?_ (fun hHeld => ?_)
    · (try dsimp only)
      exact ⟨hc0, HSL.out.drew, HBX.out.drew⟩
    try dsimp only at hHeld
    repeat (refine wpSched_at (by simp only [List.getElem?_toArray, List.getElem?_cons_zero, List.getElem?_cons_succ]; rfl) ?_; (first | (apply wpAt_take rfl; (intro wx hSx; (try dsimp only at hSx); go_simp; (try with_reducible rfl)); simp only [Act.put, List.setIfInBounds_toArray, List.set_cons_zero, List.set_cons_succ]) | (refine wpAt_skip rfl ?_; simp only [Act.put, List.setIfInBounds_toArray, List.set_cons_zero, List.set_cons_succ]) | (refine wpAt_pass rfl hHeld ?_; simp only [Act.put, List.setIfInBounds_toArray, List.set_cons_zero, List.set_cons_succ]) | (refine wpAt_eff rfl (fun K hK => ?_); ((obtain ⟨x0, y0, hx0, hy0, hfx0, hfy0⟩ := hHeld.2.1.two); (try simp only [cell_drew, frozen_drew] at hx0 hy0 hfx0 hfy0)); go_simp; (first | (go_at_call 144; (with_reducible refine (isZero_any (.agg #[.slice ad len cap]) n k _ ?_ hk).mono ?_); (exact H.out.below hHeld.2.2); rintro e w' ⟨rfl, hb⟩; have hS := And.intro trivial (And.intro (cell_below hHeld.1 hb) (And.intro (hHeld.2.1.below hb) (bel_on hHeld.2.2 hb))); clear hb hHeld) | (try simp only [cell_drew, slot_drew, below_drew] at hHeld)); (refine hK.out _ _ ?_ (fun hHeld => ?_)); ((try dsimp only); ((try simp only [cell_drew, slot_drew, below_drew]); refine ⟨?_, ?_, ?_⟩; (first | exact hS.2.1 | with_reducible exact cell_set hHeld.1 (by omega) | with_reducible exact cell_set (cell_set hHeld.1 (by omega)) (by omega)); (first | exact hS.2.2.1 | with_reducible exact hHeld.2.1.set _ _ _ | with_reducible exact (hHeld.2.1.set _ _ _).set _ _ _); (first | exact hS.2.2.2 | with_reducible exact bel_set1 hHeld.2.2 (by omega) | with_reducible exact bel_set2 hHeld.2.2 (by omega) (by omega)))); clear hK K; (try clear hS); (try clear hfx0 hx0 x0); (try clear hfy0 hy0 y0); (try clear hfx1 hx1 x1); (try clear hfy1 hy1 y1); (try dsimp only at hHeld))))
    refine wpSched_nil ?_
    rename_i hOld
    go_wp2_with fail
    obtain ⟨hr0, hr1⟩ := hOld.2.1.set2 (.bool (!decide (n = 0))) (.slice ad len cap)
    have hrf := ((HR0.out.below hOld.2.2).slot hOld.2.1 (by decide) 0 (.bool (!decide (n = 0)))).slot (hOld.2.1.set (w.heap.size + 1) 0 _) (by decide) 1 (.slice ad len cap)
    refine bodyPost_ret (v := .agg #[.bool (!decide (n = 0)), .slice ad len cap]) (by simp [results, Tryz.results138, go_sem, hr0, hr1]) rfl ⟨_, rfl, intB_of hrf H.out.2 (by simp), hHeld.2.2⟩

end Go.Proofs.YtfohgkabmdhhaaaGreatDoor
/- Contracts of whole's From, Abs, Sign, Neg, Cmp, Of. -/
namespace Go.Proofs.YtfohgkabmdhhaaaGreatDoor
open Go.RowKit Cin

set_option maxHeartbeats 800000 in
/-- From: a, or less than 0 by a. -/
theorem from_any (b : Bool) (v : Value) (n k : Nat) (w : World) (h : NatB 146 w v n k) (hk : k ≤ 10000000) :
    Calls Tryz.prog 133 #[.bool b, v] w fun e w' => ∃ v', e = .returned v' ∧ IntB 146 w' v' (sg b n) k ∧ Below w.heap.size w w' := by
  obtain ⟨ad, len, cap, rfl, hr⟩ := h.shape
  have H := Lib.hid h
  clear h hr
  go_enter Tryz.func133, Tryz.ntmps133
  go_wp2_with fail
  refine (fresh_any _ n k _ (H.out.below (bel_alloc2 _ _ _)) hk).mono ?_
  rintro e w1 ⟨v1, rfl, hn1, hb1⟩
  have HN1 := Lib.hid hn1
  have HB1 := Lib.hid hb1
  clear hn1 hb1
  go_wp2_with fail
  refine (signed_any b v1 n k _ HN1.out hk).mono ?_
  rintro e w2 ⟨v2, rfl, hn2, hb2⟩
  obtain ⟨bbR, adR, lenR, capR, rfl, hrR⟩ := hn2.shape2
  have hslR := (Slot.of (n := 2) (((heldN2 (w := w)).below HB1.out).below hb2).2.1 rfl)
  obtain ⟨xR, yR, hxR, hyR, hfxR, hfyR⟩ := hslR.two
  have HRR := Lib.hid (fin_int hn2 hslR (by decide) (bel_on (bel_on (bel_alloc2 _ _ _) HB1.out) hb2) (by omega))
  clear hrR hslR hn2 hb2
  go_wp2
  refine bodyPost_ret (v := .agg #[.bool bbR, .slice adR lenR capR]) (by simp [results, Tryz.results133, go_sem, HRR.out.2.2.1, HRR.out.2.2.2]) rfl (⟨_, rfl, HRR.out.1, HRR.out.2.1⟩)

set_option maxHeartbeats 800000 in
/-- Abs: without its sign. -/
theorem abs_any (v : Value) (z : Int) (k : Nat) (w : World) (h : IntB 146 w v z k) (hk : k ≤ 10000000) :
    Calls Tryz.prog 135 #[v] w fun e w' => ∃ v', e = .returned v' ∧ NatB 146 w' v' z.natAbs k ∧ Below w.heap.size w w' := by
  obtain ⟨ad, len, cap, rfl, hr⟩ := h.shape
  have H := Lib.hid h.part.1
  clear h hr
  go_enter Tryz.func135, Tryz.ntmps135
  go_wp2_with fail
  refine (fresh_any _ z.natAbs k _ (H.out.below (bel_alloc2 _ _ _)) hk).mono ?_
  rintro e w1 ⟨v1, rfl, hn1, hb1⟩
  obtain ⟨ad1, len1, cap1, rfl, hr⟩ := hn1.shape
  have hh := (heldN2 (w := w)).below hb1
  have hc := cell0 hh.2.1
  have hf := free_of hh.2.1 0
  have HR := Lib.hid (fin_nat (tn := 27) (bel_on (bel_alloc2 _ _ _) hb1) hh.2.1 (by decide) hr (by omega) 0)
  clear hb1 hn1 hr hh
  go_wp2
  refine bodyPost_ret (v := .agg #[.slice ad1 len1 cap1]) (by simp [results, Tryz.results135, go_sem, World.cell?_setCell_same _ _ _ hc]) rfl ⟨_, rfl, ?_⟩
  exact ⟨⟨HR.out.1, H.out.2⟩, HR.out.2⟩

set_option maxHeartbeats 800000 in
/-- Sign: -1, 0, 1. -/
theorem sign_any (v : Value) (z : Int) (k : Nat) (w : World) (h : IntB 146 w v z k) (hk : k ≤ 10000000) :
    Calls Tryz.prog 103 #[v] w fun e w' => e = .returned (.int .i64 (sgnZ z)) ∧ Below w.heap.size w w' := by
  obtain ⟨ad, len, cap, rfl, hr⟩ := h.shape
  have H := Lib.hid h.part.1
  clear h hr
  by_cases hz : z < 0
  · have hd : decide (z < 0) = true := decide_eq_true hz
    rw [hd, show sgnZ z = -1 by unfold sgnZ; rw [if_pos hz]]
    clear hd
    go_enter Tryz.func103, Tryz.ntmps103
    go_wp2_with fail
    go_ret
    exact ⟨rfl, bel_alloc _ _⟩
  · have hd : decide (z < 0) = false := decide_eq_false hz
    rw [hd]
    clear hd
    go_enter Tryz.func103, Tryz.ntmps103
    go_wp2_with fail
    refine (isZero_any _ z.natAbs k _ (H.out.below (bel_alloc _ _)) hk).mono ?_
    rintro e w1 ⟨rfl, hb⟩
    have HB := Lib.hid (bel_on (bel_alloc _ _) hb)
    clear hb
    by_cases h0 : z = 0
    · have hd : decide (z.natAbs = 0) = true := decide_eq_true (by omega)
      rw [hd]
      clear hd
      go_wp2_with fail
      go_ret
      exact ⟨ret_int (by unfold sgnZ; rw [if_neg (by omega), if_neg (by omega)]), HB.out⟩
    · have hd : decide (z.natAbs = 0) = false := decide_eq_false (by omega)
      rw [hd]
      clear hd
      go_wp2_with fail
      go_ret
      exact ⟨ret_int (by unfold sgnZ; rw [if_neg (by omega), if_pos (by omega)]), HB.out⟩

theorem sg_not (z : Int) : sg (!decide (z < 0)) z.natAbs = -z := by unfold sg; by_cases h : z < 0 <;> simp [h] <;> omega

set_option maxRecDepth 100000 in
set_option maxHeartbeats 800000 in
/-- Neg: the sign turned. -/
theorem neg_any (v : Value) (z : Int) (k : Nat) (w : World) (h : IntB 146 w v z k) (hk : k ≤ 10000000) :
    Calls Tryz.prog 100 #[v] w fun e w' => ∃ v', e = .returned v' ∧ IntB 146 w' v' (-z) k ∧ Below w.heap.size w w' := by
  obtain ⟨ad, len, cap, rfl, hr⟩ := h.shape
  have H := Lib.hid h.part.1
  clear h hr
  generalize hbz : decide (z < 0) = bz
  have HSG := Lib.hid (show sg (!bz) z.natAbs = -z by rw [← hbz]; exact sg_not z)
  clear hbz
  go_enter Tryz.func100, Tryz.ntmps100
  go_wp2_with fail
  have hh := heldN2 (w := w) (c0 := #[Value.bool bz, Value.slice ad len cap]) (t0 := 29) (c1 := #[Value.bool false, Value.slice none 0 0]) (t1 := 29)
  have hbX := bel_alloc2 w (Obj.cells #[Value.bool bz, Value.slice ad len cap] 29) (Obj.cells #[Value.bool false, Value.slice none 0 0] 29)
  generalize (w.alloc (Obj.cells #[Value.bool bz, Value.slice ad len cap] 29)).alloc (Obj.cells #[Value.bool false, Value.slice none 0 0] 29) = X at *
  have hc0 := cell0 hh.1
  have hc1 := cell1 hh.1
  have HSL := Lib.hid (Slot.of (n := 2) hh.2.1 rfl)
  have HBX := Lib.hid hbX
  clear hh hbX
  refine wp_region_sched (fun w' => w'.cell? ⟨w.heap.size, 0, none⟩ = some (.bool bz) ∧ w'.cell? ⟨w.heap.size, 1, none⟩ = some (.slice ad len cap) ∧ Slot w' (w.heap.size + 1) 29 2 ∧ Below w.heap.size w w') [(0, true), (1, true), (2, true), (3, true), (4, true), (5, false), (6, false), (7, false)] (by kernel_rfl) (by kernel_rfl) ?_ (fun hHeld => ?_)
  · (try dsimp only)
    exact ⟨hc0, hc1, HSL.out.drew, HBX.out.drew⟩
  try dsimp only at hHeld
  repeat (refine wpSched_at (by simp only [List.getElem?_toArray, List.getElem?_cons_zero, List.getElem?_cons_succ]; rfl) ?_; (first | (apply wpAt_take rfl; (intro wx hSx; (try dsimp only at hSx); go_simp; (try with_reducible rfl)); simp only [Act.put, List.setIfInBounds_toArray, List.set_cons_zero, List.set_cons_succ]) | (refine wpAt_skip rfl ?_; simp only [Act.put, List.setIfInBounds_toArray, List.set_cons_zero, List.set_cons_succ]) | (refine wpAt_pass rfl hHeld ?_; simp only [Act.put, List.setIfInBounds_toArray, List.set_cons_zero, List.set_cons_succ]) | (refine wpAt_eff rfl (fun K hK => ?_); ((obtain ⟨x0, y0, hx0, hy0, hfx0, hfy0⟩ := hHeld.2.2.1.two); (try simp only [cell_drew, frozen_drew] at hx0 hy0 hfx0 hfy0)); go_simp; (first | (go_at_call 140; (with_reducible refine (fresh_any (.agg #[.slice ad len cap]) z.natAbs k _ ?_ hk).mono ?_); (exact H.out.below hHeld.2.2.2); rintro e w' ⟨vf, rfl, hn, hb⟩; (try replace NF := Lib.hid (NF.out.below hb)); have NF := Lib.hid hn; have hS := And.intro trivial (And.intro (cell_below hHeld.1 hb) (And.intro (cell_below hHeld.2.1 hb) (And.intro (hHeld.2.2.1.below hb) (bel_on hHeld.2.2.2 hb)))); clear hb hHeld hn) | (go_at_call 138; (with_reducible refine (signed_any (!bz) vf z.natAbs k _ ?_ hk).mono ?_); (exact NF.out); rintro e w' ⟨vs, rfl, hn, hb⟩; (try replace NF := Lib.hid (NF.out.below hb)); have NS := Lib.hid hn; (rw [HSG.out] at NS); obtain ⟨bbR, adR, lenR, capR, rfl, hrR⟩ := NS.out.shape2; have hS := And.intro trivial (And.intro (cell_below hHeld.1 hb) (And.intro (cell_below hHeld.2.1 hb) (And.intro (hHeld.2.2.1.below hb) (bel_on hHeld.2.2.2 hb)))); clear hb hHeld hn) | (try simp only [cell_drew, slot_drew, below_drew] at hHeld)); (refine hK.out _ _ ?_ (fun hHeld => ?_)); ((try dsimp only); ((try simp only [cell_drew, slot_drew, below_drew]); refine ⟨?_, ?_, ?_, ?_⟩; (first | exact hS.2.1 | with_reducible exact cell_set hHeld.1 (by omega) | with_reducible exact cell_set (cell_set hHeld.1 (by omega)) (by omega)); (first | exact hS.2.2.1 | with_reducible exact cell_set hHeld.2.1 (by omega) | with_reducible exact cell_set (cell_set hHeld.2.1 (by omega)) (by omega)); (first | exact hS.2.2.2.1 | with_reducible exact hHeld.2.2.1.set _ _ _ | with_reducible exact (hHeld.2.2.1.set _ _ _).set _ _ _); (first | exact hS.2.2.2.2 | with_reducible exact bel_set1 hHeld.2.2.2 (by omega) | with_reducible exact bel_set2 hHeld.2.2.2 (by omega) (by omega)))); clear hK K; (try clear hS); (try clear hfx0 hx0 x0); (try clear hfy0 hy0 y0); (try clear hfx1 hx1 x1); (try clear hfy1 hy1 y1); (try dsimp only at hHeld))))
  refine wpSched_nil ?_
  rename_i hOld
  have HRR := Lib.hid (fin_int NS.out hOld.2.2.1 (by decide) hOld.2.2.2 (by omega))
  clear hOld hHeld 
  go_wp2_with fail
  refine bodyPost_ret (v := .agg #[.bool bbR, .slice adR lenR capR]) (by simp [results, Tryz.results100, go_sem, HRR.out.2.2.1, HRR.out.2.2.2]) rfl (⟨_, rfl, HRR.out.1, HRR.out.2.1⟩)

theorem sg_mul (x y : Int) : sg (decide (x < 0) != decide (y < 0)) (x.natAbs * y.natAbs) = x * y := by
  unfold sg
  rw [← Int.natAbs_mul]
  by_cases hx : x < 0 <;> by_cases hy : y < 0
  · have := Int.mul_nonneg (show 0 ≤ -x by omega) (show 0 ≤ -y by omega)
    rw [Int.neg_mul_neg] at this
    simp [hx, hy]; omega
  · have := Int.mul_nonneg (show 0 ≤ -x by omega) (show 0 ≤ y by omega)
    rw [Int.neg_mul] at this
    simp [hx, hy]; omega
  · have := Int.mul_nonneg (show 0 ≤ x by omega) (show 0 ≤ -y by omega)
    rw [Int.mul_neg] at this
    simp [hx, hy]; omega
  · have := Int.mul_nonneg (show 0 ≤ x by omega) (show 0 ≤ y by omega)
    simp [hx, hy]; omega

set_option maxRecDepth 100000 in
set_option maxHeartbeats 800000 in
/-- Mul: the product. -/
theorem imul_any (v u : Value) (x y : Int) (k j : Nat) (w : World) (h : IntB 146 w v x k) (h' : IntB 146 w u y j) (hk : k ≤ 5000000) (hj : j ≤ 5000000) :
    Calls Tryz.prog 98 #[v, u] w fun e w' => ∃ v', e = .returned v' ∧ IntB 146 w' v' (x * y) (k + j) ∧ Below w.heap.size w w' := by
  obtain ⟨ad, len, cap, rfl, hr⟩ := h.shape
  obtain ⟨ad', len', cap', rfl, hr'⟩ := h'.shape
  have H := Lib.hid h.part.1
  have H' := Lib.hid h'.part.1
  clear h hr h' hr'
  generalize hbx : decide (x < 0) = bx
  generalize hby : decide (y < 0) = bz
  have HSG := Lib.hid (show sg (!(bx == bz)) (x.natAbs * y.natAbs) = x * y by rw [← hbx, ← hby]; exact sg_mul x y)
  have hkj : k + j ≤ 10000000 := by omega
  clear hbx hby
  go_enter Tryz.func98, Tryz.ntmps98
  go_wp2_with fail
  have hh := heldN3 (w := w) (c0 := #[Value.bool bx, Value.slice ad len cap]) (t0 := 29) (c1 := #[Value.bool bz, Value.slice ad' len' cap']) (t1 := 29) (c2 := #[Value.bool false, Value.slice none 0 0]) (t2 := 29)
  have hbX := bel_alloc3 w (Obj.cells #[Value.bool bx, Value.slice ad len cap] 29) (Obj.cells #[Value.bool bz, Value.slice ad' len' cap'] 29) (Obj.cells #[Value.bool false, Value.slice none 0 0] 29)
  generalize ((w.alloc (Obj.cells #[Value.bool bx, Value.slice ad len cap] 29)).alloc (Obj.cells #[Value.bool bz, Value.slice ad' len' cap'] 29)).alloc (Obj.cells #[Value.bool false, Value.slice none 0 0] 29) = X at *
  have hc0 := cell0 hh.1
  have hc1 := cell1 hh.1
  have hd0 := cell0 hh.2.1
  have hd1 := cell1 hh.2.1
  have HSL := Lib.hid (Slot.of (n := 2) hh.2.2.1 rfl)
  have HBX := Lib.hid hbX
  clear hh hbX
  refine wp_region_sched (fun w' => w'.cell? ⟨w.heap.size, 0, none⟩ = some (.bool bx) ∧ w'.cell? ⟨w.heap.size, 1, none⟩ = some (.slice ad len cap) ∧ w'.cell? ⟨w.heap.size + 1, 0, none⟩ = some (.bool bz) ∧ w'.cell? ⟨w.heap.size + 1, 1, none⟩ = some (.slice ad' len' cap') ∧ Slot w' (w.heap.size + 1 + 1) 29 2 ∧ Below w.heap.size w w') [(0, true), (1, true), (2, true), (3, true), (4, true), (5, true), (6, true), (7, true), (8, true), (9, false), (10, false), (11, false)] (by kernel_rfl) (by kernel_rfl) ?_ (fun hHeld => ?_)
  · (try dsimp only)
    exact ⟨hc0, hc1, hd0, hd1, HSL.out.drew, HBX.out.drew⟩
  try dsimp only at hHeld
  repeat (refine wpSched_at (by simp only [List.getElem?_toArray, List.getElem?_cons_zero, List.getElem?_cons_succ]; rfl) ?_; (first | (apply wpAt_take rfl; (intro wx hSx; (try dsimp only at hSx); go_simp; (try with_reducible rfl)); simp only [Act.put, List.setIfInBounds_toArray, List.set_cons_zero, List.set_cons_succ]) | (refine wpAt_skip rfl ?_; simp only [Act.put, List.setIfInBounds_toArray, List.set_cons_zero, List.set_cons_succ]) | (refine wpAt_pass rfl hHeld ?_; simp only [Act.put, List.setIfInBounds_toArray, List.set_cons_zero, List.set_cons_succ]) | (refine wpAt_eff rfl (fun K hK => ?_); ((obtain ⟨x0, y0, hx0, hy0, hfx0, hfy0⟩ := hHeld.2.2.2.2.1.two); (try simp only [cell_drew, frozen_drew] at hx0 hy0 hfx0 hfy0)); go_simp; (first | (go_at_call 139; (with_reducible refine (mulB (.agg #[.slice ad len cap]) (.agg #[.slice ad' len' cap']) x.natAbs y.natAbs k j _ ?_ ?_ (by omega) (by omega)).mono ?_); (exact H.out.below hHeld.2.2.2.2.2); (exact H'.out.below hHeld.2.2.2.2.2); rintro e w' ⟨vf, rfl, hn, hb⟩; (try replace NF := Lib.hid (NF.out.below hb)); have NF := Lib.hid hn; have hS := And.intro trivial (And.intro (cell_below hHeld.1 hb) (And.intro (cell_below hHeld.2.1 hb) (And.intro (cell_below hHeld.2.2.1 hb) (And.intro (cell_below hHeld.2.2.2.1 hb) (And.intro (hHeld.2.2.2.2.1.below hb) (bel_on hHeld.2.2.2.2.2 hb)))))); clear hb hHeld hn) | (go_at_call 138; (with_reducible refine (signed_any (!(bx == bz)) vf (x.natAbs * y.natAbs) (k + j) _ ?_ hkj).mono ?_); (exact NF.out); rintro e w' ⟨vs, rfl, hn, hb⟩; (try replace NF := Lib.hid (NF.out.below hb)); have NS := Lib.hid hn; (rw [HSG.out] at NS); obtain ⟨bbR, adR, lenR, capR, rfl, hrR⟩ := NS.out.shape2; have hS := And.intro trivial (And.intro (cell_below hHeld.1 hb) (And.intro (cell_below hHeld.2.1 hb) (And.intro (cell_below hHeld.2.2.1 hb) (And.intro (cell_below hHeld.2.2.2.1 hb) (And.intro (hHeld.2.2.2.2.1.below hb) (bel_on hHeld.2.2.2.2.2 hb)))))); clear hb hHeld hn) | (try simp only [cell_drew, slot_drew, below_drew] at hHeld)); (refine hK.out _ _ ?_ (fun hHeld => ?_)); ((try dsimp only); ((try simp only [cell_drew, slot_drew, below_drew]); refine ⟨?_, ?_, ?_, ?_, ?_, ?_⟩; (first | exact hS.2.1 | with_reducible exact cell_set hHeld.1 (by omega) | with_reducible exact cell_set (cell_set hHeld.1 (by omega)) (by omega)); (first | exact hS.2.2.1 | with_reducible exact cell_set hHeld.2.1 (by omega) | with_reducible exact cell_set (cell_set hHeld.2.1 (by omega)) (by omega)); (first | exact hS.2.2.2.1 | with_reducible exact cell_set hHeld.2.2.1 (by omega) | with_reducible exact cell_set (cell_set hHeld.2.2.1 (by omega)) (by omega)); (first | exact hS.2.2.2.2.1 | with_reducible exact cell_set hHeld.2.2.2.1 (by omega) | with_reducible exact cell_set (cell_set hHeld.2.2.2.1 (by omega)) (by omega)); (first | exact hS.2.2.2.2.2.1 | with_reducible exact hHeld.2.2.2.2.1.set _ _ _ | with_reducible exact (hHeld.2.2.2.2.1.set _ _ _).set _ _ _); (first | exact hS.2.2.2.2.2.2 | with_reducible exact bel_set1 hHeld.2.2.2.2.2 (by omega) | with_reducible exact bel_set2 hHeld.2.2.2.2.2 (by omega) (by omega)))); clear hK K; (try clear hS); (try clear hfx0 hx0 x0); (try clear hfy0 hy0 y0); (try clear hfx1 hx1 x1); (try clear hfy1 hy1 y1); (try dsimp only at hHeld))))
  refine wpSched_nil ?_
  rename_i hOld
  have HRR := Lib.hid (fin_int NS.out hOld.2.2.2.2.1 (by decide) hOld.2.2.2.2.2 (by omega))
  clear hOld hHeld 
  go_wp2_with fail
  refine bodyPost_ret (v := .agg #[.bool bbR, .slice adR lenR capR]) (by simp [results, Tryz.results98, go_sem, HRR.out.2.2.1, HRR.out.2.2.2]) rfl (⟨_, rfl, HRR.out.1, HRR.out.2.1⟩)

set_option maxHeartbeats 800000 in
/-- Cmp: -1, 0, 1. -/
theorem icmp_any (v u : Value) (x y : Int) (k j : Nat) (w : World) (h : IntB 146 w v x k) (h' : IntB 146 w u y j) (hk : k ≤ 10000000) (hj : j ≤ 10000000) :
    Calls Tryz.prog 102 #[v, u] w fun e w' => e = .returned (.int .i64 (cmpZ x y)) ∧ Below w.heap.size w w' := by
  obtain ⟨ad, len, cap, rfl, hr⟩ := h.shape
  obtain ⟨ad', len', cap', rfl, hr'⟩ := h'.shape
  have H := Lib.hid h.part.1
  have H' := Lib.hid h'.part.1
  clear h hr h' hr'
  by_cases hx : x < 0 <;> by_cases hy : y < 0
  · rw [decide_eq_true hx, decide_eq_true hy]
    go_enter Tryz.func102, Tryz.ntmps102
    go_wp2_with fail
    refine (cmpB _ _ y.natAbs x.natAbs j k _ (H'.out.below (bel_alloc2 _ _ _)) (H.out.below (bel_alloc2 _ _ _)) hj hk).mono ?_
    rintro e w1 ⟨rfl, hb⟩
    have HB := Lib.hid (bel_on (bel_alloc2 _ _ _) hb)
    clear hb
    go_wp2
    go_ret
    refine ⟨ret_int ?_, HB.out⟩
    unfold cmpI cmpZ
    split <;> split <;> (try split) <;> (try split) <;> omega
  · rw [decide_eq_true hx, decide_eq_false hy, show cmpZ x y = -1 by unfold cmpZ; rw [if_pos (by omega)]]
    go_enter Tryz.func102, Tryz.ntmps102
    go_wp2_with fail
    go_ret
    exact ⟨rfl, bel_alloc2 _ _ _⟩
  · rw [decide_eq_false hx, decide_eq_true hy, show cmpZ x y = 1 by unfold cmpZ; rw [if_neg (by omega), if_pos (by omega)]]
    go_enter Tryz.func102, Tryz.ntmps102
    go_wp2_with fail
    go_ret
    exact ⟨rfl, bel_alloc2 _ _ _⟩
  · rw [decide_eq_false hx, decide_eq_false hy]
    go_enter Tryz.func102, Tryz.ntmps102
    go_wp2_with fail
    refine (cmpB _ _ x.natAbs y.natAbs k j _ (H.out.below (bel_alloc2 _ _ _)) (H'.out.below (bel_alloc2 _ _ _)) hk hj).mono ?_
    rintro e w1 ⟨rfl, hb⟩
    have HB := Lib.hid (bel_on (bel_alloc2 _ _ _) hb)
    clear hb
    go_wp2
    go_ret
    refine ⟨ret_int ?_, HB.out⟩
    unfold cmpI cmpZ
    split <;> split <;> (try split) <;> (try split) <;> omega

/-- What join reckons. -/
theorem sg_same {x : Int} {b : Bool} {n : Nat} (h : decide (x < 0) = b) : sg b (x.natAbs + n) = x + sg b n := by
  subst h; unfold sg; by_cases hx : x < 0 <;> simp [hx] <;> omega
theorem sg_left {x : Int} {b : Bool} {n : Nat} (h : decide (x < 0) = !b) (hl : n ≤ x.natAbs) : sg (!b) (x.natAbs - n) = x + sg b n := by
  cases b <;> simp [sg] at h ⊢ <;> omega
theorem sg_right {x : Int} {b : Bool} {n : Nat} (h : decide (x < 0) = !b) (hl : x.natAbs < n) : sg b (n - x.natAbs) = x + sg b n := by
  cases b <;> simp [sg] at h ⊢ <;> omega
theorem eq_not_of_ne {a b : Bool} (h : (a == b) = false) : a = !b := by cases a <;> cases b <;> simp at h ⊢

set_option maxRecDepth 100000 in
set_option maxHeartbeats 1600000 in
/-- join: x and n together, n with a sign. -/
theorem join_any (v u : Value) (x : Int) (n : Nat) (b : Bool) (k j : Nat) (w : World) (h : IntB 146 w v x k) (h' : NatB 146 w u n j) (hk : k ≤ 4000000) (hj : j ≤ 4000000) :
    Calls Tryz.prog 137 #[v, u, .bool b] w fun e w' => ∃ v', e = .returned v' ∧ IntB 146 w' v' (x + sg b n) (k + j + 1) ∧ Below w.heap.size w w' := by
  obtain ⟨ad, len, cap, rfl, hr⟩ := h.shape
  obtain ⟨ad', len', cap', rfl, hr'⟩ := h'.shape
  have H := Lib.hid h.part.1
  have H' := Lib.hid h'
  clear h hr h' hr'
  generalize hbx : decide (x < 0) = bx
  by_cases hs : (bx == b) = true
  · have HSG := Lib.hid (show sg b (x.natAbs + n) = x + sg b n from sg_same (hbx.trans (by simpa using hs)))
    clear hbx
    go_enter Tryz.func137, Tryz.ntmps137
    go_wp2_with fail
    refine (addB _ _ x.natAbs n k j _ (H.out.below (bel_alloc3 _ _ _ _)) (H'.out.below (bel_alloc3 _ _ _ _)) (by omega) (by omega)).mono ?_
    rintro e w1 ⟨v1, rfl, hn1, hb1⟩
    have HN1 := Lib.hid hn1
    have HB1 := Lib.hid hb1
    clear hn1 hb1
    go_wp2_with fail
    refine (signed_any b v1 (x.natAbs + n) (k + j + 1) _ HN1.out (by omega)).mono ?_
    rintro e w2 ⟨v2, rfl, hn2, hb2⟩
    rw [HSG.out] at hn2
    obtain ⟨bbR, adR, lenR, capR, rfl, hrR⟩ := hn2.shape2
    have hslR := (Slot.of (n := 2) (((heldN3 (w := w)).below HB1.out).below hb2).2.2.1 rfl)
    obtain ⟨xR, yR, hxR, hyR, hfxR, hfyR⟩ := hslR.two
    have HRR := Lib.hid (fin_int hn2 hslR (by decide) (bel_on (bel_on (bel_alloc3 _ _ _ _) HB1.out) hb2) (by omega))
    clear hrR hslR hn2 hb2
    go_wp2
    refine bodyPost_ret (v := .agg #[.bool bbR, .slice adR lenR capR]) (by simp [results, Tryz.results137, go_sem, HRR.out.2.2.1, HRR.out.2.2.2]) rfl (⟨_, rfl, HRR.out.1, HRR.out.2.1⟩)
  · have hs' : (bx == b) = false := by simpa using hs
    have hnb := hbx.trans (eq_not_of_ne hs')
    have hbb : bx = !b := eq_not_of_ne hs'
    clear hs hs' hbx
    subst hbb
    have hs' : ((!b) == b) = false := by cases b <;> rfl
    by_cases hl : n ≤ x.natAbs
    · have HSG := Lib.hid (sg_left hnb hl)
      clear hnb
      go_enter Tryz.func137, Tryz.ntmps137
      go_wp2_with fail
      refine (subB _ _ x.natAbs n k j _ (H.out.below (bel_alloc3 _ _ _ _)) (H'.out.below (bel_alloc3 _ _ _ _)) (by omega) (by omega) hl).mono ?_
      rintro e w1 ⟨v1, rfl, hn1, hb1⟩
      obtain ⟨ad1, len1, cap1, rfl, hr1⟩ := hn1.shape
      have hh := ((heldN3 (w := w)).below hb1).new #[Value.slice ad1 len1 cap1] 27
      have hca := cell0 hh.2.1
      have hcc := cell0 hh.1
      have HN1 := Lib.hid (hn1.below (bel_alloc w1 (Obj.cells #[Value.slice ad1 len1 cap1] 27)))
      have HB1 := Lib.hid (bel_on (bel_on (bel_alloc3 _ _ _ _) hb1) (bel_alloc w1 (Obj.cells #[Value.slice ad1 len1 cap1] 27)))
      have HH := Lib.hid hh
      clear hn1 hb1 hr1 hh
      go_wp2_with fail
      refine (signed_any (!b) _ (x.natAbs - n) k _ HN1.out (by omega)).mono ?_
      rintro e w2 ⟨v2, rfl, hn2, hb2⟩
      rw [HSG.out] at hn2
      replace hn2 := hn2.mono (show k ≤ k + j + 1 by omega)
      clear hca hcc
      obtain ⟨bbR, adR, lenR, capR, rfl, hrR⟩ := hn2.shape2
      have hslR := (Slot.of (n := 2) (HH.out.below hb2).2.2.2.1 rfl)
      obtain ⟨xR, yR, hxR, hyR, hfxR, hfyR⟩ := hslR.two
      have HRR := Lib.hid (fin_int hn2 hslR (by decide) (bel_on HB1.out hb2) (by omega))
      clear hrR hslR hn2 hb2
      go_wp2
      refine bodyPost_ret (v := .agg #[.bool bbR, .slice adR lenR capR]) (by simp [results, Tryz.results137, go_sem, HRR.out.2.2.1, HRR.out.2.2.2]) rfl (⟨_, rfl, HRR.out.1, HRR.out.2.1⟩)
    · have hl' : x.natAbs < n := by omega
      have HSG := Lib.hid (sg_right hnb hl')
      clear hnb hl
      go_enter Tryz.func137, Tryz.ntmps137
      go_wp2_with fail
      refine (subLessB _ _ x.natAbs n k j _ (H.out.below (bel_alloc3 _ _ _ _)) (H'.out.below (bel_alloc3 _ _ _ _)) (by omega) (by omega) hl').mono ?_
      rintro e w1 ⟨rfl, hb1⟩
      have hh := ((heldN3 (w := w)).below hb1).new #[Value.slice none 0 0] 27
      have hca := cell0 hh.2.2.1
      have hcc := cell1 hh.2.1
      have HB1 := Lib.hid (bel_on (bel_on (bel_alloc3 _ _ _ _) hb1) (bel_alloc w1 (Obj.cells #[Value.slice none 0 0] 27)))
      have HH := Lib.hid hh
      clear hb1 hh
      go_wp2_with fail
      generalize w1.alloc (Obj.cells #[Value.slice none 0 0] 27) = W1 at *
      refine (subB _ _ n x.natAbs j k _ (H'.out.below HB1.out) (H.out.below HB1.out) (by omega) (by omega) (by omega)).mono ?_
      rintro e w2 ⟨v2, rfl, hn2, hb2⟩
      obtain ⟨ad2, len2, cap2, rfl, hr2⟩ := hn2.shape
      have hh := (HH.out.below hb2).new #[Value.slice ad2 len2 cap2] 27
      have hcc2 := cell0 hh.1
      have HN2 := Lib.hid (hn2.below (bel_alloc w2 (Obj.cells #[Value.slice ad2 len2 cap2] 27)))
      have HB2 := Lib.hid (bel_on (bel_on HB1.out hb2) (bel_alloc w2 (Obj.cells #[Value.slice ad2 len2 cap2] 27)))
      have HH2 := Lib.hid hh
      clear hn2 hb2 hr2 hh hca hcc
      go_wp2_with fail
      refine (signed_any b _ (n - x.natAbs) j _ HN2.out (by omega)).mono ?_
      rintro e w3 ⟨v3, rfl, hn3, hb3⟩
      rw [HSG.out] at hn3
      replace hn3 := hn3.mono (show j ≤ k + j + 1 by omega)
      clear hcc2
      obtain ⟨bbR, adR, lenR, capR, rfl, hrR⟩ := hn3.shape2
      have hslR := (Slot.of (n := 2) (HH2.out.below hb3).2.2.2.2.1 rfl)
      obtain ⟨xR, yR, hxR, hyR, hfxR, hfyR⟩ := hslR.two
      have HRR := Lib.hid (fin_int hn3 hslR (by decide) (bel_on HB2.out hb3) (by omega))
      clear hrR hslR hn3 hb3
      go_wp2
      refine bodyPost_ret (v := .agg #[.bool bbR, .slice adR lenR capR]) (by simp [results, Tryz.results137, go_sem, HRR.out.2.2.1, HRR.out.2.2.2]) rfl (⟨_, rfl, HRR.out.1, HRR.out.2.1⟩)

set_option maxHeartbeats 800000 in
/-- Add: the sum. -/
theorem iadd_any (v u : Value) (x y : Int) (k j : Nat) (w : World) (h : IntB 146 w v x k) (h' : IntB 146 w u y j) (hk : k ≤ 4000000) (hj : j ≤ 4000000) :
    Calls Tryz.prog 97 #[v, u] w fun e w' => ∃ v', e = .returned v' ∧ IntB 146 w' v' (x + y) (k + j + 1) ∧ Below w.heap.size w w' := by
  obtain ⟨bx, ad, len, cap, rfl, hr⟩ := h.shape2
  obtain ⟨by', ad', len', cap', rfl, hr'⟩ := h'.shape2
  have H := Lib.hid h
  have H' := Lib.hid h'.part.1
  have HY := Lib.hid (show sg by' y.natAbs = y by rw [hr'.out]; exact sg_of y)
  clear h hr h' hr'
  go_enter Tryz.func97, Tryz.ntmps97
  go_wp2_with fail
  refine (join_any _ _ x y.natAbs by' k j _ (H.out.below (bel_alloc3 _ _ _ _)) (H'.out.below (bel_alloc3 _ _ _ _)) hk hj).mono ?_
  rintro e w1 ⟨v1, rfl, hn1, hb1⟩
  rw [HY.out] at hn1
  obtain ⟨bbR, adR, lenR, capR, rfl, hrR⟩ := hn1.shape2
  have hslR := (Slot.of (n := 2) ((heldN3 (w := w)).below hb1).2.2.1 rfl)
  obtain ⟨xR, yR, hxR, hyR, hfxR, hfyR⟩ := hslR.two
  have HRR := Lib.hid (fin_int hn1 hslR (by decide) (bel_on (bel_alloc3 _ _ _ _) hb1) (by omega))
  clear hrR hslR hn1 hb1
  go_wp2
  refine bodyPost_ret (v := .agg #[.bool bbR, .slice adR lenR capR]) (by simp [results, Tryz.results97, go_sem, HRR.out.2.2.1, HRR.out.2.2.2]) rfl (⟨_, rfl, HRR.out.1, HRR.out.2.1⟩)

set_option maxHeartbeats 800000 in
/-- Of: a word with a sign. -/
theorem iof_any (z : Int) (w : World) (h0 : -9223372036854775808 ≤ z) (h1 : z < 9223372036854775808) :
    Calls Tryz.prog 104 #[.int .i64 z] w fun e w' => ∃ v', e = .returned v' ∧ IntB 146 w' v' z 2 ∧ Below w.heap.size w w' := by
  by_cases hz : z < 0
  · have hd : decide (z < 0) = true := decide_eq_true hz
    obtain ⟨n, hn⟩ : ∃ n : Nat, z = -(n : Int) ∧ 0 < n ∧ n ≤ 9223372036854775808 := ⟨z.natAbs, by omega, by omega, by omega⟩
    obtain ⟨rfl, hn0, hn1⟩ := hn
    have ew : IntKind.u64.wrap (-IntKind.u64.wrap (-(n : Int))) = (n : Int) := by
      have e1 : IntKind.u64.wrap (-(n : Int)) = 18446744073709551616 - (n : Int) := by rw [IntKind.wrap_u64]; omega
      rw [e1]
      rw [IntKind.wrap_u64]; omega
    have HSG := Lib.hid (show sg true n = -(n : Int) from rfl)
    clear h0 h1 hz
    go_enter Tryz.func104, Tryz.ntmps104
    go_wp2_with fail
    refine (ofB n _ (by omega)).mono ?_
    rintro e w1 ⟨v1, rfl, hn2, hb1⟩
    have HN1 := Lib.hid hn2
    have HB1 := Lib.hid hb1
    clear hn2 hb1 ew
    go_wp2_with fail
    refine (signed_any true v1 n 2 _ HN1.out (by decide)).mono ?_
    rintro e w2 ⟨v2, rfl, hn2, hb2⟩
    rw [HSG.out] at hn2
    obtain ⟨bbR, adR, lenR, capR, rfl, hrR⟩ := hn2.shape2
    have hslR := (Slot.of (n := 2) (((heldN1 (w := w)).below HB1.out).below hb2).1 rfl)
    obtain ⟨xR, yR, hxR, hyR, hfxR, hfyR⟩ := hslR.two
    have HRR := Lib.hid (fin_int hn2 hslR (by decide) (bel_on (bel_on (bel_alloc _ _) HB1.out) hb2) (by omega))
    clear hrR hslR hn2 hb2 hd hn0
    go_wp2
    refine bodyPost_ret (v := .agg #[.bool bbR, .slice adR lenR capR]) (by simp [results, Tryz.results104, go_sem, HRR.out.2.2.1, HRR.out.2.2.2]) rfl (⟨_, rfl, HRR.out.1, HRR.out.2.1⟩)
  · have hd : decide (z < 0) = false := decide_eq_false hz
    obtain ⟨n, rfl⟩ := Int.eq_ofNat_of_zero_le (show 0 ≤ z by omega)
    have HSG := Lib.hid (show sg false n = (n : Int) from rfl)
    clear h0 hz
    go_enter Tryz.func104, Tryz.ntmps104
    go_wp2_with fail
    refine (ofB n _ (by omega)).mono ?_
    rintro e w1 ⟨v1, rfl, hn2, hb1⟩
    have HN1 := Lib.hid hn2
    have HB1 := Lib.hid hb1
    clear hn2 hb1
    go_wp2_with fail
    refine (signed_any false v1 n 2 _ HN1.out (by decide)).mono ?_
    rintro e w2 ⟨v2, rfl, hn2, hb2⟩
    rw [HSG.out] at hn2
    obtain ⟨bbR, adR, lenR, capR, rfl, hrR⟩ := hn2.shape2
    have hslR := (Slot.of (n := 2) (((heldN1 (w := w)).below HB1.out).below hb2).1 rfl)
    obtain ⟨xR, yR, hxR, hyR, hfxR, hfyR⟩ := hslR.two
    have HRR := Lib.hid (fin_int hn2 hslR (by decide) (bel_on (bel_on (bel_alloc _ _) HB1.out) hb2) (by omega))
    clear hrR hslR hn2 hb2 hd
    go_wp2
    refine bodyPost_ret (v := .agg #[.bool bbR, .slice adR lenR capR]) (by simp [results, Tryz.results104, go_sem, HRR.out.2.2.1, HRR.out.2.2.2]) rfl (⟨_, rfl, HRR.out.1, HRR.out.2.1⟩)

end Go.Proofs.YtfohgkabmdhhaaaGreatDoor
