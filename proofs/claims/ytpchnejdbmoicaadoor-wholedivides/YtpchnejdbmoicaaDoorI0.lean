/- Blocks that are held over calls; whole numbers with a sign, and how great they are. No program. -/
import Derived.Test.YtpchnejdbmoicaaDoorDec
namespace Cin
open Go Go.RowKit

/-- Each of these blocks lies at its place: its cells, their type; none is frozen. -/
def Held (w : World) : List (Nat × Array Value × TypeId) → Prop
  | [] => True
  | (b, c, t) :: L => w.heap[b]? = some (.cells c t (0, 0)) ∧ Held w L
theorem Held.below {w w' : World} : ∀ {L : List (Nat × Array Value × TypeId)}, Held w L → Below w.heap.size w w' → Held w' L
  | [], _, _ => trivial
  | (_, _, _) :: _, h, hb => ⟨(hb.block _ (lt_of_heap h.1)).trans h.1, Held.below h.2 hb⟩
theorem Held.drew {w : World} {L : List (Nat × Array Value × TypeId)} (h : Held w L) : Held w.drew L := h.below (Below.refl _ _).drew
theorem Held.new {w : World} {L : List (Nat × Array Value × TypeId)} (h : Held w L) (c : Array Value) (t : TypeId) : Held (w.alloc (.cells c t)) ((w.heap.size, c, t) :: L) :=
  ⟨new_block _ _, h.below (bel_alloc _ _)⟩
section
variable {w : World} {c0 c1 c2 c3 c4 : Array Value} {t0 t1 t2 t3 t4 : TypeId}
theorem heldN1 : Held (w.alloc (.cells c0 t0)) [(w.heap.size, c0, t0)] := ⟨new_block _ _, trivial⟩
theorem heldN2 : Held ((w.alloc (.cells c0 t0)).alloc (.cells c1 t1)) [(w.heap.size, c0, t0), (w.heap.size + 1, c1, t1)] := ⟨new_block2 _ _ _, nb21 _ _ _, trivial⟩
theorem heldN3 : Held (((w.alloc (.cells c0 t0)).alloc (.cells c1 t1)).alloc (.cells c2 t2)) [(w.heap.size, c0, t0), (w.heap.size + 1, c1, t1), (w.heap.size + 1 + 1, c2, t2)] := ⟨new_block3 _ _ _ _, nb31 _ _ _ _, nb32 _ _ _ _, trivial⟩
theorem heldN4 : Held ((((w.alloc (.cells c0 t0)).alloc (.cells c1 t1)).alloc (.cells c2 t2)).alloc (.cells c3 t3)) [(w.heap.size, c0, t0), (w.heap.size + 1, c1, t1), (w.heap.size + 1 + 1, c2, t2), (w.heap.size + 1 + 1 + 1, c3, t3)] := ⟨nb40 _ _ _ _ _, nb41 _ _ _ _ _, nb42 _ _ _ _ _, nb43 _ _ _ _ _, trivial⟩
end
theorem cell_drew (w : World) (a : Addr) : w.drew.cell? a = w.cell? a := rfl
theorem frozen_drew (w : World) (a : Addr) : w.drew.frozen? a = w.frozen? a := rfl
theorem cell_lt {w : World} {b o : Nat} {x : Value} (h : w.cell? ⟨b, o, none⟩ = some x) : b < w.heap.size := by
  rcases Nat.lt_or_ge b w.heap.size with h' | h'
  · exact h'
  · simp [World.cell?, Array.getElem?_eq_none h'] at h
theorem cell_below {w w' : World} {b o : Nat} {x : Value} (h : w.cell? ⟨b, o, none⟩ = some x) (hb : Below w.heap.size w w') : w'.cell? ⟨b, o, none⟩ = some x := by rw [hb.cell (cell_lt h)]; exact h
theorem cell_set {w : World} {b o b' o' : Nat} {x u : Value} (h : w.cell? ⟨b, o, none⟩ = some x) (hb : b ≠ b') : (w.setCell ⟨b', o', none⟩ u).cell? ⟨b, o, none⟩ = some x := by
  rw [World.cell?_setCell_other _ _ _ _ (by intro e; injection e with e1; exact hb e1.symm)]; exact h
theorem below_drew {B : Nat} {w X : World} : Below B w X.drew ↔ Below B w X := ⟨fun h => ⟨h.os, h.tape, h.output, h.size, h.block⟩, fun h => h.drew⟩
theorem bel_set1 {B : Nat} {w X : World} {b o : Nat} {u : Value} (h : Below B w X) (hb : B ≤ b) : Below B w (X.setCell ⟨b, o, none⟩ u) := h.setCell (p := ⟨b, o, none⟩) hb u
theorem bel_set1d {B : Nat} {w X : World} {b o : Nat} {u : Value} (h : Below B w X) (hb : B ≤ b) : Below B w (X.setCell ⟨b, o, none⟩ u).drew := (bel_set1 h hb).drew
theorem bel_set2 {B : Nat} {w X : World} {b o b' o' : Nat} {u u' : Value} (h : Below B w X) (hb : B ≤ b) (hb' : B ≤ b') : Below B w ((X.setCell ⟨b, o, none⟩ u).setCell ⟨b', o', none⟩ u') := bel_set1 (bel_set1 h hb) hb'
theorem bel_set2d {B : Nat} {w X : World} {b o b' o' : Nat} {u u' : Value} (h : Below B w X) (hb : B ≤ b) (hb' : B ≤ b') : Below B w ((X.setCell ⟨b, o, none⟩ u).setCell ⟨b', o', none⟩ u').drew := (bel_set2 h hb hb').drew
theorem cell0 {w : World} {b : Nat} {x : Value} {l : List Value} {t : TypeId} (h : w.heap[b]? = some (.cells (x :: l).toArray t (0, 0))) : w.cell? ⟨b, 0, none⟩ = some x := by rw [cell_of h]; simp
theorem cell1 {w : World} {b : Nat} {x y : Value} {l : List Value} {t : TypeId} (h : w.heap[b]? = some (.cells (x :: y :: l).toArray t (0, 0))) : w.cell? ⟨b, 1, none⟩ = some y := by rw [cell_of h]; simp

/-- A block of so many cells of a type, none frozen, whatever they hold. -/
def Slot (w : World) (b : Nat) (t : TypeId) (n : Nat) : Prop := ∃ c : Array Value, c.size = n ∧ w.heap[b]? = some (.cells c t (0, 0))
section
variable {w w' : World} {b n : Nat} {t : TypeId}
theorem Slot.of {c : Array Value} (h : w.heap[b]? = some (.cells c t (0, 0))) (hn : c.size = n) : Slot w b t n := ⟨c, hn, h⟩
theorem Slot.lt (h : Slot w b t n) : b < w.heap.size := let ⟨_, _, h⟩ := h; lt_of_heap h
theorem Slot.below (h : Slot w b t n) (hb : Below w.heap.size w w') : Slot w' b t n := let ⟨c, hn, h⟩ := h; ⟨c, hn, (hb.block _ (lt_of_heap h)).trans h⟩
theorem Slot.drew (h : Slot w b t n) : Slot w.drew b t n := h
theorem slot_drew : Slot w.drew b t n ↔ Slot w b t n := Iff.rfl
theorem Slot.set (h : Slot w b t n) (b' o : Nat) (u : Value) : Slot (w.setCell ⟨b', o, none⟩ u) b t n := by
  obtain ⟨c, hn, h⟩ := h
  by_cases hb : b' = b
  · subst hb
    have : (w.setCell ⟨b', o, none⟩ u).heap[b']? = some (.cells (c.setIfInBounds o u) t (0, 0)) := by simp [World.setCell, Array.getElem?_modify, h]
    exact ⟨_, by simpa using hn, this⟩
  · exact ⟨c, hn, by rw [Below.heap_setCell _ _ _ _ (show b ≠ b' from Ne.symm hb)]; exact h⟩
theorem Slot.one (h : Slot w b t 1) : ∃ x, w.cell? ⟨b, 0, none⟩ = some x ∧ w.frozen? ⟨b, 0, none⟩ = false := by
  obtain ⟨c, hn, h⟩ := h
  exact ⟨c[0]'(by omega), by rw [cell_of h, Array.getElem?_eq_getElem (by omega)], free_of h 0⟩
theorem Slot.two (h : Slot w b t 2) : ∃ x y, w.cell? ⟨b, 0, none⟩ = some x ∧ w.cell? ⟨b, 1, none⟩ = some y ∧ w.frozen? ⟨b, 0, none⟩ = false ∧ w.frozen? ⟨b, 1, none⟩ = false := by
  obtain ⟨c, hn, h⟩ := h
  exact ⟨c[0]'(by omega), c[1]'(by omega), by rw [cell_of h, Array.getElem?_eq_getElem (by omega)], by rw [cell_of h, Array.getElem?_eq_getElem (by omega)], free_of h 0, free_of h 1⟩
theorem Slot.set2 (h : Slot w b t 2) (u u' : Value) : ((w.setCell ⟨b, 0, none⟩ u).setCell ⟨b, 1, none⟩ u').cell? ⟨b, 0, none⟩ = some u ∧ ((w.setCell ⟨b, 0, none⟩ u).setCell ⟨b, 1, none⟩ u').cell? ⟨b, 1, none⟩ = some u' := by
  obtain ⟨x, y, hx, hy, _⟩ := h.two
  refine ⟨?_, ?_⟩
  · rw [World.cell?_setCell_other _ _ _ _ (by intro e; injection e with _ e2; cases e2)]; exact World.cell?_setCell_same _ _ _ hx
  · refine World.cell?_setCell_same _ _ _ (u := y) ?_
    rw [World.cell?_setCell_other _ _ _ _ (by intro e; injection e with _ e2; cases e2)]; exact hy
theorem Slot.set1 (h : Slot w b t 1) (u : Value) : (w.setCell ⟨b, 0, none⟩ u).cell? ⟨b, 0, none⟩ = some u := by
  obtain ⟨x, hx, _⟩ := h.one
  exact World.cell?_setCell_same _ _ _ hx
theorem RefV.slot {tt : TypeId} {v : Value} {m : Nat} (h : RefV tt w v m) (hs : Slot w b t n) (ht : t ≠ tt) (o : Nat) (u : Value) : RefV tt (w.setCell ⟨b, o, none⟩ u) v m :=
  let ⟨_, _, hk⟩ := hs; h.setOther (a := ⟨b, o, none⟩) hk ht u
end

/-- The number n, below 2 to the 32nd, k times by itself. -/
def NatB (t : TypeId) (w : World) (v : Value) (n k : Nat) : Prop := NatV t w v n ∧ n < pw k
/-- A whole number with a sign: whether it is below 0 (0 is not), and its size. -/
def IntV (t : TypeId) (w : World) (v : Value) (z : Int) : Prop := ∃ s, v = .agg #[.bool (decide (z < 0)), s] ∧ RefV t w s z.natAbs
def IntB (t : TypeId) (w : World) (v : Value) (z : Int) (k : Nat) : Prop := IntV t w v z ∧ z.natAbs < pw k
section
variable {t : TypeId} {w w' : World} {v : Value} {n k : Nat} {z : Int}
theorem NatB.below (h : NatB t w v n k) (hb : Below w.heap.size w w') : NatB t w' v n k := ⟨h.1.below hb, h.2⟩
theorem IntV.below (h : IntV t w v z) (hb : Below w.heap.size w w') : IntV t w' v z := let ⟨s, e, r⟩ := h; ⟨s, e, r.below hb⟩
theorem IntB.below (h : IntB t w v z k) (hb : Below w.heap.size w w') : IntB t w' v z k := ⟨h.1.below hb, h.2⟩
theorem NatB.mono {j : Nat} (h : NatB t w v n k) (hj : k ≤ j) : NatB t w v n j := ⟨h.1, lt_pw_mono h.2 hj⟩
theorem IntB.mono {j : Nat} (h : IntB t w v z k) (hj : k ≤ j) : IntB t w v z j := ⟨h.1, lt_pw_mono h.2 hj⟩
theorem IntV.shape (h : IntV t w v z) : ∃ ad len cap, v = .agg #[.bool (decide (z < 0)), .slice ad len cap] ∧ RefV t w (.slice ad len cap) z.natAbs := by
  obtain ⟨s, rfl, hr⟩ := h
  obtain ⟨ad, len, cap, xs, rfl, _⟩ := hr.shape
  exact ⟨ad, len, cap, rfl, hr⟩
theorem IntB.shape (h : IntB t w v z k) : ∃ ad len cap, v = .agg #[.bool (decide (z < 0)), .slice ad len cap] ∧ RefV t w (.slice ad len cap) z.natAbs := h.1.shape
theorem IntB.shape2 (h : IntB t w v z k) : ∃ bb ad len cap, v = .agg #[.bool bb, .slice ad len cap] ∧ Hid (bb = decide (z < 0)) :=
  let ⟨ad, len, cap, e, _⟩ := h.shape; ⟨_, ad, len, cap, e, Lib.hid rfl⟩
theorem NatB.shape (h : NatB t w v n k) : ∃ ad len cap, v = .agg #[.slice ad len cap] ∧ RefV t w (.slice ad len cap) n := h.1.shape
theorem IntV.zero (t : TypeId) (w : World) : IntV t w (.agg #[.bool false, .slice none 0 0]) 0 := ⟨_, rfl, RefV.zero _ _⟩
theorem IntB.zero (t : TypeId) (w : World) (k : Nat) : IntB t w (.agg #[.bool false, .slice none 0 0]) 0 k := ⟨IntV.zero _ _, pw_pos k⟩
theorem IntB.setOther (h : IntB t w v z k) {t' : TypeId} {a : Addr} {c : Array Value} {f : Nat × Nat} (hb : w.heap[a.block]? = some (.cells c t' f)) (ht : t' ≠ t) (u : Value) : IntB t (w.setCell a u) v z k :=
  let ⟨⟨s, e, r⟩, hk⟩ := h; ⟨⟨s, e, r.setOther hb ht u⟩, hk⟩
theorem IntB.part {ad : Option Addr} {len cap : Nat} {b : Bool} (h : IntB t w (.agg #[.bool b, .slice ad len cap]) z k) : NatB t w (.agg #[.slice ad len cap]) z.natAbs k ∧ b = decide (z < 0) := by
  obtain ⟨⟨s, e, r⟩, hk⟩ := h
  injection e with e
  injection e with e
  simp only [List.cons.injEq, Value.bool.injEq, and_true] at e
  obtain ⟨rfl, rfl⟩ := e
  exact ⟨⟨⟨_, rfl, r⟩, hk⟩, rfl⟩
end

/-- The sign that a number gets: below 0, if that is said and it is not 0. -/
def sg (b : Bool) (n : Nat) : Int := if b then -(n : Int) else n
theorem sg_natAbs (b : Bool) (n : Nat) : (sg b n).natAbs = n := by unfold sg; split <;> simp
theorem sg_neg (b : Bool) (n : Nat) : decide (sg b n < 0) = (b && !decide (n = 0)) := by
  unfold sg
  cases b
  · simp
  · by_cases h : n = 0
    · simp [h]
    · simp [h]; omega
theorem sg_of (z : Int) : sg (decide (z < 0)) z.natAbs = z := by unfold sg; split <;> rename_i h <;> simp at h <;> omega

theorem intB_of {t : TypeId} {w : World} {s : Value} {b bb : Bool} {n k : Nat} (h : RefV t w s n) (hk : n < pw k) (e : bb = (b && !decide (n = 0))) : IntB t w (.agg #[.bool bb, s]) (sg b n) k :=
  ⟨⟨s, by rw [sg_neg, e], by rw [sg_natAbs]; exact h⟩, by rw [sg_natAbs]; exact hk⟩

/-- -1, 0, 1. -/
def cmpZ (x y : Int) : Int := if x < y then -1 else if y < x then 1 else 0
def sgnZ (x : Int) : Int := if x < 0 then -1 else if 0 < x then 1 else 0
theorem pw_big (a b : Nat) : pw a + pw b ≤ pw (a + b + 1) := by
  have h1 := pw_le (a := a) (b := a + b) (by omega)
  have h2 := pw_le (a := b) (b := a + b) (by omega)
  rw [pw_succ]; omega
theorem add_bound {x y : Int} {a b : Nat} (hx : x.natAbs < pw a) (hy : y.natAbs < pw b) : (x + y).natAbs < pw (a + b + 1) := by
  have := pw_big a b; omega
theorem sub_bound {x y : Int} {a b : Nat} (hx : x.natAbs < pw a) (hy : y.natAbs < pw b) : (x - y).natAbs < pw (a + b + 1) := by
  have := pw_big a b; omega
theorem mul_bound {x y : Int} {a b : Nat} (hx : x.natAbs < pw a) (hy : y.natAbs < pw b) : (x * y).natAbs < pw (a + b) := by
  rw [Int.natAbs_mul, pw_add]; exact Nat.mul_lt_mul'' hx hy

/-- A whole number that is stored into the block of a result and told. -/
theorem fin_int {t ti : TypeId} {w0 w1 : World} {b k : Nat} {bb : Bool} {s : Value} {z : Int} (hI : IntB t w1 (.agg #[.bool bb, s]) z k) (hs : Slot w1 b ti 2) (ht : ti ≠ t) (hB : Below w0.heap.size w0 w1) (hb : w0.heap.size ≤ b) :
    IntB t ((w1.setCell ⟨b, 0, none⟩ (.bool bb)).setCell ⟨b, 1, none⟩ s) (.agg #[.bool bb, s]) z k ∧ Below w0.heap.size w0 ((w1.setCell ⟨b, 0, none⟩ (.bool bb)).setCell ⟨b, 1, none⟩ s) ∧
      ((w1.setCell ⟨b, 0, none⟩ (.bool bb)).setCell ⟨b, 1, none⟩ s).cell? ⟨b, 0, none⟩ = some (.bool bb) ∧ ((w1.setCell ⟨b, 0, none⟩ (.bool bb)).setCell ⟨b, 1, none⟩ s).cell? ⟨b, 1, none⟩ = some s := by
  obtain ⟨⟨s', e, r⟩, hk⟩ := hI
  injection e with e
  injection e with e
  simp only [List.cons.injEq, Value.bool.injEq, and_true] at e
  obtain ⟨rfl, rfl⟩ := e
  exact ⟨⟨⟨_, rfl, (r.slot hs ht 0 _).slot (hs.set b 0 _) ht 1 _⟩, hk⟩, bel_set2 hB hb hb, hs.set2 _ _⟩

theorem IntB.slot {t tt : TypeId} {w : World} {v : Value} {z : Int} {k b n : Nat} (h : IntB tt w v z k) (hs : Slot w b t n) (ht : t ≠ tt) (o : Nat) (u : Value) : IntB tt (w.setCell ⟨b, o, none⟩ u) v z k :=
  let ⟨_, _, hk⟩ := hs; h.setOther (a := ⟨b, o, none⟩) hk ht u
/-- Two of them. -/
theorem fin_int2 {t t1 t2 : TypeId} {w0 w1 : World} {b c k j : Nat} {bb cc : Bool} {s r : Value} {z y : Int} (hI : IntB t w1 (.agg #[.bool bb, s]) z k) (hJ : IntB t w1 (.agg #[.bool cc, r]) y j) (hs : Slot w1 b t1 2) (hr : Slot w1 c t2 2) (h1 : t1 ≠ t) (h2 : t2 ≠ t)
    (hB : Below w0.heap.size w0 w1) (hb : w0.heap.size ≤ b) (hc : w0.heap.size ≤ c) (hne : b ≠ c) {W : World} (hW : W = (((w1.setCell ⟨b, 0, none⟩ (.bool bb)).setCell ⟨b, 1, none⟩ s).setCell ⟨c, 0, none⟩ (.bool cc)).setCell ⟨c, 1, none⟩ r) :
    IntB t W (.agg #[.bool bb, s]) z k ∧ IntB t W (.agg #[.bool cc, r]) y j ∧ Below w0.heap.size w0 W ∧
      W.cell? ⟨b, 0, none⟩ = some (.bool bb) ∧ W.cell? ⟨b, 1, none⟩ = some s ∧ W.cell? ⟨c, 0, none⟩ = some (.bool cc) ∧ W.cell? ⟨c, 1, none⟩ = some r := by
  subst hW
  have hr2 := (hr.set b 0 (.bool bb)).set b 1 s
  have e := hs.set2 (.bool bb) s
  have e2 := hr2.set2 (.bool cc) r
  refine ⟨(((hI.slot hs h1 0 _).slot (hs.set b 0 _) h1 1 _).slot hr2 h2 0 _).slot (hr2.set c 0 _) h2 1 _, (((hJ.slot hs h1 0 _).slot (hs.set b 0 _) h1 1 _).slot hr2 h2 0 _).slot (hr2.set c 0 _) h2 1 _, bel_set2 (bel_set2 hB hb hb) hc hc, ?_, ?_, e2.1, e2.2⟩
  · exact cell_set (cell_set e.1 hne) hne
  · exact cell_set (cell_set e.2 hne) hne

theorem NatB.slot {t tt : TypeId} {w : World} {v : Value} {m k b n : Nat} (h : NatB tt w v m k) (hs : Slot w b t n) (ht : t ≠ tt) (o : Nat) (u : Value) : NatB tt (w.setCell ⟨b, o, none⟩ u) v m k :=
  let ⟨_, _, hk⟩ := hs; ⟨h.1.setOther (a := ⟨b, o, none⟩) hk ht u, h.2⟩
/-- Two naturals that are stored and told. -/
theorem fin_nat2 {t t1 t2 : TypeId} {w0 w1 : World} {b c k j m n : Nat} {s r : Value} (hI : NatB t w1 (.agg #[s]) m k) (hJ : NatB t w1 (.agg #[r]) n j) (hs : Slot w1 b t1 1) (hr : Slot w1 c t2 1) (h1 : t1 ≠ t) (h2 : t2 ≠ t)
    (hB : Below w0.heap.size w0 w1) (hb : w0.heap.size ≤ b) (hc : w0.heap.size ≤ c) (hne : b ≠ c) {W : World} (hW : W = (w1.setCell ⟨b, 0, none⟩ s).setCell ⟨c, 0, none⟩ r) :
    NatB t W (.agg #[s]) m k ∧ NatB t W (.agg #[r]) n j ∧ Below w0.heap.size w0 W ∧ W.cell? ⟨b, 0, none⟩ = some s ∧ W.cell? ⟨c, 0, none⟩ = some r := by
  subst hW
  have hr2 := hr.set b 0 s
  exact ⟨(hI.slot hs h1 0 _).slot hr2 h2 0 _, (hJ.slot hs h1 0 _).slot hr2 h2 0 _, bel_set2 hB hb hc, cell_set (hs.set1 s) hne, hr2.set1 r⟩
theorem NatB.shape2 {t : TypeId} {w : World} {v : Value} {n k : Nat} (h : NatB t w v n k) : ∃ ad len cap, v = .agg #[.slice ad len cap] := let ⟨ad, len, cap, e, _⟩ := h.shape; ⟨ad, len, cap, e⟩

end Cin
