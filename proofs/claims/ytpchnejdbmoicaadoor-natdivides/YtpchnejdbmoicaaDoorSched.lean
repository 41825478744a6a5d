/- A region that leaves its order open, walked once: what only reads is taken as soon as it may come up; what is left comes up one by one. No program. -/
import Derived.Test.YtpchnejdbmoicaaDoorMem
import Derived.Deep.RegionHeld3
namespace Cin
open Go Go.RowKit

/-- What is asked of a row of operations: 'true': it only reads; 'false': nothing else may come up beside it. -/
def schedOk (md : Region.Mode) (ops : Array Oper) : List (Nat × Bool) → Array Bool → Bool
  | [], listed => (Region.ready md ops listed).isEmpty
  | (i, true) :: r, listed => Region.free md ops listed i && (Region.ready md ops listed).contains i && schedOk md ops r (listed.setIfInBounds i true)
  | (i, false) :: r, listed => (Region.ready md ops listed == [i]) && schedOk md ops r (listed.setIfInBounds i true)

section
variable {P : Program} {ops : Array Oper} {Q : Exit → Act → World → Prop} {md : Region.Mode} {S : World → Prop}

/-- The walk along such a row; S is known of the world at hand. -/
def wpSched (P : Program) (ops : Array Oper) (Q : Exit → Act → World → Prop) (S : World → Prop) : List (Nat × Bool) → Act → World → Prop
  | [], a, w => Q .normal a w
  | (i, true) :: r, a, w => ∃ o v, ops[i]? = some o ∧ YieldsIf P ops S o v a ∧ wpSched P ops Q S r (a.put o.dst v) w
  | (i, false) :: r, a, w => wpOp P ops Q i (fun a' w' => S w' ∧ wpSched P ops Q S r a' w') a w

theorem wpAnyH_of_sched (hs : Region.noSelect ops = true) (hQ : ∀ c a d v w, Q (.panic c) (Act.put a d v) w → Q (.panic c) a w) :
    ∀ (l : List (Nat × Bool)) (fuel : Nat) (listed : Array Bool) (a : Act) (w : World), l.length ≤ fuel → schedOk md ops l listed = true → S w → wpSched P ops Q S l a w → wpAnyH P md ops Q S fuel listed a w
  | [], fuel, listed, a, w, _, hc, _, h => wpAnyH_done (by simpa [schedOk] using hc) h fuel
  | (i, true) :: r, 0, _, _, _, hl, _, _, _ => by simp at hl
  | (i, false) :: r, 0, _, _, _, hl, _, _, _ => by simp at hl
  | (i, true) :: r, fuel + 1, listed, a, w, hl, hc, hS, h => by
    simp only [schedOk, Bool.and_eq_true] at hc
    obtain ⟨⟨hf, hr⟩, hc⟩ := hc
    obtain ⟨o, v, ho, hy, h⟩ := h
    exact wpAnyH_take ho hs hf hr (fun c a w => hQ c a _ _ w) hy hS (wpAnyH_of_sched hs hQ r fuel _ _ w (by simpa using hl) hc hS h)
  | (i, false) :: r, fuel + 1, listed, a, w, hl, hc, hS, h => by
    simp only [schedOk, Bool.and_eq_true, beq_iff_eq] at hc
    obtain ⟨hr, hc⟩ := hc
    refine wpAnyH_all hr (by simp) fun j hj => ?_
    obtain rfl := List.mem_singleton.1 hj
    exact wpOp_mono (fun a' w' ⟨hS', h'⟩ => ⟨hS', wpAnyH_of_sched hs hQ r fuel _ a' w' (by simpa using hl) hc hS' h'⟩) h

/-- The beginning. -/
theorem wp_region_sched {id : Nat} {a : Act} {w : World} (S : World → Prop) (l : List (Nat × Bool)) (hm : P.follows .mixedOrders = true)
    (hc : (Region.noSelect ops && decide (l.length ≤ ops.size) && schedOk .any ops l (Array.replicate ops.size false)) = true) (hS : S w.drew) (h : S w.drew → wpSched P ops (NoPanic Q) S l a w.drew) : (Code.region id ops true).wp P Q a w := by
  simp only [Bool.and_eq_true, decide_eq_true_eq] at hc
  exact wp_region_noPanic (wp_region_held hm (wpAnyH_of_sched hc.1.1 (fun _ _ _ _ _ h => h.elim) l _ _ a _ hc.1.2 hc.2 hS (h hS)))

variable {i : Nat} {b : Bool} {r : List (Nat × Bool)} {a : Act} {w : World} {o : Oper} {v : Value}

theorem wpSched_nil (h : Q .normal a w) : wpSched P ops (NoPanic Q) S [] a w := h
/-- What is asked of one operation, written out. -/
def wpAt (P : Program) (ops : Array Oper) (Q : Exit → Act → World → Prop) (S : World → Prop) (o : Oper) (b : Bool) (r : List (Nat × Bool)) (a : Act) (w : World) : Prop :=
  ∀ i, ops[i]? = some o → wpSched P ops Q S ((i, b) :: r) a w
theorem wpSched_at (ho : ops[i]? = some o) (h : wpAt P ops Q S o b r a w) : wpSched P ops Q S ((i, b) :: r) a w := h i ho
/-- It reads, and is wanted. -/
theorem wpAt_take (hw : Region.wanted o (yielded ops a.tmps) = true) (hy : ∀ w, S w → (execOp a.eval o).run P w = .ok (.value v) w)
    (h : wpSched P ops Q S r (a.put o.dst v) w) : wpAt P ops Q S o true r a w := fun _ ho => ⟨o, v, ho, .inl ⟨hw, hy⟩, h⟩
/-- It is not wanted. -/
theorem wpAt_skip (hw : Region.wanted o (yielded ops a.tmps) = false)
    (h : wpSched P ops Q S r (a.put o.dst undef) w) : wpAt P ops Q S o true r a w := fun _ ho => ⟨o, undef, ho, .inr ⟨hw, rfl⟩, h⟩
theorem wpAt_pass (hw : Region.wanted o (yielded ops a.tmps) = false) (hS : S w)
    (h : wpSched P ops Q S r (a.put o.dst undef) w) : wpAt P ops Q S o false r a w := fun i ho => by
  show wpOp P ops Q i _ a w
  unfold wpOp
  simp only [ho, hw]
  exact ⟨hS, h⟩
/-- It is carried out. -/
theorem wpAt_eff (hw : Region.wanted o (yielded ops a.tmps) = true)
    (h : ∀ K : Act → World → Prop, Hid (∀ a' w', S w' → (S w' → wpSched P ops Q S r a' w') → K a' w') → o.wp P a w K Q) : wpAt P ops Q S o false r a w := fun i ho => by
  show wpOp P ops Q i _ a w
  unfold wpOp
  simp only [ho, hw, if_true]
  exact .inl (h _ (fun a' w' hS hW => ⟨hS, hW hS⟩))
end

/-- What only reads, by its kind. -/
def readsOnly : Op → Bool
  | .call { callee := .builtin b, .. } => (match b with | .len | .cap | .min | .max => true | _ => false)
  | .move _ | .assign _ | .pick .. | .load .. | .binOp .. | .unOp .. | .convert .. | .slice .. | .fieldAddr .. | .field .. | .indexAddr .. | .index .. | .extract .. | .build .. | .nilCheck _ => true
  | _ => false
/-- The row for a region, reckoned. -/
def eager (ops : Array Oper) : Nat → Array Bool → List (Nat × Bool)
  | 0, _ => []
  | f + 1, listed =>
    let rs := Region.ready .any ops listed
    match rs.find? (fun i => Region.free .any ops listed i && ((ops[i]?).map (fun o => readsOnly o.op)).getD false) with
    | some i => (i, true) :: eager ops f (listed.setIfInBounds i true)
    | none => match rs with
      | i :: _ => (i, false) :: eager ops f (listed.setIfInBounds i true)
      | [] => []
/-- A region of a function, by its number. -/
def regionOf : Nat → Code → Nat → Option (Array Oper)
  | 0, _, _ => none
  | f + 1, c, n => match c with
    | .region id ops _ => if id = n then some ops else none
    | .seq a b => (regionOf f a n).orElse fun _ => regionOf f b n
    | .cond _ a b => (regionOf f a n).orElse fun _ => regionOf f b n
    | .block _ a => regionOf f a n
    | .loop a => regionOf f a n
    | _ => none

end Cin
