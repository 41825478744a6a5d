/- A region that leaves its order open: what reads shared memory may be taken ahead, if whatever writes there waits for it. No program. -/
import Derived.Test.YtfohgkabmdhhaaaGreatDoorYc
import Derived.Laws.CopyRow
import Derived.Deep.MidRow
import Derived.Deep.LoopGhost
namespace Cin
open Go Go.RowKit

def noX (X : List Nat) (L : Array Bool) : Prop := ∀ k ∈ X, L.getD k true = false
theorem noX_set {X : List Nat} {L : Array Bool} {i : Nat} (hi : i ∉ X) : noX X (L.setIfInBounds i true) ↔ noX X L := by
  constructor <;> intro h k hk <;> have hne : i ≠ k := fun e => hi (by rw [e]; exact hk)
  · have := h k hk; rwa [getD_set_ne true hne] at this
  · rw [getD_set_ne true hne]; exact h k hk
theorem noX_sub {X : List Nat} {L : Array Bool} {i : Nat} (h : noX X (L.setIfInBounds i true)) : noX X L := by
  intro k hk
  have := h k hk
  by_cases e : i = k
  · subst e
    rcases Nat.lt_or_ge i L.size with h' | h'
    · simp [h'] at this
    · simp at this
  · rwa [getD_set_ne true e] at this

theorem noX_not {X : List Nat} {L : Array Bool} {i : Nat} (h : noX X (L.setIfInBounds i true)) : i ∉ X := by
  intro hi
  have := h i hi
  rcases Nat.lt_or_ge i L.size with h' | h'
  · simp [h'] at this
  · simp at this

section
variable {P : Program} {ops : Array Oper} {Q : Exit → Act → World → Prop} {md : Region.Mode} {S S0 S1 : World → Prop} {X : List Nat}

/-- Whatever order is picked from here on; S0 holds behind each operation, S1 as long as none of X has come up. -/
def wpAnyX (P : Program) (md : Region.Mode) (ops : Array Oper) (Q : Exit → Act → World → Prop) (S0 S1 : World → Prop) (X : List Nat) : Nat → Array Bool → Act → World → Prop
  | 0, listed, a, w => Region.ready md ops listed = [] ∧ Q .normal a w
  | fuel + 1, listed, a, w =>
    (Region.ready md ops listed = [] → Q .normal a w) ∧
    ∀ i ∈ Region.ready md ops listed, wpOp P ops Q i (fun a' w' => (S0 w' ∧ (noX X (listed.setIfInBounds i true) → S1 w')) ∧ wpAnyX P md ops Q S0 S1 X fuel (listed.setIfInBounds i true) a' w') a w
theorem wpAny_of_x : ∀ (fuel : Nat) (listed : Array Bool) (a : Act) (w : World), wpAnyX P md ops Q S0 S1 X fuel listed a w → wpAny P md ops Q fuel listed a w
  | 0, _, _, _, h => h
  | fuel + 1, _, _, _, h => ⟨h.1, fun i hi => wpOp_mono (fun a' w' h' => wpAny_of_x fuel _ a' w' h'.2) (h.2 i hi)⟩

theorem wpAnyX_first {i : Nat} {oi : Oper} {v : Value} (hi : ops[i]? = some oi) (hsel : ∀ (j : Nat) (o : Oper) cs b, ops[j]? = some o → o.op ≠ .select cs b)
    (hQ : ∀ c a w, Q (.panic c) (a.put oi.dst v) w → Q (.panic c) a w) (hX : i ∉ X) (R : Array Bool → Prop)
    (hR : ∀ L j, R L → i ∈ Region.ready md ops L → j ∈ Region.ready md ops L → j ≠ i → R (L.setIfInBounds j true)) (hS : ∀ L w, R L → S0 w → (noX X L → S1 w) → S w) :
    ∀ (fuel : Nat) (listed : Array Bool) (a : Act) (w : World),
      (∀ j oj, ops[j]? = some oj → j ≠ i → listed.getD j true = false → (∀ e ∈ oj.after, Region.binds md e = true → e.on ≠ i) → oi.apart ops oj = true) →
      i ∈ Region.ready md ops listed → YieldsIf P ops S oi v a → R listed → (S0 w ∧ (noX X listed → S1 w)) →
      wpAnyX P md ops Q S0 S1 X fuel (listed.setIfInBounds i true) (a.put oi.dst v) w → wpAnyX P md ops Q S0 S1 X (fuel + 1) listed a w := by
  intro fuel
  induction fuel with
  | zero =>
    intro listed a w _ hr hy hRl hSw H
    refine ⟨fun h => (by rw [h] at hr; cases hr), fun j hj => ?_⟩
    by_cases hji : j = i
    · subst hji; exact hy.wpOp hi (hS _ w hRl hSw.1 hSw.2) ⟨⟨hSw.1, fun h => hSw.2 ((noX_set hX).1 h)⟩, H⟩
    · have := ready_mono hj hji
      rw [H.1] at this
      cases this
  | succ fuel ih =>
    intro listed a w hfree hr hy hRl hSw H
    refine ⟨fun h => (by rw [h] at hr; cases hr), fun j hj => ?_⟩
    by_cases hji : j = i
    · subst hji; exact hy.wpOp hi (hS _ w hRl hSw.1 hSw.2) ⟨⟨hSw.1, fun h => hSw.2 ((noX_set hX).1 h)⟩, H⟩
    · have h1 := H.2 j (ready_mono hj hji)
      obtain ⟨hjun, oj, hoj, hall⟩ := mem_ready.1 hj
      have hnot : ∀ e ∈ oj.after, Region.binds md e = true → e.on ≠ i := fun e he hb heq => by
        have h1 := hall e he hb
        have h0 := (mem_ready.1 hr).1
        rw [heq] at h1
        rcases Nat.lt_or_ge i listed.size with h' | h'
        · simp [h'] at h0 h1; rw [h0] at h1; cases h1
        · simp [Array.getElem?_eq_none h'] at h1
      have h2 := wpOp_putIf hoj (hfree j oj hoj hji hjun hnot) (fun cs b => hsel i oi cs b hi) (fun cs b => hsel j oj cs b hoj) hQ hy h1
      have hfree' : ∀ k ok, ops[k]? = some ok → k ≠ i → (listed.setIfInBounds j true).getD k true = false →
          (∀ e ∈ ok.after, Region.binds md e = true → e.on ≠ i) → oi.apart ops ok = true := fun k ok hk hki hun hno => by
        refine hfree k ok hk hki ?_ hno
        by_cases hjk : j = k
        · subst hjk; exact hjun
        · rw [getD_set_ne true hjk] at hun; exact hun
      refine wpOp_mono (fun a' w' h3 => ?_) h2
      obtain ⟨hy', ⟨h30, h31⟩, h32⟩ := h3
      rw [Array.setIfInBounds_comm _ _ (Ne.symm hji)] at h31
      have hn : S0 w' ∧ (noX X (listed.setIfInBounds j true) → S1 w') := ⟨h30, fun h => h31 ((noX_set hX).2 h)⟩
      refine ⟨hn, ih (listed.setIfInBounds j true) a' w' hfree' (ready_mono hr (Ne.symm hji)) hy' (hR listed j hRl hr hj hji) hn ?_⟩
      rw [Array.setIfInBounds_comm _ _ hji]
      exact h32

/-- Taken ahead by what always holds. -/
theorem wpAnyX_take {i : Nat} {oi : Oper} {v : Value} {fuel : Nat} {listed : Array Bool} {a : Act} {w : World} (hi : ops[i]? = some oi)
    (hs : Region.noSelect ops = true) (hf : Region.free md ops listed i = true) (hr : i ∈ Region.ready md ops listed) (hX : i ∉ X)
    (hQ : ∀ c a w, Q (.panic c) (a.put oi.dst v) w → Q (.panic c) a w) (hy : YieldsIf P ops S0 oi v a) (hS : S0 w ∧ (noX X listed → S1 w))
    (h : wpAnyX P md ops Q S0 S1 X fuel (listed.setIfInBounds i true) (a.put oi.dst v) w) : wpAnyX P md ops Q S0 S1 X (fuel + 1) listed a w :=
  wpAnyX_first (S := S0) hi (Region.noSelect_spec hs) hQ hX (fun _ => True) (fun _ _ _ _ _ _ => trivial) (fun _ _ _ h _ => h) fuel listed a w (Region.free_spec hi hf) hr hy trivial hS h

def bindsOn (md : Region.Mode) (o : Oper) (p : Nat → Bool) : Bool := o.after.any fun e => Region.binds md e && p e.on
/-- All that waits for i. -/
def depsOf (md : Region.Mode) (ops : Array Oper) (i : Nat) : List Nat :=
  (List.range ops.size).foldl (fun T k => match ops[k]? with | some o => if bindsOn md o (fun m => m == i || T.contains m) then k :: T else T | none => T) []
/-- Does all of X wait for i? -/
def waits (md : Region.Mode) (ops : Array Oper) (listed : Array Bool) (X : List Nat) (i : Nat) : Bool :=
  let T := depsOf md ops i
  X.all T.contains && T.all (fun k => !listed.getD k true && (match ops[k]? with | some o => bindsOn md o (fun m => m == i || T.contains m) | none => false))
/-- Taken ahead by what holds as long as none of X has come up. -/
theorem wpAnyX_wait {i : Nat} {oi : Oper} {v : Value} {fuel : Nat} {listed : Array Bool} {a : Act} {w : World} (hi : ops[i]? = some oi)
    (hs : Region.noSelect ops = true) (hf : Region.free md ops listed i = true) (hr : i ∈ Region.ready md ops listed) (hX : i ∉ X) (hw : waits md ops listed X i = true)
    (hQ : ∀ c a w, Q (.panic c) (a.put oi.dst v) w → Q (.panic c) a w) (hy : YieldsIf P ops (fun w => S0 w ∧ S1 w) oi v a) (hS : S0 w ∧ (noX X listed → S1 w))
    (h : wpAnyX P md ops Q S0 S1 X fuel (listed.setIfInBounds i true) (a.put oi.dst v) w) : wpAnyX P md ops Q S0 S1 X (fuel + 1) listed a w := by
  simp only [waits, Bool.and_eq_true, List.all_eq_true] at hw
  generalize depsOf md ops i = T at hw
  refine wpAnyX_first (S := fun w => S0 w ∧ S1 w) hi (Region.noSelect_spec hs) hQ hX (fun L => ∀ k ∈ T, L.getD k true = false) ?_ ?_ fuel listed a w (Region.free_spec hi hf) hr hy ?_ hS h
  · intro L j hL hri hrj hji k hk
    have hun : ∀ m, (m == i || T.contains m) = true → L.getD m false = false := by
      intro m hm
      have : L.getD m true = false := by
        rcases Bool.or_eq_true .. ▸ hm with h | h
        · have : m = i := by simpa using h
          subst this; exact (mem_ready.1 hri).1
        · exact hL m (by simpa using h)
      rcases Nat.lt_or_ge m L.size with h' | h'
      · simp [h'] at this ⊢; exact this
      · simp [Array.getElem?_eq_none h']
    by_cases e : j = k
    · subst e
      obtain ⟨_, oj, hoj, hall⟩ := mem_ready.1 hrj
      have h2 := (hw.2 j hk).2
      simp only [hoj, bindsOn, Array.any_eq_true'] at h2
      obtain ⟨e, he, h3⟩ := h2
      simp only [Bool.and_eq_true] at h3
      have h4 := hall e he h3.1
      rw [hun e.on h3.2] at h4; cases h4
    · rw [getD_set_ne true e]; exact hL k hk
  · intro L w hL h0 h1
    exact ⟨h0, h1 fun k hk => hL k (by simpa using hw.1 k hk)⟩
  · intro k hk
    have := (hw.2 k hk).1
    simpa using this

theorem wpAnyX_wait' {i : Nat} {oi : Oper} {v : Value} {fuel : Nat} {listed : Array Bool} {a : Act} {w : World} (hi : ops[i]? = some oi)
    (hs : Region.noSelect ops = true) (hf : Region.free md ops listed i = true) (hr : i ∈ Region.ready md ops listed) (hX : i ∉ X) (hw : X.isEmpty = true ∨ waits md ops listed X i = true)
    (hQ : ∀ c a w, Q (.panic c) (a.put oi.dst v) w → Q (.panic c) a w) (hy : YieldsIf P ops (fun w => S0 w ∧ S1 w) oi v a) (hS : S0 w ∧ (noX X listed → S1 w))
    (h : wpAnyX P md ops Q S0 S1 X fuel (listed.setIfInBounds i true) (a.put oi.dst v) w) : wpAnyX P md ops Q S0 S1 X (fuel + 1) listed a w := by
  rcases hw with hw | hw
  · have hX0 : X = [] := by simpa using hw
    subst hX0
    exact wpAnyX_first (S := fun w => S0 w ∧ S1 w) hi (Region.noSelect_spec hs) hQ hX (fun _ => True) (fun _ _ _ _ _ _ => trivial) (fun _ _ _ h h' => ⟨h, h' (fun k hk => by cases hk)⟩) fuel listed a w (Region.free_spec hi hf) hr hy trivial hS h
  · exact wpAnyX_wait hi hs hf hr hX hw hQ hy hS h
theorem wpAnyX_all {rs : List Nat} {fuel : Nat} {listed : Array Bool} {a : Act} {w : World} (hr : Region.ready md ops listed = rs) (hne : rs ≠ [])
    (h : ∀ i ∈ rs, wpOp P ops Q i (fun a' w' => (S0 w' ∧ (noX X (listed.setIfInBounds i true) → S1 w')) ∧ wpAnyX P md ops Q S0 S1 X fuel (listed.setIfInBounds i true) a' w') a w) : wpAnyX P md ops Q S0 S1 X (fuel + 1) listed a w :=
  ⟨fun h0 => absurd (hr ▸ h0) hne, hr ▸ h⟩
theorem wpAnyX_done {listed : Array Bool} {a : Act} {w : World} (hr : Region.ready md ops listed = []) (h : Q .normal a w) :
    ∀ fuel, wpAnyX P md ops Q S0 S1 X fuel listed a w
  | 0 => ⟨hr, h⟩
  | _ + 1 => ⟨fun _ => h, by rw [hr]; simp⟩
theorem wp_region_x {id : Nat} {a : Act} {w : World} (hm : P.follows .mixedOrders = true)
    (h : wpAnyX P .any ops Q S0 S1 X ops.size (Array.replicate ops.size false) a { w with drawn := w.drawn + 1 }) : (Code.region id ops true).wp P Q a w :=
  wp_region_any hm (wpAny_of_x _ _ _ _ h)
end
end Cin
/- A walk that is reckoned: which functions a call calls, in which order, with what, and what it tells; laid open by the kernel's own reckoning, shown sound once. No program. -/
namespace Cin
open Go Go.RowKit

/-- The value of one cell: cell k of the i-th value that is known; a constant; the address of a block of the call's own. -/
inductive A where
  | c (i k : Nat)
  | k (v : Value)
  | p (j o : Nat)
/-- A value of one cell, or a struct. -/
inductive V1 where
  | s (a : A)
  | g (l : List A)
/-- What a temporary holds: a value, several of them, nothing, whatever. -/
inductive SV where
  | v (x : V1)
  | t (l : List V1)
  | u
  | any

abbrev Env := List (List Value)
def A.den (ρ : List Nat) (E : Env) : A → Value
  | .c i n => (E.getD i []).getD n (.bool false)
  | .k v => v
  | .p j o => .pointer (some ⟨ρ.getD j 0, o, none⟩)
def V1.den (ρ : List Nat) (E : Env) : V1 → Value
  | .s a => a.den ρ E
  | .g l => .agg (l.map (A.den ρ E)).toArray
def SV.den (ρ : List Nat) (E : Env) : SV → Value
  | .v x => x.den ρ E
  | .t l => .tuple (l.map (V1.den ρ E)).toArray
  | .u => undef
  | .any => undef
def SV.isAny : SV → Bool
  | .any => true
  | _ => false
def SV.Rep (ρ : List Nat) (E : Env) (s : SV) (v : Value) : Prop := s.isAny = false → v = s.den ρ E

def V1.atoms : V1 → List A
  | .s a => [a]
  | .g l => l
def SV.atoms : SV → List A
  | .v x => x.atoms
  | .t l => l.flatMap V1.atoms
  | _ => []
abbrev Bl := List (Option (List A × TypeId))
def Bl.has (bl : Bl) (j : Nat) : Bool := match bl[j]? with | some (some _) => true | _ => false
def A.sc (nv : Nat) (bl : Bl) : A → Bool
  | .c i _ => decide (i < nv)
  | .k _ => true
  | .p j _ => bl.has j
def A.fine : A → Bool
  | .k v => v.oneCell'
  | _ => true
def A.noPtr : A → Bool
  | .p _ _ => false
  | _ => true

structure St where
  tmps : List SV
  blocks : Bl
  nv : Nat
def St.sc (st : St) : Bool :=
  st.tmps.all (fun s => s.atoms.all (A.sc st.nv st.blocks)) && st.blocks.all (fun b => match b with | some b => b.1.all (A.sc st.nv st.blocks) | none => true)
def St.put (st : St) (dst : Option Tmp) (s : SV) : St :=
  match dst with
  | some d => { st with tmps := st.tmps.set d s }
  | none => st
def St.ev (st : St) : Operand → SV
  | .tmp t => st.tmps.getD t .u
  | .const (.agg cs) => .v (.g (cs.toList.map .k))
  | .const (.tuple _) => .any
  | .const v => .v (.s (.k v))
  | .global g => .v (.s (.k (.pointer (some ⟨g, 0, none⟩))))
  | _ => .any
/-- A truth value that has been found out. -/
def A.sub (i n : Nat) (b : Bool) : A → A
  | .c i' n' => if i' == i && n' == n then .k (.bool b) else .c i' n'
  | a => a
def V1.sub (i n : Nat) (b : Bool) : V1 → V1
  | .s a => .s (a.sub i n b)
  | .g l => .g (l.map (A.sub i n b))
def SV.sub (i n : Nat) (b : Bool) : SV → SV
  | .v x => .v (x.sub i n b)
  | .t l => .t (l.map (V1.sub i n b))
  | .u => .u
  | .any => .any
def St.sub (st : St) (i n : Nat) (b : Bool) : St := { st with tmps := st.tmps.map (SV.sub i n b), blocks := st.blocks.map fun x => x.map fun x => (x.1.map (A.sub i n b), x.2) }
/-- What may be handed over. -/
def St.arg (st : St) (x : Operand) : Option V1 :=
  match st.ev x with
  | .v y => if y.atoms.all A.noPtr then some y else none
  | _ => none

/-- What is seen from outside: a call; an operation on values alone; what reads shared memory; what makes or writes some. -/
inductive Em where
  | call (f : FuncId) (args : List V1) (sh : List (Option Nat))
  | pr (op : Op) (ty : TypeId) (args : List V1)
  | ld (op : Op) (ty : TypeId) (args : List V1) (sh : Option Nat)
  | wx (op : Op) (ty : TypeId) (args : List V1) (sh : Option (Option Nat))
inductive Tr where
  | ret (x : SV)
  | em (e : Em) (k : Tr)
  | cond (a : A) (x y : Tr)
  | loop (d : Nat) (init : List A) (body : Tr)
  | back (d : Nat) (vals : List A)

/-- A value as it comes back: 'none': one cell; 'some n': a struct of n cells. -/
def v1of (n i : Nat) : Option Nat → V1
  | none => .s (.c n i)
  | some m => .g ((List.range' i m).map (.c n))
def svs (n i : Nat) : List (Option Nat) → List V1
  | [] => []
  | s :: r => v1of n i s :: svs n (i + s.getD 1) r
def mkSV (sh : List (Option Nat)) (n : Nat) : SV :=
  match sh with
  | [s] => .v (v1of n 0 s)
  | _ => .t (svs n 0 sh)
def shapeOf (P : Program) (t : TypeId) : Option (Option Nat) :=
  match (P.info? t).bind (·.zero) with
  | some (.agg cs) => some (some cs.size)
  | some (.tuple _) => none
  | some _ => some none
  | none => none

/-- The part of type t that lies at off. -/
def partOf (P : Program) (t : TypeId) (l : List A) (off : Nat) : Option V1 :=
  match P.underlying t, P.info? t with
  | some d, some i => if d.isRow then (if off + i.size ≤ l.length then some (.g ((l.drop off).take i.size)) else none) else (l[off]?).map .s
  | _, _ => none
/-- What a struct or an array is put together of. -/
def setAll (off : Nat) (l cells : List A) : List A := l.zipIdx.foldl (fun cs (c, j) => cs.set (off + j) c) cells
def fillA (place : Nat → Option (Nat × Nat)) (cells : List A) : List (Nat × V1) → Option (List A)
  | [] => some cells
  | (i, x) :: r =>
    match place i with
    | none => none
    | some (off, size) => if x.atoms.length = size ∧ off + x.atoms.length ≤ cells.length ∧ x.atoms.all A.fine = true then fillA place (setAll off x.atoms cells) r else none
def builtA (P : Program) (t : TypeId) (parts : List (Nat × V1)) : Option (List A) :=
  match P.info? t, P.underlying t with
  | some it, some (.array _ e) =>
    match it.zero, P.info? e with
    | some z, some ie => fillA (fun i => some (i * ie.size, ie.size)) (z.cells.toList.map .k) parts
    | _, _ => none
  | some it, some (.struct fields) =>
    match it.zero, fields.toList.mapM (fun f => (P.info? f.type).map fun i => (f.offset, i.size)) with
    | some z, some places => fillA (places.toArray[·]?) (z.cells.toList.map .k) parts
    | _, _ => none
  | _, _ => none
def St.parts (st : St) : List (Nat × Operand) → Option (List (Nat × V1))
  | [] => some []
  | (i, x) :: r =>
    match st.ev x, st.parts r with
    | .v y, some ys => some ((i, y) :: ys)
    | _, _ => none
def St.args (st : St) : List Operand → Option (List V1)
  | [] => some []
  | x :: r =>
    match st.arg x, st.args r with
    | some y, some ys => some (y :: ys)
    | _, _ => none

/-- What reads. -/
def rd0 (P : Program) (okL : Nat → Bool) (st : St) : Op → Option SV
  | .move x => some (st.ev x)
  | .assign x => some (st.ev x)
  | .load t x =>
    match st.ev x with
    | .v (.s (.p j off)) => if okL j then (match st.blocks[j]? with | some (some b) => (partOf P t b.1 off).map .v | _ => none) else none
    | _ => none
  | .fieldAddr s x f =>
    match st.ev x, P.underlying s with
    | .v (.s (.p j off)), some (.struct fs) =>
      (match fs[f]? with
       | some fd => (match P.info? fd.type with | some i => if i.size = 0 then none else some (.v (.s (.p j (off + fd.offset)))) | none => none)
       | none => none)
    | _, _ => none
  | .field t x f =>
    match st.ev x, P.underlying t with
    | .v (.g l), some (.struct fs) => (match fs[f]? with | some fd => (partOf P fd.type l fd.offset).map .v | none => none)
    | _, _ => none
  | .extract x i =>
    match st.ev x with
    | .t l => (l[i]?).map .v
    | _ => none
  | .build t parts => (match st.parts parts.toList with | some ps => (builtA P t ps).map (fun l => .v (.g l)) | none => none)
  | .pick c x y =>
    match st.ev c with
    | .v (.s (.k (.bool b))) => some (st.ev (if b then x else y))
    | _ => none
  | .nilCheck x =>
    match st.ev x with
    | .v (.s (.p j off)) => some (.v (.s (.p j off)))
    | _ => none
  | _ => none

/-- What reckons with values alone: its operands by places. -/
def ab (i : Nat) : Operand → Operand
  | .const v => .const v
  | _ => .tmp i
def pe (vs : List Value) : Operand → Value
  | .tmp i => vs.getD i undef
  | .const v => v
  | .global g => .pointer (some ⟨g, 0, none⟩)
  | .func f => .func (.func f) #[] #[]
def pm : Op → Option (Op × List Operand)
  | .binOp op t x y t2 => some (.binOp op t (ab 0 x) (ab 1 y) t2, [x, y])
  | .unOp op t x => some (.unOp op t (ab 0 x), [x])
  | .convert s d x => some (.convert s d (ab 0 x), [x])
  | .indexAddr t x i => some (.indexAddr t (ab 0 x) (ab 1 i), [x, i])
  | .fieldAddr t x f => some (.fieldAddr t (ab 0 x) f, [x])
  | .nilCheck x => some (.nilCheck (ab 0 x), [x])
  | .index t x i => some (.index t (ab 0 x) (ab 1 i), [x, i])
  | .slice t x none none none => some (.slice t (ab 0 x) none none none, [x])
  | .slice t x (some l) none none => some (.slice t (ab 0 x) (some (ab 1 l)) none none, [x, l])
  | .slice t x none (some h) none => some (.slice t (ab 0 x) none (some (ab 1 h)) none, [x, h])
  | .slice t x (some l) (some h) none => some (.slice t (ab 0 x) (some (ab 1 l)) (some (ab 2 h)) none, [x, l, h])
  | .call { callee := .builtin b, args, argTypes } =>
    (match b, args.toList with
     | .len, [x] => some (.call { callee := .builtin .len, args := #[ab 0 x], argTypes }, [x])
     | .min, [x, y] => some (.call { callee := .builtin .min, args := #[ab 0 x, ab 1 y], argTypes }, [x, y])
     | .max, [x, y] => some (.call { callee := .builtin .max, args := #[ab 0 x, ab 1 y], argTypes }, [x, y])
     | _, _ => none)
  | _ => none
def PrimOk (P : Program) (op : Op) (ty : TypeId) (vs : List Value) (v : Value) : Prop :=
  ∀ w, (execOp (pe vs) ⟨none, op, ty, "", #[], none⟩).run P w = .ok (.value v) w

/-- What reads shared memory, or tells a struct. -/
def lm (P : Program) (o : Oper) : Option (Op × List Operand × Option Nat) :=
  match o.op with
  | .load t x => (match shapeOf P t with | some sh => some (.load t (ab 0 x), [x], sh) | none => none)
  | .index t x i =>
    (match P.underlying t with
     | some .string => none
     | _ => (match shapeOf P o.type with | some sh => some (.index t (ab 0 x) (ab 1 i), [x, i], sh) | none => none))
  | _ => none
def abL (xs : List Operand) : Array Operand := (xs.zipIdx.map fun (x, i) => ab i x).toArray
/-- What makes shared memory, or writes there. -/
def wm (D : TypeId → Bool) : Op → Option (Op × List Operand × Option (Option Nat))
  | .buildSlice t len parts => some (.buildSlice t len (parts.toList.zipIdx.map fun (p, i) => (p.1, ab i p.2)).toArray, parts.toList.map (·.2), some none)
  | .makeSlice t l c => some (.makeSlice t (ab 0 l) (ab 1 c), [l, c], some none)
  | .alloc t => if D t then some (.alloc t, [], some none) else none
  | .box t x => if D t then some (.box t (ab 0 x), [x], some none) else none
  | .store t x y => some (.store t (ab 0 x) (ab 1 y), [x, y], none)
  | .call { callee := .builtin b, args, argTypes } =>
    (match b with
     | .append => some (.call { callee := .builtin .append, args := abL args.toList, argTypes }, args.toList, some none)
     | .copy => some (.call { callee := .builtin .copy, args := abL args.toList, argTypes }, args.toList, some none)
     | _ => none)
  | _ => none

/-- What writes memory of the call's own, or calls. -/
inductive Ef where
  | blk (bl : Bl) (s : SV) (grown : Bool)
  | cl (f : FuncId) (args : List V1) (sh : List (Option Nat))
def toV1 : Value → Option V1
  | .agg cs => if cs.toList.all Value.oneCell' then some (.g (cs.toList.map .k)) else none
  | .tuple _ => none
  | v => some (.s (.k v))
/-- A new block bears the number of the temporary that its address goes to. -/
def mkBl (st : St) (dst : Option Tmp) (x : List A) (t : TypeId) : Option Ef :=
  match dst with
  | some d => (match st.blocks[d]? with | some none => some (.blk (st.blocks.set d (some (x, t))) (.v (.s (.p d 0))) true) | _ => none)
  | none => none
def eff (P : Program) (D : TypeId → Bool) (okS : Nat → Bool) (st : St) (dst : Option Tmp) : Op → Option Ef
  | .alloc t =>
    match (P.info? t).bind (·.zero) with
    | some z => (match toV1 z with | some x => if D t then none else mkBl st dst x.atoms t | none => none)
    | none => none
  | .box t x =>
    match st.ev x with
    | .v y => if D t || !y.atoms.all A.fine then none else mkBl st dst y.atoms t
    | _ => none
  | .store t x y =>
    match st.ev x, st.ev y, P.info? t with
    | .v (.s (.p j off)), .v z, some i =>
      (match st.blocks[j]? with
       | some (some b) => if okS j && decide (z.atoms.length = i.size) && decide (off + z.atoms.length ≤ b.1.length) && z.atoms.all A.fine then
           some (.blk (st.blocks.set j (some (b.1.take off ++ z.atoms ++ b.1.drop (off + z.atoms.length), b.2))) .u false) else none
       | _ => none)
    | _, _, _ => none
  | .call { callee := .value (.func f), args, .. } =>
    match st.args args.toList, P.funcs[f]? with
    | some ar, some fn =>
      if fn.name == "runtime.NumGoroutine" || fn.body.isNone then none
      else (match fn.resultTypes.toList.mapM (shapeOf P) with | some sh => some (.cl f ar sh) | none => none)
    | _, _ => none
  | _ => none

def wxSV (n : Nat) : Option (Option Nat) → SV
  | some s => .v (v1of n 0 s)
  | none => .u
/-- One operation. b: taken ahead; la: and may read shared memory; nx: it may not write there. -/
def stp (P : Program) (D : TypeId → Bool) (okL okS : Nat → Bool) (b la nx : Bool) (st : St) (o : Oper) : Option (Option Em × St) :=
  match rd0 P (if b then okL else fun _ => true) st o.op with
  | some s => some (none, st.put o.dst s)
  | none =>
    match lm P o with
    | some (op, xs, sh) =>
      (match st.args xs with
       | some ar => if st.sc && (!b || la) then some (some (.ld op o.type ar sh), { st with nv := st.nv + 1 : St }.put o.dst (.v (v1of st.nv 0 sh))) else none
       | none => none)
    | none =>
      match pm o.op with
      | some (op, xs) =>
        (match st.args xs with
         | some ar => if st.sc then some (some (.pr op o.type ar), { st with nv := st.nv + 1 : St }.put o.dst (.v (.s (.c st.nv 0)))) else none
         | none => none)
      | none =>
        if b then none else
        match eff P D okS st o.dst o.op with
        | some (.blk bl s g) => if g && !st.sc then none else some (none, { st with blocks := bl : St }.put o.dst s)
        | some (.cl f ar sh) => if st.sc then some (some (.call f ar sh), { st with nv := st.nv + 1 : St }.put o.dst (mkSV sh st.nv)) else none
        | none =>
          if nx then none else
          match wm D o.op with
          | some (op, xs, sh) =>
            (match st.args xs with
             | some ar => if st.sc then some (some (.wx op o.type ar sh), { st with nv := st.nv + 1 : St }.put o.dst (wxSV st.nv sh)) else none
             | none => none)
          | none => none

/-- What a region comes to: what is seen from outside, and the state behind it. -/
inductive RT where
  | leaf (st : St)
  | em (e : Em) (k : RT)
  | cond (a : A) (x y : RT)
abbrev RQ := RT × List (RT × RT)
def one (e : Option Em) (r : RQ) : RQ :=
  match e with
  | none => r
  | some e => (.em e r.1, r.2)
def two (a : A) (x y : RQ) : RQ := (.cond a x.1 y.1, x.2 ++ y.2)
/-- What a guard hangs on. -/
def gd (ops : Array Oper) (st : St) (j : Nat) : SV := match (ops[j]?).bind (·.dst) with | some d => st.tmps.getD d .any | none => .u
/-- The i-th operation, and on. -/
def gst (P : Program) (D : TypeId → Bool) (ops : Array Oper) (okL okS : Nat → Bool) (b la nx : Bool) (st : St) (i : Nat) (K : St → Option RQ) : Option RQ :=
  match ops[i]? with
  | none => none
  | some o =>
    match o.guard with
    | none => (match stp P D okL okS b la nx st o with | some (e, st') => (K st').map (one e) | none => none)
    | some (j, want) =>
      match gd ops st j with
      | .u => K (st.put o.dst .u)
      | .v (.s (.k (.bool x))) =>
        if x = want then (match stp P D okL okS b la nx st o with | some (e, st') => (K st').map (one e) | none => none)
        else K (st.put o.dst .u)
      | .v (.s (.c ci ck)) =>
        (match stp P D okL okS b la nx (st.sub ci ck want) o with
         | some (e, st') =>
           (match K st', K ((st.sub ci ck (!want)).put o.dst .u) with
            | some t1, some t2 => some (if want then two (.c ci ck) (one e t1) t2 else two (.c ci ck) t2 (one e t1))
            | _, _ => none)
         | none => none)
      | _ => none
/-- In the order in which they stand. -/
def exL (P : Program) (D : TypeId → Bool) (ops : Array Oper) : List Nat → St → Option RQ
  | [], st => some (.leaf st, [])
  | i :: r, st => gst P D ops (fun _ => true) (fun _ => true) false false false st i (exL P D ops r)
/-- May it be taken ahead? -/
def canTake (P : Program) (ops : Array Oper) (okL : Nat → Bool) (st : St) (i : Nat) : Bool :=
  match ops[i]? with
  | none => false
  | some o =>
    let rd := (rd0 P okL st o.op).isSome || (pm o.op).isSome
    match o.guard with
    | none => rd
    | some (j, want) =>
      match gd ops st j with
      | .u => true
      | .v (.s (.k (.bool x))) => if x = want then rd else true
      | _ => rd
def allOf (g : Nat → Option RQ) : List Nat → Option (List RQ)
  | [] => some []
  | i :: r => match g i, allOf g r with | some x, some xs => some (x :: xs) | _, _ => none
/-- May it be taken ahead, and read shared memory? -/
def canLd (P : Program) (ops : Array Oper) (st : St) (i : Nat) : Bool :=
  match ops[i]? with
  | none => false
  | some o => (match lm P o with | some (_, xs, _) => (st.args xs).isSome | none => false)
/-- Calls, and what may write shared memory. -/
def isCall : Op → Bool
  | .call { callee := .value _, .. } => true
  | _ => false
def stays (ops : Array Oper) (X : List Nat) (i : Nat) : Bool := !X.contains i && (match ops[i]? with | some o => !isCall o.op | none => false)
/-- In whatever order they may come up: what only reads is taken ahead; of what is left each may be the next, and it comes to the same. X: what may write shared memory; fr: nothing has been called yet. -/
def exT (P : Program) (D : TypeId → Bool) (ops : Array Oper) (okL : Nat → Bool) (X : List Nat) : Nat → Array Bool → Bool → St → Option RQ
  | 0, listed, _, st => if (Region.ready .any ops listed).isEmpty then some (.leaf st, []) else none
  | f + 1, listed, fr, st =>
    let rs := Region.ready .any ops listed
    if rs.isEmpty then some (.leaf st, []) else
    match rs.find? (fun i => Region.free .any ops listed i && !X.contains i && canTake P ops okL st i) with
    | some i => gst P D ops okL (fun j => !okL j) true false true st i (exT P D ops okL X f (listed.setIfInBounds i true) fr)
    | none =>
      match rs.find? (fun i => fr && Region.free .any ops listed i && !X.contains i && canLd P ops st i && (X.isEmpty || waits .any ops listed X i)) with
      | some i => gst P D ops okL (fun j => !okL j) true true true st i (exT P D ops okL X f (listed.setIfInBounds i true) fr)
      | none =>
        match allOf (fun i => gst P D ops okL (fun j => !okL j) false false (!X.contains i) st i (exT P D ops okL X f (listed.setIfInBounds i true) (fr && stays ops X i))) rs with
        | some (x :: xs) => some (x.1, x.2 ++ xs.flatMap (fun y => (x.1, y.1) :: y.2))
        | _ => none
def RT.bind (K : St → Option (Tr × List (RT × RT))) : RT → Option (Tr × List (RT × RT))
  | .leaf st => K st
  | .em e k => (match RT.bind K k with | some (t, q) => some (.em e t, q) | none => none)
  | .cond a x y => (match RT.bind K x, RT.bind K y with | some (t1, q1), some (t2, q2) => some (.cond a t1 t2, q1 ++ q2) | _, _ => none)
def RQ.bind (r : Option RQ) (K : St → Option (Tr × List (RT × RT))) : Option (Tr × List (RT × RT)) :=
  match r with
  | some (r, q) => (match r.bind K with | some (t, q') => some (t, q ++ q') | none => none)
  | none => none

/-- Which block a store of the region writes. -/
def addrOf (ops : Array Oper) (st : St) : Nat → Operand → Option Nat
  | 0, _ => none
  | f + 1, x =>
    match st.ev x with
    | .v (.s (.p j _)) => some j
    | _ =>
      match x with
      | .tmp t => (match ops.toList.find? (fun o => o.dst == some t) with
        | some o => (match o.op with | .fieldAddr _ y _ => addrOf ops st f y | .nilCheck y => addrOf ops st f y | _ => none)
        | none => none)
      | _ => none
def storedIn (ops : Array Oper) (st : St) : List Nat := ops.toList.filterMap fun o => match o.op with | .store _ x _ => addrOf ops st 5 x | _ => none

/-- What may write shared memory. -/
def xOps (D : TypeId → Bool) (ops : Array Oper) (st : St) : List Nat :=
  (List.range ops.size).filter fun i =>
    match ops[i]? with
    | none => false
    | some o => (match o.op with | .store _ x _ => (addrOf ops st 5 x).isNone | op => (wm D op).isSome)

def resOf (P : Program) (st : St) : ResultVar → Option V1
  | .tmp t => (match st.tmps.getD t .u with | .v x => if x.atoms.all A.noPtr then some x else none | _ => none)
  | .cell a t =>
    match st.tmps.getD a .u with
    | .v (.s (.p j off)) =>
      (match st.blocks[j]? with
       | some (some b) => (match partOf P t b.1 off with | some x => if x.atoms.all A.noPtr then some x else none | none => none)
       | _ => none)
    | _ => none
def resL (P : Program) (st : St) : List ResultVar → Option (List V1)
  | [] => some []
  | x :: r =>
    match resOf P st x, resL P st r with
    | some y, some ys => some (y :: ys)
    | _, _ => none
def retT (P : Program) (fn : Func) (st : St) : Option (Tr × List (RT × RT)) :=
  match resL P st fn.results.toList with
  | some [x] => some (.ret (.v x), [])
  | some l => some (.ret (.t l), [])
  | none => none

/-- Are they the same? -/
def beqV : Value → Value → Bool
  | .bool a, .bool b => a == b
  | .int k a, .int l b => k == l && a == b
  | .slice none a b, .slice none c d => a == c && b == d
  | .string s, .string r => s.data.toList == r.data.toList
  | .map none, .map none => true
  | .pointer none, .pointer none => true
  | .pointer (some ⟨b, o, none⟩), .pointer (some ⟨b', o', none⟩) => b == b' && o == o'
  | .nilIface, .nilIface => true
  | _, _ => false
def beqA : A → A → Bool
  | .c i n, .c j m => i == j && n == m
  | .k v, .k u => beqV v u
  | .p i n, .p j m => i == j && n == m
  | _, _ => false
/-- What stands in the places of the n-th value's cells, in their order; all else must be the same. -/
def mat (n : Nat) (acc : List A) : List A → List A → Option (List A)
  | [], [] => some acc
  | x :: xs, y :: ys =>
    let same := if beqA x y then mat n acc xs ys else none
    match x with
    | .c i m => if i == n then (if m == acc.length && y.noPtr && y.fine then mat n (acc ++ [y]) xs ys else none) else same
    | _ => same
  | _, _ => none
def matV (n : Nat) (acc : List A) : V1 → V1 → Option (List A)
  | .s a, .s b => mat n acc [a] [b]
  | .g l, .g l' => mat n acc l l'
  | _, _ => none
def matVs (n : Nat) (acc : List A) : List V1 → List V1 → Option (List A)
  | [], [] => some acc
  | x :: xs, y :: ys => (match matV n acc x y with | some acc => matVs n acc xs ys | none => none)
  | _, _ => none
def matS (n : Nat) (acc : List A) : SV → SV → Option (List A)
  | .any, _ => some acc
  | .v x, .v y => matV n acc x y
  | .t l, .t l' => matVs n acc l l'
  | .u, .u => some acc
  | _, _ => none
def matT (n : Nat) (acc : List A) : List SV → List SV → Option (List A)
  | [], [] => some acc
  | x :: xs, y :: ys => (match matS n acc x y with | some acc => matT n acc xs ys | none => none)
  | _, _ => none
def matB (n : Nat) (acc : List A) : Bl → Bl → Option (List A)
  | [], [] => some acc
  | none :: xs, _ :: ys => matB n acc xs ys
  | some (l, t) :: xs, some (l', t') :: ys => if t == t' then (match mat n acc l l' with | some acc => matB n acc xs ys | none => none) else none
  | _, _ => none
def matSt (n : Nat) (hd st : St) : Option (List A) :=
  match matT n [] hd.tmps st.tmps with
  | some acc => matB n acc hd.blocks st.blocks
  | none => none
/-- The state at a loop's head: what its rounds write is not known but by name. -/
def dstsOf : Code → List Tmp
  | .region _ ops _ => ops.toList.filterMap (·.dst)
  | .seq a b => dstsOf a ++ dstsOf b
  | .cond _ a b => dstsOf a ++ dstsOf b
  | .block _ a => dstsOf a
  | .loop a => dstsOf a
  | _ => []
def strsOf (st : St) : Code → List Nat
  | .region _ ops _ => storedIn ops st
  | .seq a b => strsOf st a ++ strsOf st b
  | .cond _ a b => strsOf st a ++ strsOf st b
  | .block _ a => strsOf st a
  | .loop a => strsOf st a
  | _ => []
def hvS (n i : Nat) : SV → SV × Nat
  | .v (.s a) => if a.noPtr then (.v (.s (.c n i)), i + 1) else (.any, i)
  | .v (.g l) => if l.all A.noPtr then (.v (.g ((List.range' i l.length).map (.c n))), i + l.length) else (.any, i)
  | _ => (.any, i)
def hvT (n : Nat) (T : List Tmp) : Nat → Nat → List SV → List SV × Nat
  | _, i, [] => ([], i)
  | k, i, s :: r =>
    let (s', i') := if T.contains k then hvS n i s else (s, i)
    let (r', i'') := hvT n T (k + 1) i' r
    (s' :: r', i'')
def hvB (n : Nat) (T : List Nat) : Nat → Nat → Bl → Bl
  | _, _, [] => []
  | k, i, b :: r =>
    match b with
    | some (l, t) => if T.contains k then some ((List.range' i l.length).map (.c n), t) :: hvB n T (k + 1) (i + l.length) r else some (l, t) :: hvB n T (k + 1) i r
    | none => none :: hvB n T (k + 1) i r
def havoc (st : St) (c : Code) : St :=
  let (ts, i) := hvT st.nv (dstsOf c) 0 0 st.tmps
  { tmps := ts, blocks := hvB st.nv (strsOf st c) 0 i st.blocks, nv := st.nv + 1 }

inductive KI where
  | code (c : Code)
  | blk (id : Nat)
  | back (d : Nat) (hd : St) (m : Nat)
def depth : List KI → Nat
  | [] => 0
  | .back _ _ _ :: k => depth k + 1
  | _ :: k => depth k
def exitK (id : Nat) : List KI → Option (List KI)
  | .blk i :: k => if i = id then some k else exitK id k
  | .code _ :: k => exitK id k
  | .back _ _ _ :: k => exitK id k
  | [] => none
def run (P : Program) (D : TypeId → Bool) (fn : Func) : Nat → List KI → St → Option (Tr × List (RT × RT))
  | 0, _, _ => none
  | _ + 1, [], st => retT P fn st
  | f + 1, .blk _ :: k, st => run P D fn f k st
  | _ + 1, .back d hd m :: _, st => (match matSt (hd.nv - 1) hd st with | some vs => if vs.length = m then some (.back d vs, []) else none | none => none)
  | f + 1, .code c :: k, st =>
    match c with
    | .skip => run P D fn f k st
    | .seq a b => run P D fn f (.code a :: .code b :: k) st
    | .block id a => run P D fn f (.code a :: .blk id :: k) st
    | .exit id => (match exitK id k with | some k' => run P D fn f k' st | none => none)
    | .ret => retT P fn st
    | .loop a =>
      let hd := havoc st a
      (match matSt st.nv hd st with
       | some init =>
         if st.sc && hd.sc && decide (hd.nv = st.nv + 1) && (List.range st.blocks.length).all (fun j => !st.blocks.has j || hd.blocks.has j) then
           (match run P D fn f (.code a :: .back (depth k) hd init.length :: k) hd with | some (t, q) => some (.loop (depth k) init t, q) | none => none)
         else none
       | none => none)
    | .cond c x y =>
      (match st.ev c with
       | .v (.s (.k (.bool b))) => run P D fn f (.code (if b then x else y) :: k) st
       | .v (.s (.c i j)) =>
         (match run P D fn f (.code x :: k) (st.sub i j true), run P D fn f (.code y :: k) (st.sub i j false) with
          | some (t1, q1), some (t2, q2) => some (.cond (.c i j) t1 t2, q1 ++ q2)
          | _, _ => none)
       | _ => none)
    | .region _ ops false => RQ.bind (exL P D ops (List.range ops.size) st) (run P D fn f k)
    | .region _ ops true =>
      let T := storedIn ops st
      let okL := fun j => st.blocks.has j && !T.contains j
      if Region.noSelect ops then RQ.bind (exT P D ops okL (xOps D ops st) ops.size (Array.replicate ops.size false) true st) (run P D fn f k) else none
    | _ => none
/-- The row of a function; and what must be the same. -/
def rowQ (P : Program) (D : TypeId → Bool) (f : FuncId) : Option (Tr × List (RT × RT)) :=
  match P.funcs[f]? with
  | some fn =>
    (match fn.body, fn.params.toList.mapM (shapeOf P) with
     | some c, some sh =>
       let ps := sh.zipIdx.map (fun (s, i) => SV.v (v1of i 0 s))
       let n := fn.ntmps - ps.length
       run P D fn 300 [.code c] { tmps := ps ++ List.replicate n .u, blocks := List.replicate (ps.length + n) none, nv := ps.length }
     | _, _ => none)
  | none => none
def rowOf (P : Program) (D : TypeId → Bool) (f : FuncId) : Option Tr := (rowQ P D f).map (·.1)
def eqsOf (P : Program) (D : TypeId → Bool) (f : FuncId) : List (RT × RT) := match rowQ P D f with | some (_, q) => q | none => []

end Cin
/- The walk that is reckoned is sound. No program. -/
namespace Cin
open Go Go.RowKit

section den
variable {ρ ρ' : List Nat} {E e : Env} {bl : Bl}
theorem A.den_ext {a : A} (h : a.sc E.length bl = true) (hρ : ∀ j, bl.has j = true → ρ'.getD j 0 = ρ.getD j 0) : a.den ρ' (E ++ e) = a.den ρ E := by
  cases a with
  | c i n => simp only [A.sc, decide_eq_true_eq] at h; simp [A.den, List.getD_eq_getElem?_getD, List.getElem?_append_left h]
  | k v => rfl
  | p j o => simp only [A.sc] at h; simp only [A.den, hρ j h]
theorem den_list_ext {l : List A} (h : l.all (A.sc E.length bl) = true) (hρ : ∀ j, bl.has j = true → ρ'.getD j 0 = ρ.getD j 0) : l.map (A.den ρ' (E ++ e)) = l.map (A.den ρ E) :=
  List.map_congr_left fun a ha => A.den_ext (List.all_eq_true.1 h a ha) hρ
theorem V1.den_ext {x : V1} (h : x.atoms.all (A.sc E.length bl) = true) (hρ : ∀ j, bl.has j = true → ρ'.getD j 0 = ρ.getD j 0) : x.den ρ' (E ++ e) = x.den ρ E := by
  cases x with
  | s a => exact A.den_ext (by simpa [V1.atoms] using h) hρ
  | g l => simp only [V1.den]; rw [den_list_ext (by simpa [V1.atoms] using h) hρ]
theorem SV.den_ext {x : SV} (h : x.atoms.all (A.sc E.length bl) = true) (hρ : ∀ j, bl.has j = true → ρ'.getD j 0 = ρ.getD j 0) : x.den ρ' (E ++ e) = x.den ρ E := by
  cases x with
  | v x => exact V1.den_ext h hρ
  | t l =>
    simp only [SV.den]
    congr 2
    refine List.map_congr_left fun x hx => V1.den_ext ?_ hρ
    simp only [SV.atoms, List.all_eq_true, List.mem_flatMap] at h ⊢
    exact fun a ha => h a ⟨x, hx, ha⟩
  | u => rfl
  | any => rfl
theorem A.den_noPtr {a : A} (h : a.noPtr = true) : a.den ρ E = a.den [] E := by
  cases a with
  | p j o => simp [A.noPtr] at h
  | _ => rfl
theorem V1.den_noPtr {x : V1} (h : x.atoms.all A.noPtr = true) : x.den ρ E = x.den [] E := by
  cases x with
  | s a => exact A.den_noPtr (by simpa [V1.atoms] using h)
  | g l =>
    have e : l.map (A.den ρ E) = l.map (A.den [] E) := List.map_congr_left fun a ha => A.den_noPtr (List.all_eq_true.1 h a ha)
    simp only [V1.den, e]
theorem A.den_fine {a : A} (hE : ∀ cs ∈ E, ∀ v ∈ cs, v.oneCell' = true) (h : a.fine = true) : (a.den ρ E).oneCell' = true := by
  cases a with
  | c i n =>
    simp only [A.den, List.getD_eq_getElem?_getD]
    cases hi : E[i]? with
    | none => simp; rfl
    | some cs =>
      simp only [Option.getD_some]
      cases hn : cs[n]? with
      | none => rfl
      | some v => exact hE cs (List.mem_of_getElem? hi) v (List.mem_of_getElem? hn)
  | k v => exact h
  | p j o => rfl
theorem cells_one {v : Value} (h : v.oneCell' = true) : v.cells = #[v] := by cases v <;> first | rfl | simp [Value.oneCell'] at h
theorem V1.den_cells {x : V1} (hE : ∀ cs ∈ E, ∀ v ∈ cs, v.oneCell' = true) (h : x.atoms.all A.fine = true) : (x.den ρ E).cells = (x.atoms.map (A.den ρ E)).toArray := by
  cases x with
  | s a => simp only [V1.den, V1.atoms]; rw [cells_one (A.den_fine hE (by simpa [V1.atoms] using h))]; rfl
  | g l => rfl
end den

/-- What holds data stays as it was. -/
structure Ext (D : TypeId → Bool) (u w : World) : Prop where
  size : u.heap.size ≤ w.heap.size
  block : ∀ (b : Nat) (c : Array Value) (t : TypeId) (f : Nat × Nat), u.heap[b]? = some (Obj.cells c t f) → D t = true → w.heap[b]? = some (Obj.cells c t f)
section
variable {D : TypeId → Bool} {u w w' : World}
theorem Ext.refl (D : TypeId → Bool) (w : World) : Ext D w w := ⟨Nat.le_refl _, fun _ _ _ _ h _ => h⟩
theorem Ext.trans (h : Ext D u w) (h' : Ext D w w') : Ext D u w' := ⟨Nat.le_trans h.size h'.size, fun b c t f hb ht => h'.block b c t f (h.block b c t f hb ht) ht⟩
theorem Ext.of_below (h : Below w.heap.size w w') : Ext D w w' := ⟨h.size, fun b _ _ _ hb _ => (h.block b (lt_of_heap hb)).trans hb⟩
theorem Ext.below (h : Ext D u w) (h' : Below w.heap.size w w') : Ext D u w' := h.trans (Ext.of_below h')
theorem Ext.weak {Z : TypeId → Bool} (hZ : ∀ t, Z t = true → D t = true) (h : Ext D u w) : Ext Z u w := ⟨h.size, fun b c t f hb ht => h.block b c t f hb (hZ t ht)⟩
/-- Only shared memory that may be written has changed. -/
structure Chg (D Z : TypeId → Bool) (w w' : World) : Prop where
  size : w.heap.size ≤ w'.heap.size
  block : ∀ (b : Nat) (c : Array Value) (t : TypeId) (f : Nat × Nat), w.heap[b]? = some (Obj.cells c t f) → (D t = false ∨ Z t = true) → w'.heap[b]? = some (Obj.cells c t f)
theorem Chg.ext {Z : TypeId → Bool} (h : Chg D Z w w') : Ext Z w w' := ⟨h.size, fun b c t f hb ht => h.block b c t f hb (.inr ht)⟩
theorem Chg.of_below {Z : TypeId → Bool} (h : Below w.heap.size w w') : Chg D Z w w' := ⟨h.size, fun b _ _ _ hb _ => (h.block b (lt_of_heap hb)).trans hb⟩
theorem Ext.drew (h : Ext D u w) : Ext D u w.drew := ⟨h.size, h.block⟩
end

def St.at (st : St) (ρ : List Nat) (E : Env) (j : Nat) : Option (Nat × Array Value × TypeId) :=
  match st.blocks[j]? with
  | some (some b) => some (ρ.getD j 0, (b.1.map (A.den ρ E)).toArray, b.2)
  | _ => none
theorem St.at_of {st : St} {ρ : List Nat} {E : Env} {j : Nat} {b : List A × TypeId} (h : st.blocks[j]? = some (some b)) : st.at ρ E j = some (ρ.getD j 0, (b.1.map (A.den ρ E)).toArray, b.2) := by unfold St.at; rw [h]
theorem St.of_at {st : St} {ρ : List Nat} {E : Env} {j : Nat} {x : Nat × Array Value × TypeId} (h : st.at ρ E j = some x) : ∃ b, st.blocks[j]? = some (some b) ∧ x = (ρ.getD j 0, (b.1.map (A.den ρ E)).toArray, b.2) := by
  unfold St.at at h
  split at h
  · rename_i b hb; exact ⟨b, hb, (Option.some.inj h).symm⟩
  · cases h
theorem Bl.has_iff {bl : Bl} {j : Nat} : bl.has j = true ↔ ∃ b, bl[j]? = some (some b) := by
  unfold Bl.has
  split
  · rename_i b hb; exact ⟨fun _ => ⟨b, hb⟩, fun _ => rfl⟩
  · rename_i hb; exact ⟨fun h => (by cases h), fun ⟨b, h⟩ => absurd h (hb b)⟩

structure Inv (D : TypeId → Bool) (w0 : World) (st : St) (ρ : List Nat) (E : Env) (u : World) (a : Act) (w : World) : Prop where
  nb : ρ.length = st.blocks.length
  nv : E.length = st.nv
  plain : ∀ cs ∈ E, ∀ v ∈ cs, v.oneCell' = true
  size : a.tmps.size = st.tmps.length
  tmps : ∀ i, (st.tmps.getD i .u).Rep ρ E (a.tmps.getD i undef)
  defers : a.defers = []
  blk : ∀ j b c t, st.at ρ E j = some (b, c, t) → w.heap[b]? = some (Obj.cells c t (0, 0)) ∧ w0.heap.size ≤ b ∧ D t = false
  inj : ∀ i j, st.blocks.has i = true → st.blocks.has j = true → ρ.getD i 0 = ρ.getD j 0 → i = j
  below : Below w0.heap.size w0 w
  ext : Ext D u w

section inv
variable {D : TypeId → Bool} {w0 u w w' : World} {st : St} {ρ : List Nat} {E : Env} {a : Act} {P : Program}

theorem Inv.ev (h : Inv D w0 st ρ E u a w) (x : Operand) : (st.ev x).Rep ρ E (a.eval x) := by
  cases x with
  | tmp t => exact h.tmps t
  | const v =>
    intro hA
    cases v <;> first | rfl | (simp [St.ev, SV.isAny] at hA; done) | (simp [St.ev, SV.den, V1.den, Act.eval, Function.comp_def, A.den])
  | global g => exact fun _ => rfl
  | func f => intro hA; simp [St.ev, SV.isAny] at hA
theorem Inv.ev_v (h : Inv D w0 st ρ E u a w) {x : Operand} {y : V1} (e : st.ev x = .v y) : a.eval x = y.den ρ E := by
  have := h.ev x; rw [e] at this; exact this rfl
theorem Inv.ev_t (h : Inv D w0 st ρ E u a w) {x : Operand} {l : List V1} (e : st.ev x = .t l) : a.eval x = .tuple (l.map (V1.den ρ E)).toArray := by
  have := h.ev x; rw [e] at this; exact this rfl
theorem Inv.arg (h : Inv D w0 st ρ E u a w) {x : Operand} {y : V1} (e : st.arg x = some y) : a.eval x = y.den [] E := by
  unfold St.arg at e
  split at e
  · rename_i z hz
    split at e
    · rename_i hn; cases e; rw [h.ev_v hz, V1.den_noPtr hn]
    · cases e
  · cases e
theorem Inv.args (h : Inv D w0 st ρ E u a w) : ∀ {xs : List Operand} {ys : List V1}, st.args xs = some ys → xs.map a.eval = ys.map (V1.den [] E)
  | [], ys, e => by cases e; rfl
  | x :: xs, ys, e => by
    unfold St.args at e
    split at e
    · rename_i y ys' h1 h2
      cases e
      simp only [List.map_cons, h.arg h1, h.args h2]
    · cases e
theorem Inv.put (h : Inv D w0 st ρ E u a w) {s : SV} {v : Value} (hs : s.Rep ρ E v) (dst : Option Tmp) : Inv D w0 (st.put dst s) ρ E u (a.put dst v) w := by
  cases dst with
  | none => exact h
  | some d =>
    refine ⟨h.nb, h.nv, h.plain, ?_, ?_, h.defers, h.blk, h.inj, h.below, h.ext⟩
    · simp [St.put, Act.put, h.size]
    · intro i
      have hi := h.tmps i
      simp only [St.put, Act.put, List.getD_eq_getElem?_getD, Array.getD_eq_getD_getElem?, List.getElem?_set, Array.getElem?_setIfInBounds] at hi ⊢
      by_cases hd : d = i
      · subst hd
        by_cases hl : d < st.tmps.length
        · rw [if_pos rfl, if_pos rfl, if_pos hl, if_pos (by rw [h.size]; exact hl)]; exact hs
        · rw [if_pos rfl, if_pos rfl, if_neg hl, if_neg (by rw [h.size]; exact hl)]; exact fun _ => rfl
      · rw [if_neg hd, if_neg hd]; exact hi
theorem St.at_put (st : St) (dst : Option Tmp) (s : SV) (j : Nat) : (st.put dst s).at ρ E j = st.at ρ E j := by cases dst <;> rfl
theorem St.sc_tmps (h : st.sc = true) (i : Nat) : (st.tmps.getD i .u).atoms.all (A.sc st.nv st.blocks) = true := by
  simp only [St.sc, Bool.and_eq_true, List.all_eq_true] at h
  rw [List.getD_eq_getElem?_getD]
  cases hi : st.tmps[i]? with
  | none => rfl
  | some s => exact List.all_eq_true.2 (h.1 s (List.mem_of_getElem? hi))
theorem St.sc_blk (h : st.sc = true) {j : Nat} {b : List A × TypeId} (hj : st.blocks[j]? = some (some b)) : b.1.all (A.sc st.nv st.blocks) = true := by
  simp only [St.sc, Bool.and_eq_true] at h
  exact List.all_eq_true.1 h.2 (some b) (List.mem_of_getElem? hj)
theorem Rep_ext {s : SV} {v : Value} {ρ' : List Nat} {e : Env} {bl : Bl} (h : s.Rep ρ E v) (hs : s.atoms.all (A.sc E.length bl) = true) (hρ : ∀ j, bl.has j = true → ρ'.getD j 0 = ρ.getD j 0) : s.Rep ρ' (E ++ e) v := by
  intro hA; rw [SV.den_ext hs hρ]; exact h hA
theorem St.at_ext (hs : st.sc = true) (hv : E.length = st.nv) (ρ' : List Nat) (hρ : ∀ j, st.blocks.has j = true → ρ'.getD j 0 = ρ.getD j 0) (e : Env) (j : Nat) : st.at ρ' (E ++ e) j = st.at ρ E j := by
  unfold St.at
  split
  · rename_i b hb
    rw [den_list_ext (by rw [hv]; exact St.sc_blk hs hb) hρ, hρ j (Bl.has_iff.2 ⟨b, hb⟩)]
  · rfl
section sub
variable {i n : Nat} {b : Bool}
theorem A.den_sub (h : A.den [] E (.c i n) = .bool b) (x : A) : (x.sub i n b).den ρ E = x.den ρ E := by
  cases x with
  | c i' n' =>
    simp only [A.sub]
    split
    · rename_i e
      simp only [Bool.and_eq_true, beq_iff_eq] at e
      obtain ⟨rfl, rfl⟩ := e
      exact h.symm
    · rfl
  | k v => rfl
  | p j o => rfl
theorem den_list_sub (h : A.den [] E (.c i n) = .bool b) (l : List A) : (l.map (A.sub i n b)).map (A.den ρ E) = l.map (A.den ρ E) := by
  rw [List.map_map]; exact List.map_congr_left fun x _ => A.den_sub h x
theorem V1.den_sub (h : A.den [] E (.c i n) = .bool b) (x : V1) : (x.sub i n b).den ρ E = x.den ρ E := by
  cases x with
  | s a => exact A.den_sub h a
  | g l => simp only [V1.sub, V1.den, den_list_sub h]
theorem Rep_sub (h : A.den [] E (.c i n) = .bool b) {s : SV} {v : Value} (hs : s.Rep ρ E v) : (s.sub i n b).Rep ρ E v := by
  intro _
  cases s with
  | v x => simp only [SV.sub, SV.den, V1.den_sub h]; exact hs rfl
  | t l =>
    have e : (l.map (V1.sub i n b)).map (V1.den ρ E) = l.map (V1.den ρ E) := by rw [List.map_map]; exact List.map_congr_left fun x _ => V1.den_sub h x
    simp only [SV.sub, SV.den, e]; exact hs rfl
  | u => exact hs rfl
  | any => rename_i hA; simp [SV.sub, SV.isAny] at hA
theorem St.at_sub (h : A.den [] E (.c i n) = .bool b) (j : Nat) : (st.sub i n b).at ρ E j = st.at ρ E j := by
  unfold St.at St.sub
  simp only [List.getElem?_map]
  cases st.blocks[j]? with
  | none => rfl
  | some x =>
    cases x with
    | none => rfl
    | some x => simp only [Option.map_some, den_list_sub h]
theorem Bl.has_map (f : List A × TypeId → List A × TypeId) (bl : Bl) (j : Nat) : Bl.has (bl.map fun x => x.map f) j = bl.has j := by
  unfold Bl.has
  rw [List.getElem?_map]
  cases bl[j]? with
  | none => rfl
  | some x => cases x <;> rfl
theorem Inv.sub (hI : Inv D w0 st ρ E u a w) (h : A.den [] E (.c i n) = .bool b) : Inv D w0 (st.sub i n b) ρ E u a w := by
  refine ⟨by simp [St.sub, hI.nb], hI.nv, hI.plain, by simp [St.sub, hI.size], fun k => ?_, hI.defers, fun j b' c t hj => hI.blk j b' c t (by rw [← St.at_sub h]; exact hj), fun i j hi hj => hI.inj i j (by rw [← Bl.has_map]; exact hi) (by rw [← Bl.has_map]; exact hj), hI.below, hI.ext⟩
  have := Rep_sub h (hI.tmps k)
  simp only [St.sub, List.getD_eq_getElem?_getD, List.getElem?_map] at this ⊢
  cases hk : st.tmps[k]? with
  | none => rw [hk] at this; exact this
  | some s => rw [hk] at this; exact this
end sub
/-- One value more is known. -/
theorem Inv.more (h : Inv D w0 st ρ E u a w) (hs : st.sc = true) {cs : List Value} (hc : ∀ v ∈ cs, v.oneCell' = true) : Inv D w0 { st with nv := st.nv + 1 : St } ρ (E ++ [cs]) u a w := by
  have hat : ∀ j, ({ st with nv := st.nv + 1 : St }).at ρ (E ++ [cs]) j = st.at ρ E j := fun j => St.at_ext hs h.nv ρ (fun _ _ => rfl) [cs] j
  refine ⟨h.nb, by simp [h.nv], ?_, h.size, ?_, h.defers, fun j b c t hj => h.blk j b c t (by rw [← hat]; exact hj), h.inj, h.below, h.ext⟩
  · intro cs' hm v hv
    rcases List.mem_append.1 hm with hm | hm
    · exact h.plain cs' hm v hv
    · rw [List.mem_singleton.1 hm] at hv; exact hc v hv
  · intro i
    exact Rep_ext (bl := st.blocks) (h.tmps i) (by rw [h.nv]; exact St.sc_tmps hs i) (fun _ _ => rfl)
/-- Behind a call that only makes memory. -/
theorem Inv.called (h : Inv D w0 st ρ E u a w) (hb : Below w.heap.size w w') : Inv D w0 st ρ E w' a w' := by
  refine ⟨h.nb, h.nv, h.plain, h.size, h.tmps, h.defers, fun j b c t hj => ?_, h.inj, bel_on h.below hb, Ext.refl _ _⟩
  obtain ⟨h1, h2⟩ := h.blk j b c t hj
  exact ⟨(hb.block b (lt_of_heap h1)).trans h1, h2⟩
/-- Behind what has made or written shared memory. -/
theorem Inv.chg {Z : TypeId → Bool} (h : Inv D w0 st ρ E u a w) (hc : Chg D Z w w') (hb : Below w0.heap.size w0 w') : Inv D w0 st ρ E w' a w' := by
  refine ⟨h.nb, h.nv, h.plain, h.size, h.tmps, h.defers, fun j b c t hj => ?_, h.inj, hb, Ext.refl _ _⟩
  obtain ⟨h1, h2, h3⟩ := h.blk j b c t hj
  exact ⟨hc.block b c t _ h1 (.inl h3), h2, h3⟩
theorem Inv.drew (h : Inv D w0 st ρ E u a w) : Inv D w0 st ρ E u a w.drew :=
  ⟨h.nb, h.nv, h.plain, h.size, h.tmps, h.defers, fun j b c t hj => h.blk j b c t hj, h.inj, h.below.drew, h.ext.drew⟩
theorem getD_set {ρ : List Nat} {d x : Nat} (j : Nat) : (ρ.set d x).getD j 0 = if d = j ∧ d < ρ.length then x else ρ.getD j 0 := by
  simp only [List.getD_eq_getElem?_getD, List.getElem?_set]
  by_cases h : d = j
  · subst h
    by_cases hl : d < ρ.length
    · simp [hl]
    · simp [hl]
  · simp [h]
/-- A new block of the call's own. -/
theorem Inv.alloc (h : Inv D w0 st ρ E u a w) (hs : st.sc = true) {d : Nat} (hd : st.blocks[d]? = some none) {l : List A} {t : TypeId} (hD : D t = false)
    {c : Array Value} (hc : c = (l.map (A.den (ρ.set d w.heap.size) E)).toArray) :
    Inv D w0 { st with blocks := st.blocks.set d (some (l, t)) : St } (ρ.set d w.heap.size) E u a (w.alloc (.cells c t)) := by
  have hbl := bel_alloc w (.cells c t)
  have hdl : d < ρ.length := by rw [h.nb]; exact (List.getElem?_eq_some_iff.1 hd).1
  have hdb : d < st.blocks.length := (List.getElem?_eq_some_iff.1 hd).1
  have hnd : ∀ j, st.blocks.has j = true → d ≠ j := by
    intro j hj e
    subst e
    obtain ⟨b, hb⟩ := Bl.has_iff.1 hj
    rw [hd] at hb; cases hb
  have hρ : ∀ j, st.blocks.has j = true → (ρ.set d w.heap.size).getD j 0 = ρ.getD j 0 := fun j hj => by
    rw [getD_set, if_neg (fun e => hnd j hj e.1)]
  have hnew : (ρ.set d w.heap.size).getD d 0 = w.heap.size := by rw [getD_set, if_pos ⟨rfl, hdl⟩]
  have hE : E = E ++ [] := (List.append_nil E).symm
  have hat : ∀ j, d ≠ j → ({ st with blocks := st.blocks.set d (some (l, t)) : St }).at (ρ.set d w.heap.size) E j = st.at ρ E j := by
    intro j hj
    have e1 := St.at_ext hs h.nv (ρ.set d w.heap.size) hρ [] j
    rw [List.append_nil] at e1
    rw [← e1]
    unfold St.at
    simp only [List.getElem?_set_ne hj]
  have hhas : ∀ j, Bl.has (st.blocks.set d (some (l, t))) j = true → j = d ∨ st.blocks.has j = true := by
    intro j hj
    by_cases e : d = j
    · exact .inl e.symm
    · right
      unfold Bl.has at hj ⊢
      rw [List.getElem?_set_ne e] at hj; exact hj
  have hold : ∀ j, st.blocks.has j = true → ρ.getD j 0 < w.heap.size := by
    intro j hj
    obtain ⟨b, hb⟩ := Bl.has_iff.1 hj
    exact lt_of_heap (h.blk j _ _ _ (St.at_of hb)).1
  refine ⟨by simp [h.nb], h.nv, h.plain, h.size, ?_, h.defers, ?_, ?_, bel_on h.below hbl, h.ext.below hbl⟩
  · intro i
    have := Rep_ext (bl := st.blocks) (ρ' := ρ.set d w.heap.size) (e := []) (h.tmps i) (by rw [h.nv]; exact St.sc_tmps hs i) hρ
    rw [List.append_nil] at this; exact this
  · intro j b c' t' hj
    by_cases hdj : d = j
    · subst hdj
      rw [St.at_of (b := (l, t)) (by simp [hdb])] at hj
      simp only [Option.some.injEq, Prod.mk.injEq] at hj
      obtain ⟨rfl, rfl, rfl⟩ := hj
      rw [hnew]
      refine ⟨?_, h.below.size, hD⟩
      rw [← hc]; exact new_block _ _
    · rw [hat j hdj] at hj
      obtain ⟨h1, h2⟩ := h.blk j b c' t' hj
      exact ⟨(hbl.block b (lt_of_heap h1)).trans h1, h2⟩
  · intro i j hi hj he
    rcases hhas i hi with rfl | hi' <;> rcases hhas j hj with rfl | hj'
    · rfl
    · rw [hnew, hρ j hj'] at he; have := hold j hj'; omega
    · rw [hnew, hρ i hi'] at he; have := hold i hi'; omega
    · rw [hρ i hi', hρ j hj'] at he; exact h.inj i j hi' hj' he
/-- A store into a block of the call's own. -/
theorem Inv.store (h : Inv D w0 st ρ E u a w) {j : Nat} {b : List A × TypeId} (hj : st.blocks[j]? = some (some b)) (l : List A) {c : Array Value} (hc : c = (l.map (A.den ρ E)).toArray) :
    Inv D w0 { st with blocks := st.blocks.set j (some (l, b.2)) : St } ρ E u a (w.setRow (ρ.getD j 0) c) := by
  have hat := St.at_of (ρ := ρ) (E := E) hj
  obtain ⟨h1, h2, h3⟩ := h.blk j _ _ _ hat
  have hlj : j < st.blocks.length := (List.getElem?_eq_some_iff.1 hj).1
  have hoth : ∀ k, k ≠ ρ.getD j 0 → (w.setRow (ρ.getD j 0) c).heap[k]? = w.heap[k]? := by
    intro k hk
    unfold World.setRow
    simp only [Array.getElem?_modify]
    rw [if_neg (fun e => hk e.symm)]
  have hsz : (w.setRow (ρ.getD j 0) c).heap.size = w.heap.size := by simp [World.setRow]
  have hhas : ∀ i, Bl.has (st.blocks.set j (some (l, b.2))) i = true → st.blocks.has i = true := by
    intro i hi
    by_cases e : j = i
    · subst e; exact Bl.has_iff.2 ⟨b, hj⟩
    · unfold Bl.has at hi ⊢
      rw [List.getElem?_set_ne e] at hi; exact hi
  refine ⟨by simp [h.nb], h.nv, h.plain, h.size, h.tmps, h.defers, ?_, fun i k hi hk => h.inj i k (hhas i hi) (hhas k hk), ?_, ?_⟩
  · intro i b' c' t' hi
    by_cases hij : j = i
    · subst hij
      rw [St.at_of (b := (l, b.2)) (by simp [hlj])] at hi
      simp only [Option.some.injEq, Prod.mk.injEq] at hi
      obtain ⟨rfl, rfl, rfl⟩ := hi
      refine ⟨?_, h2, h3⟩
      rw [← hc]; exact setRow_heap w _ _ c _ _ h1
    · have e : ({ st with blocks := st.blocks.set j (some (l, b.2)) : St }).at ρ E i = st.at ρ E i := by
        unfold St.at; simp only [List.getElem?_set_ne hij]
      rw [e] at hi
      obtain ⟨g1, g2⟩ := h.blk i b' c' t' hi
      refine ⟨?_, g2⟩
      rw [hoth b' ?_]; exact g1
      intro eb
      obtain ⟨x, hx, hxe⟩ := St.of_at hi
      simp only [Prod.mk.injEq] at hxe
      exact hij (h.inj j i (Bl.has_iff.2 ⟨b, hj⟩) (Bl.has_iff.2 ⟨x, hx⟩) (by rw [← hxe.1]; exact eb.symm))
  · refine ⟨h.below.os, h.below.tape, h.below.output, by rw [hsz]; exact h.below.size, fun k hk => ?_⟩
    rw [hoth k (by omega)]; exact h.below.block k hk
  · refine ⟨by rw [hsz]; exact h.ext.size, fun k c' t' f hk ht => ?_⟩
    have := h.ext.block k c' t' f hk ht
    rw [hoth k ?_]; exact this
    intro e
    rw [e, h1] at this
    simp only [Option.some.injEq, Obj.cells.injEq] at this
    rw [this.2.1, ht] at h3; cases h3

/-- One comes from the other: nothing that was there is gone. -/
structure Adv (D : TypeId → Bool) (st : St) (ρ : List Nat) (E : Env) (u : World) (st' : St) (ρ' : List Nat) (E' : Env) (u' : World) : Prop where
  env : ∃ e, E' = E ++ e
  rho : ∀ j, st.blocks.has j = true → st'.blocks.has j = true ∧ ρ'.getD j 0 = ρ.getD j 0
  ext : Ext D u u'
theorem has_put (st : St) (dst : Option Tmp) (s : SV) : (st.put dst s).blocks = st.blocks := by cases dst <;> rfl
theorem Adv.put (st : St) (ρ : List Nat) (E : Env) (u : World) (dst : Option Tmp) (s : SV) : Adv D st ρ E u (st.put dst s) ρ E u := ⟨⟨[], by simp⟩, fun j h => ⟨by rw [has_put]; exact h, rfl⟩, Ext.refl _ _⟩
theorem Adv.more (st : St) (ρ : List Nat) (E : Env) {u u' : World} (h : Ext D u u') (cs : List Value) (n : Nat) (dst : Option Tmp) (s : SV) : Adv D st ρ E u ({ st with nv := n : St }.put dst s) ρ (E ++ [cs]) u' := ⟨⟨[cs], rfl⟩, fun j h => ⟨by rw [has_put]; exact h, rfl⟩, h⟩
theorem Adv.set (st : St) (ρ : List Nat) (E : Env) (u : World) {d : Nat} (hd : st.blocks[d]? = some none) (a : Nat) (x : List A × TypeId) (dst : Option Tmp) (s : SV) : Adv D st ρ E u ({ st with blocks := st.blocks.set d (some x) : St }.put dst s) (ρ.set d a) E u := by
  refine ⟨⟨[], by simp⟩, fun j h => ?_, Ext.refl _ _⟩
  obtain ⟨b, hb⟩ := Bl.has_iff.1 h
  have hdj : d ≠ j := fun e => by subst e; rw [hd] at hb; cases hb
  refine ⟨by rw [has_put]; exact Bl.has_iff.2 ⟨b, by simp only [List.getElem?_set_ne hdj]; exact hb⟩, ?_⟩
  rw [getD_set, if_neg (fun e => hdj e.1)]
theorem Adv.str (st : St) (ρ : List Nat) (E : Env) (u : World) {d : Nat} {b : List A × TypeId} (hd : st.blocks[d]? = some (some b)) (x : List A × TypeId) (dst : Option Tmp) (s : SV) : Adv D st ρ E u ({ st with blocks := st.blocks.set d (some x) : St }.put dst s) ρ E u := by
  refine ⟨⟨[], by simp⟩, fun j h => ⟨?_, rfl⟩, Ext.refl _ _⟩
  rw [has_put]
  by_cases e : d = j
  · subst e
    exact Bl.has_iff.2 ⟨x, by simp [(List.getElem?_eq_some_iff.1 hd).1]⟩
  · obtain ⟨c, hc⟩ := Bl.has_iff.1 h
    exact Bl.has_iff.2 ⟨c, by simp only [List.getElem?_set_ne e]; exact hc⟩
theorem Adv.trans {st1 st2 st3 : St} {ρ1 ρ2 ρ3 : List Nat} {E1 E2 E3 : Env} {u1 u2 u3 : World} (h : Adv D st1 ρ1 E1 u1 st2 ρ2 E2 u2) (h' : Adv D st2 ρ2 E2 u2 st3 ρ3 E3 u3) : Adv D st1 ρ1 E1 u1 st3 ρ3 E3 u3 := by
  obtain ⟨e, he⟩ := h.env
  obtain ⟨e', he'⟩ := h'.env
  exact ⟨⟨e ++ e', by rw [he', he, List.append_assoc]⟩, fun j hj => ⟨(h'.rho j (h.rho j hj).1).1, (h'.rho j (h.rho j hj).1).2.trans (h.rho j hj).2⟩, h.ext.trans h'.ext⟩
theorem Adv.refl (D : TypeId → Bool) (st : St) (ρ : List Nat) (E : Env) (u : World) : Adv D st ρ E u st ρ E u := ⟨⟨[], by simp⟩, fun _ h => ⟨h, rfl⟩, Ext.refl _ _⟩
theorem Adv.of_sub {st' : St} {ρ' : List Nat} {E' : Env} {u' : World} {i n : Nat} {b : Bool} (h : Adv D (st.sub i n b) ρ E u st' ρ' E' u') : Adv D st ρ E u st' ρ' E' u' :=
  ⟨h.env, fun j hj => h.rho j (by unfold St.sub; rw [Bl.has_map]; exact hj), h.ext⟩
end inv

section heads
theorem beqV_ok : ∀ {v u : Value}, beqV v u = true → v = u := by
  intro v u h
  unfold beqV at h
  split at h
  · simp at h; rw [h]
  · simp at h; rw [h.1, h.2]
  · simp at h; rw [h.1, h.2]
  · rename_i s r
    simp only [beq_iff_eq] at h
    cases s; cases r
    congr 1
    congr 1
    exact Array.toList_inj.1 h
  · rfl
  · rfl
  · simp at h; rw [h.1, h.2]
  · rfl
  · cases h
theorem beqA_ok {x y : A} (h : beqA x y = true) : x = y := by
  unfold beqA at h
  split at h
  · simp at h; rw [h.1, h.2]
  · rw [beqV_ok h]
  · simp at h; rw [h.1, h.2]
  · cases h
/-- x, by what stands for the n-th value's cells, is y. -/
def Mt (n : Nat) (vs : List A) (x y : A) : Prop := (∃ m, x = .c n m ∧ vs[m]? = some y ∧ y.noPtr = true ∧ y.fine = true) ∨ (x = y ∧ ∀ m, x ≠ .c n m)
theorem Mt.mono {n : Nat} {vs e : List A} {x y : A} (h : Mt n vs x y) : Mt n (vs ++ e) x y := by
  rcases h with ⟨m, hx, hm, r⟩ | h
  · exact .inl ⟨m, hx, by rw [List.getElem?_append_left (List.getElem?_eq_some_iff.1 hm).1]; exact hm, r⟩
  · exact .inr h
def MtL (n : Nat) (vs : List A) : List A → List A → Prop
  | [], [] => True
  | x :: xs, y :: ys => Mt n vs x y ∧ MtL n vs xs ys
  | _, _ => False
theorem MtL.mono {n : Nat} {vs e : List A} : ∀ {xs ys : List A}, MtL n vs xs ys → MtL n (vs ++ e) xs ys
  | [], [], _ => trivial
  | _ :: _, _ :: _, h => ⟨h.1.mono, MtL.mono h.2⟩
  | [], _ :: _, h => h.elim
  | _ :: _, [], h => h.elim
def Fin' (vs : List A) : Prop := ∀ x ∈ vs, x.noPtr = true ∧ x.fine = true
theorem mat_ok {n : Nat} : ∀ {xs ys acc vs : List A}, mat n acc xs ys = some vs → Fin' acc → (∃ e, vs = acc ++ e) ∧ MtL n vs xs ys ∧ Fin' vs
  | [], [], acc, vs, h, hf => by cases h; exact ⟨⟨[], by simp⟩, trivial, hf⟩
  | [], _ :: _, acc, vs, h, _ => by simp [mat] at h
  | _ :: _, [], acc, vs, h, _ => by simp [mat] at h
  | x :: xs, y :: ys, acc, vs, h, hf => by
    unfold mat at h
    simp only at h
    have same : (if beqA x y then mat n acc xs ys else none) = some vs → (∀ m, x ≠ .c n m) → (∃ e, vs = acc ++ e) ∧ MtL n vs (x :: xs) (y :: ys) ∧ Fin' vs := by
      intro h hx
      split at h
      · rename_i hb
        obtain ⟨he, hm, hf'⟩ := mat_ok h hf
        exact ⟨he, ⟨.inr ⟨beqA_ok hb, hx⟩, hm⟩, hf'⟩
      · cases h
    split at h
    · rename_i i m
      split at h
      · rename_i hin
        simp only [beq_iff_eq] at hin
        subst hin
        split at h
        · rename_i hc
          simp only [Bool.and_eq_true, beq_iff_eq] at hc
          obtain ⟨⟨hml, hnp⟩, hfi⟩ := hc
          have hf2 : Fin' (acc ++ [y]) := fun z hz => by
            rcases List.mem_append.1 hz with hz | hz
            · exact hf z hz
            · rw [List.mem_singleton.1 hz]; exact ⟨hnp, hfi⟩
          obtain ⟨⟨e, he⟩, hm, hf'⟩ := mat_ok h hf2
          refine ⟨⟨[y] ++ e, by rw [he, List.append_assoc]⟩, ⟨.inl ⟨m, rfl, ?_, hnp, hfi⟩, hm⟩, hf'⟩
          rw [he, hml, List.append_assoc, List.getElem?_append_right (Nat.le_refl _)]; simp
        · cases h
      · rename_i hin
        exact same h (fun m' e => by cases e; simp at hin)
    · rename_i hx
      exact same h (fun m' e => hx _ _ e)
def MtV (n : Nat) (vs : List A) : V1 → V1 → Prop
  | .s a, .s b => MtL n vs [a] [b]
  | .g l, .g l' => MtL n vs l l'
  | _, _ => False
def MtVs (n : Nat) (vs : List A) : List V1 → List V1 → Prop
  | [], [] => True
  | x :: xs, y :: ys => MtV n vs x y ∧ MtVs n vs xs ys
  | _, _ => False
def MtS (n : Nat) (vs : List A) : SV → SV → Prop
  | .any, _ => True
  | .v x, .v y => MtV n vs x y
  | .t l, .t l' => MtVs n vs l l'
  | .u, .u => True
  | _, _ => False
def MtT (n : Nat) (vs : List A) : List SV → List SV → Prop
  | [], [] => True
  | x :: xs, y :: ys => MtS n vs x y ∧ MtT n vs xs ys
  | _, _ => False
def MtB (n : Nat) (vs : List A) : Bl → Bl → Prop
  | [], [] => True
  | none :: xs, _ :: ys => MtB n vs xs ys
  | some (l, t) :: xs, some (l', t') :: ys => t = t' ∧ MtL n vs l l' ∧ MtB n vs xs ys
  | _, _ => False
theorem MtV.mono {n : Nat} {vs e : List A} {x y : V1} (h : MtV n vs x y) : MtV n (vs ++ e) x y := by
  cases x <;> cases y <;> first | exact MtL.mono h | exact h.elim
theorem MtVs.mono {n : Nat} {vs e : List A} : ∀ {xs ys : List V1}, MtVs n vs xs ys → MtVs n (vs ++ e) xs ys
  | [], [], _ => trivial
  | _ :: _, _ :: _, h => ⟨h.1.mono, MtVs.mono h.2⟩
  | [], _ :: _, h => h.elim
  | _ :: _, [], h => h.elim
theorem MtS.mono {n : Nat} {vs e : List A} {x y : SV} (h : MtS n vs x y) : MtS n (vs ++ e) x y := by
  cases x <;> cases y <;> first | exact trivial | exact MtV.mono h | exact MtVs.mono h | exact h.elim
theorem MtT.mono {n : Nat} {vs e : List A} : ∀ {xs ys : List SV}, MtT n vs xs ys → MtT n (vs ++ e) xs ys
  | [], [], _ => trivial
  | _ :: _, _ :: _, h => ⟨h.1.mono, MtT.mono h.2⟩
  | [], _ :: _, h => h.elim
  | _ :: _, [], h => h.elim
theorem matV_ok {n : Nat} {x y : V1} {acc vs : List A} (h : matV n acc x y = some vs) (hf : Fin' acc) : (∃ e, vs = acc ++ e) ∧ MtV n vs x y ∧ Fin' vs := by
  unfold matV at h
  split at h
  · exact mat_ok h hf
  · exact mat_ok h hf
  · cases h
theorem matVs_ok {n : Nat} : ∀ {xs ys : List V1} {acc vs : List A}, matVs n acc xs ys = some vs → Fin' acc → (∃ e, vs = acc ++ e) ∧ MtVs n vs xs ys ∧ Fin' vs
  | [], [], acc, vs, h, hf => by cases h; exact ⟨⟨[], by simp⟩, trivial, hf⟩
  | [], _ :: _, acc, vs, h, _ => by simp [matVs] at h
  | _ :: _, [], acc, vs, h, _ => by simp [matVs] at h
  | x :: xs, y :: ys, acc, vs, h, hf => by
    unfold matVs at h
    split at h
    · rename_i acc' hv
      obtain ⟨⟨e, he⟩, h1, hf1⟩ := matV_ok hv hf
      obtain ⟨⟨e', he'⟩, h2, hf2⟩ := matVs_ok h hf1
      exact ⟨⟨e ++ e', by rw [he', he, List.append_assoc]⟩, ⟨by rw [he']; exact h1.mono, h2⟩, hf2⟩
    · cases h
theorem matS_ok {n : Nat} {x y : SV} {acc vs : List A} (h : matS n acc x y = some vs) (hf : Fin' acc) : (∃ e, vs = acc ++ e) ∧ MtS n vs x y ∧ Fin' vs := by
  unfold matS at h
  split at h
  · cases h; exact ⟨⟨[], by simp⟩, trivial, hf⟩
  · exact matV_ok h hf
  · exact matVs_ok h hf
  · cases h; exact ⟨⟨[], by simp⟩, trivial, hf⟩
  · cases h
theorem matT_ok {n : Nat} : ∀ {xs ys : List SV} {acc vs : List A}, matT n acc xs ys = some vs → Fin' acc → (∃ e, vs = acc ++ e) ∧ MtT n vs xs ys ∧ Fin' vs
  | [], [], acc, vs, h, hf => by cases h; exact ⟨⟨[], by simp⟩, trivial, hf⟩
  | [], _ :: _, acc, vs, h, _ => by simp [matT] at h
  | _ :: _, [], acc, vs, h, _ => by simp [matT] at h
  | x :: xs, y :: ys, acc, vs, h, hf => by
    unfold matT at h
    split at h
    · rename_i acc' hv
      obtain ⟨⟨e, he⟩, h1, hf1⟩ := matS_ok hv hf
      obtain ⟨⟨e', he'⟩, h2, hf2⟩ := matT_ok h hf1
      exact ⟨⟨e ++ e', by rw [he', he, List.append_assoc]⟩, ⟨by rw [he']; exact h1.mono, h2⟩, hf2⟩
    · cases h
theorem matB_ok {n : Nat} : ∀ {xs ys : Bl} {acc vs : List A}, matB n acc xs ys = some vs → Fin' acc → (∃ e, vs = acc ++ e) ∧ MtB n vs xs ys ∧ Fin' vs
  | [], [], acc, vs, h, hf => by cases h; exact ⟨⟨[], by simp⟩, trivial, hf⟩
  | [], _ :: _, acc, vs, h, _ => by simp [matB] at h
  | none :: _, [], acc, vs, h, _ => by simp [matB] at h
  | some _ :: _, [], acc, vs, h, _ => by simp [matB] at h
  | none :: xs, y :: ys, acc, vs, h, hf => by
    unfold matB at h
    exact matB_ok (xs := xs) (ys := ys) h hf
  | some (l, t) :: xs, none :: ys, acc, vs, h, hf => by simp [matB] at h
  | some (l, t) :: xs, some (l', t') :: ys, acc, vs, h, hf => by
    unfold matB at h
    split at h
    · rename_i ht
      split at h
      · rename_i acc' hv
        obtain ⟨⟨e, he⟩, h1, hf1⟩ := mat_ok hv hf
        obtain ⟨⟨e', he'⟩, h2, hf2⟩ := matB_ok h hf1
        exact ⟨⟨e ++ e', by rw [he', he, List.append_assoc]⟩, ⟨by simpa using ht, by rw [he']; exact h1.mono, h2⟩, hf2⟩
      · cases h
    · cases h
theorem matSt_ok {n : Nat} {hd st : St} {vs : List A} (h : matSt n hd st = some vs) : MtT n vs hd.tmps st.tmps ∧ MtB n vs hd.blocks st.blocks ∧ Fin' vs := by
  unfold matSt at h
  split at h
  · rename_i acc ht
    obtain ⟨_, h1, hf1⟩ := matT_ok ht (fun x hx => by cases hx)
    obtain ⟨⟨e, he⟩, h2, hf2⟩ := matB_ok h hf1
    exact ⟨by rw [he]; exact h1.mono, h2, hf2⟩
  · cases h

variable {D : TypeId → Bool} {w0 u w : World} {hd st : St} {ρ ρ0 : List Nat} {E E0 e : Env} {a : Act} {vs : List A}
theorem Mt.den {x y : A} (h : Mt E0.length vs x y) (hE : E = E0 ++ e) (hs : x.sc (E0.length + 1) hd.blocks = true) (hρ : ∀ j, hd.blocks.has j = true → ρ.getD j 0 = ρ0.getD j 0) :
    x.den ρ0 (E0 ++ [vs.map (A.den [] E)]) = y.den ρ E := by
  rcases h with ⟨m, rfl, hm, hnp, _⟩ | ⟨rfl, hx⟩
  · have e1 : (E0 ++ [vs.map (A.den [] E)]).getD E0.length [] = vs.map (A.den [] E) := by
      rw [List.getD_eq_getElem?_getD, List.getElem?_append_right (Nat.le_refl _)]; simp
    have lhs : A.den ρ0 (E0 ++ [vs.map (A.den [] E)]) (.c E0.length m) = A.den [] E y := by
      show ((E0 ++ [vs.map (A.den [] E)]).getD E0.length []).getD m (.bool false) = _
      rw [e1, List.getD_eq_getElem?_getD, List.getElem?_map, hm]; rfl
    rw [lhs, A.den_noPtr (ρ := ρ) hnp]
  · subst hE
    cases x with
    | c i n =>
      simp only [A.sc, decide_eq_true_eq] at hs
      have hi : i < E0.length := by
        rcases Nat.lt_or_ge i E0.length with h | h
        · exact h
        · exact absurd (by rw [show i = E0.length by omega]) (hx n)
      simp only [A.den, List.getD_eq_getElem?_getD, List.getElem?_append_left hi]
    | k v => rfl
    | p j o => simp only [A.sc] at hs; simp only [A.den, hρ j hs]
theorem MtL.den (hE : E = E0 ++ e) (hρ : ∀ j, hd.blocks.has j = true → ρ.getD j 0 = ρ0.getD j 0) : ∀ {xs ys : List A}, MtL E0.length vs xs ys → xs.all (A.sc (E0.length + 1) hd.blocks) = true →
    xs.map (A.den ρ0 (E0 ++ [vs.map (A.den [] E)])) = ys.map (A.den ρ E)
  | [], [], _, _ => rfl
  | x :: xs, y :: ys, h, hs => by
    simp only [List.all_cons, Bool.and_eq_true] at hs
    simp only [List.map_cons, h.1.den hE hs.1 hρ, MtL.den hE hρ h.2 hs.2]
  | [], _ :: _, h, _ => h.elim
  | _ :: _, [], h, _ => h.elim
theorem MtV.den (hE : E = E0 ++ e) (hρ : ∀ j, hd.blocks.has j = true → ρ.getD j 0 = ρ0.getD j 0) {x y : V1} (h : MtV E0.length vs x y) (hs : x.atoms.all (A.sc (E0.length + 1) hd.blocks) = true) :
    x.den ρ0 (E0 ++ [vs.map (A.den [] E)]) = y.den ρ E := by
  cases x with
  | s a => cases y with
    | s b => have := MtL.den hE hρ h hs; simpa [V1.den] using this
    | g l => exact h.elim
  | g l => cases y with
    | s b => exact h.elim
    | g l' => simp only [V1.den]; rw [MtL.den hE hρ h hs]
theorem MtVs.den (hE : E = E0 ++ e) (hρ : ∀ j, hd.blocks.has j = true → ρ.getD j 0 = ρ0.getD j 0) : ∀ {xs ys : List V1}, MtVs E0.length vs xs ys → (xs.flatMap V1.atoms).all (A.sc (E0.length + 1) hd.blocks) = true →
    xs.map (V1.den ρ0 (E0 ++ [vs.map (A.den [] E)])) = ys.map (V1.den ρ E)
  | [], [], _, _ => rfl
  | x :: xs, y :: ys, h, hs => by
    simp only [List.flatMap_cons, List.all_append, Bool.and_eq_true] at hs
    simp only [List.map_cons, h.1.den hE hρ hs.1, MtVs.den hE hρ h.2 hs.2]
  | [], _ :: _, h, _ => h.elim
  | _ :: _, [], h, _ => h.elim
theorem MtS.rep (hE : E = E0 ++ e) (hρ : ∀ j, hd.blocks.has j = true → ρ.getD j 0 = ρ0.getD j 0) {x y : SV} (h : MtS E0.length vs x y) (hs : x.atoms.all (A.sc (E0.length + 1) hd.blocks) = true) {v : Value} (hr : y.Rep ρ E v) :
    x.Rep ρ0 (E0 ++ [vs.map (A.den [] E)]) v := by
  intro hA
  cases x with
  | any => simp [SV.isAny] at hA
  | v x => cases y with
    | v y => rw [hr rfl]; exact (MtV.den hE hρ h hs).symm
    | t l => exact h.elim
    | u => exact h.elim
    | any => exact h.elim
  | t l => cases y with
    | t l' => rw [hr rfl]; simp only [SV.den]; rw [MtVs.den hE hρ h hs]
    | v y => exact h.elim
    | u => exact h.elim
    | any => exact h.elim
  | u => cases y with
    | u => exact hr rfl
    | v y => exact h.elim
    | t l => exact h.elim
    | any => exact h.elim
theorem MtT.len {n : Nat} {vs : List A} : ∀ {xs ys : List SV}, MtT n vs xs ys → xs.length = ys.length
  | [], [], _ => rfl
  | _ :: _, _ :: _, h => by simp [MtT.len h.2]
  | [], _ :: _, h => h.elim
  | _ :: _, [], h => h.elim
theorem MtT.at {n : Nat} {vs : List A} : ∀ {xs ys : List SV}, MtT n vs xs ys → ∀ i, MtS n vs (xs.getD i .u) (ys.getD i .u)
  | [], [], _, i => by simp [MtS]
  | x :: xs, y :: ys, h, 0 => by simpa using h.1
  | x :: xs, y :: ys, h, i + 1 => by simpa using MtT.at h.2 i
  | [], _ :: _, h, _ => h.elim
  | _ :: _, [], h, _ => h.elim
theorem MtB.len {n : Nat} {vs : List A} : ∀ {xs ys : Bl}, MtB n vs xs ys → xs.length = ys.length
  | [], [], _ => rfl
  | none :: xs, _ :: ys, h => by have := MtB.len (xs := xs) (ys := ys) h; simp [this]
  | some (_, _) :: _, some (_, _) :: _, h => by have := MtB.len h.2.2; simp [this]
  | [], _ :: _, h => h.elim
  | none :: _, [], h => h.elim
  | some _ :: _, [], h => h.elim
  | some _ :: _, none :: _, h => h.elim
theorem MtB.at {n : Nat} {vs : List A} : ∀ {xs ys : Bl}, MtB n vs xs ys → ∀ (i : Nat) (l : List A) (t : TypeId), xs[i]? = some (some (l, t)) → ∃ l', ys[i]? = some (some (l', t)) ∧ MtL n vs l l'
  | [], [], _, i, l, t, h => by simp at h
  | none :: xs, y :: ys, hm, 0, l, t, h => by simp at h
  | none :: xs, y :: ys, hm, i + 1, l, t, h => by
    simp only [List.getElem?_cons_succ] at h ⊢
    exact MtB.at (xs := xs) (ys := ys) hm i l t h
  | some (l0, t0) :: xs, some (l1, t1) :: ys, hm, 0, l, t, h => by
    simp only [List.getElem?_cons_zero, Option.some.injEq, Prod.mk.injEq] at h ⊢
    obtain ⟨rfl, rfl⟩ := h
    exact ⟨l1, ⟨rfl, hm.1.symm⟩, hm.2.1⟩
  | some (l0, t0) :: xs, some (l1, t1) :: ys, hm, i + 1, l, t, h => by
    simp only [List.getElem?_cons_succ] at h ⊢
    exact MtB.at hm.2.2 i l t h
  | [], _ :: _, hm, _, _, _, _ => hm.elim
  | none :: _, [], hm, _, _, _, _ => hm.elim
  | some _ :: _, [], hm, _, _, _, _ => hm.elim
  | some _ :: _, none :: _, hm, _, _, _, _ => hm.elim
/-- The state as the loop's head knows it. -/
theorem Inv.head (hI : Inv D w0 st ρ E u a w) (hm : matSt E0.length hd st = some vs) (hE : E = E0 ++ e) (hs : hd.sc = true) (hn : hd.nv = E0.length + 1) (hl : ρ0.length = ρ.length)
    (hρ : ∀ j, hd.blocks.has j = true → ρ.getD j 0 = ρ0.getD j 0) : Inv D w0 hd ρ0 (E0 ++ [vs.map (A.den [] E)]) u a w := by
  obtain ⟨hT, hB, hF⟩ := matSt_ok hm
  have hat : ∀ j x, hd.at ρ0 (E0 ++ [vs.map (A.den [] E)]) j = some x → st.at ρ E j = some x := by
    intro j x hx
    obtain ⟨⟨l, t⟩, hb, rfl⟩ := St.of_at hx
    obtain ⟨l', hb', hml⟩ := hB.at j l t hb
    rw [St.at_of hb']
    have hsl := St.sc_blk hs hb
    rw [hn] at hsl
    simp only [MtL.den hE hρ hml hsl, hρ j (Bl.has_iff.2 ⟨_, hb⟩)]
  have hhas : ∀ j, hd.blocks.has j = true → st.blocks.has j = true := by
    intro j hj
    obtain ⟨⟨l, t⟩, hb⟩ := Bl.has_iff.1 hj
    obtain ⟨l', hb', _⟩ := hB.at j l t hb
    exact Bl.has_iff.2 ⟨_, hb'⟩
  refine ⟨by rw [hl, hI.nb, hB.len], by simp [hn], ?_, by rw [hI.size, hT.len], ?_, hI.defers, fun j b c t hj => hI.blk j b c t (hat j _ hj), ?_, hI.below, hI.ext⟩
  · intro cs hc v hv
    rcases List.mem_append.1 hc with hc | hc
    · exact hI.plain cs (by rw [hE]; exact List.mem_append_left _ hc) v hv
    · rw [List.mem_singleton.1 hc] at hv
      obtain ⟨x, hx, rfl⟩ := List.mem_map.1 hv
      exact A.den_fine hI.plain (hF x hx).2
  · intro i
    have hsi := St.sc_tmps hs i
    rw [hn] at hsi
    exact (hT.at i).rep hE hρ hsi (hI.tmps i)
  · intro i j hi hj he
    rw [← hρ i hi, ← hρ j hj] at he
    exact hI.inj i j (hhas i hi) (hhas j hj) he
end heads

end Cin
/- The walk that is reckoned: one operation. No program. -/
namespace Cin
open Go Go.RowKit

section ops
variable {D : TypeId → Bool} {w0 u w w' : World} {st : St} {ρ : List Nat} {E : Env} {a : Act} {P : Program}

theorem run_part_load {t tt : TypeId} {l : List A} {off b : Nat} {x : V1} (hp : partOf P t l off = some x) (hb : w.heap[b]? = some (.cells (l.map (A.den ρ E)).toArray tt (0, 0))) :
    (loadVar t ⟨b, off, none⟩).run P w = .ok (x.den ρ E) w := by
  unfold partOf at hp
  split at hp
  · rename_i d i hu hi
    split at hp
    · rename_i hd
      split at hp
      · rename_i hl
        cases hp
        have e : ((l.drop off).take i.size).length = i.size := by simp; omega
        refine run_loadVar_mid w b off t (((l.drop off).take i.size).map (A.den ρ E)) d ?_ hu hd (by rw [hi, List.length_map, e]; rfl)
        intro j v hv
        simp only [World.cell?, hb, Option.isSome_none, Bool.false_eq_true, if_false]
        rw [List.getElem?_map, List.getElem?_take] at hv
        split at hv
        · rw [List.getElem?_drop] at hv
          simpa using hv
        · simp at hv
      · cases hp
    · rename_i hd
      cases ho : l[off]? with
      | none => simp [ho] at hp
      | some x' =>
        simp only [ho, Option.map_some, Option.some.injEq] at hp
        subst hp
        have hagg : (isAgg t).run P w = .ok false w := by
          unfold isAgg
          rw [Sem.run_bind, run_underlying hu w]
          cases d <;> simp_all
        have hc : w.cell? ⟨b, off, none⟩ = some (x'.den ρ E) := by simp [World.cell?, hb, ho]
        simp [loadVar, Sem.run_bind, hagg, hc, V1.den]
  · cases hp

theorem run_part {t : TypeId} {l : List A} {off : Nat} {x : V1} (hp : partOf P t l off = some x) : (part t (l.map (A.den ρ E)).toArray off).run P w = .ok (x.den ρ E) w := by
  unfold partOf at hp
  split at hp
  · rename_i d i hu hi
    split at hp
    · rename_i hd
      split at hp
      · rename_i hl
        cases hp
        have hagg : (isAgg t).run P w = .ok true w := by
          unfold isAgg
          rw [Sem.run_bind, run_underlying hu w]
          cases d <;> simp_all
        simp [part, Sem.run_bind, hagg, Go.sizeOf, typeInfo, hi, V1.den, List.extract_eq_take_drop]
      · cases hp
    · rename_i hd
      cases ho : l[off]? with
      | none => simp [ho] at hp
      | some x' =>
        simp only [ho, Option.map_some, Option.some.injEq] at hp
        subst hp
        have hagg : (isAgg t).run P w = .ok false w := by
          unfold isAgg
          rw [Sem.run_bind, run_underlying hu w]
          cases d <;> simp_all
        simp [part, Sem.run_bind, hagg, ho, V1.den]
  · cases hp

theorem setAll_map (off : Nat) : ∀ (l : List (A × Nat)) (cells : List A), ((l.foldl (fun cs (c, j) => cs.set (off + j) c) cells).map (A.den ρ E)).toArray =
    (l.map (fun x => (x.1.den ρ E, x.2))).foldl (fun cs (c, j) => cs.setIfInBounds (off + j) c) (cells.map (A.den ρ E)).toArray
  | [], _ => rfl
  | (c, j) :: l, cells => by
    simp only [List.foldl_cons, List.map_cons]
    rw [setAll_map off l (cells.set (off + j) c)]
    congr 1
    simp [List.map_set]
theorem zipIdx_map {α β : Type} (f : α → β) : ∀ (l : List α) (n : Nat), (l.map f).zipIdx n = (l.zipIdx n).map (fun x => (f x.1, x.2))
  | [], _ => rfl
  | x :: l, n => by simp [zipIdx_map f l (n + 1)]
theorem setAll_len (off : Nat) : ∀ (l : List (A × Nat)) (cells : List A), (l.foldl (fun cs (c, j) => cs.set (off + j) c) cells).length = cells.length
  | [], _ => rfl
  | (c, j) :: l, cells => by simp only [List.foldl_cons]; rw [setAll_len off l]; simp
theorem fillA_ok (hE : ∀ cs ∈ E, ∀ v ∈ cs, v.oneCell' = true) (place : Nat → Option (Nat × Nat)) : ∀ (ps : List (Nat × V1)) (cells l : List A), fillA place cells ps = some l →
    Instr.fill place (cells.map (A.den ρ E)).toArray (ps.map fun p => (p.1, p.2.den ρ E)) = some (l.map (A.den ρ E)).toArray
  | [], cells, l, h => by cases h; rfl
  | (i, x) :: ps, cells, l, h => by
    unfold fillA at h
    simp only [List.map_cons]
    unfold Instr.fill
    cases hp : place i with
    | none => simp [hp] at h
    | some q =>
      obtain ⟨off, size⟩ := q
      simp only [hp] at h ⊢
      split at h
      · rename_i hc
        obtain ⟨h1, h2, h3⟩ := hc
        have ih := fillA_ok hE place ps _ l h
        rw [V1.den_cells hE h3]
        have hcond : (decide ((x.atoms.map (A.den ρ E)).toArray.size ≠ size) || decide (off + (x.atoms.map (A.den ρ E)).toArray.size > (cells.map (A.den ρ E)).toArray.size)) = false := by
          simp [h1]; omega
        rw [if_neg (by rw [hcond]; decide)]
        rw [← ih]
        congr 1
        unfold setAll
        rw [setAll_map, ← zipIdx_map]
        simp
      · cases h
theorem cells_k (z : Value) : (z.cells.toList.map A.k).map (A.den ρ E) = z.cells.toList := by
  rw [List.map_map]; exact List.map_id'' (fun _ => rfl) _
theorem builtA_ok (hE : ∀ cs ∈ E, ∀ v ∈ cs, v.oneCell' = true) {t : TypeId} {ps : List (Nat × V1)} {l : List A} (h : builtA P t ps = some l) :
    P.built t (ps.map fun p => (p.1, p.2.den ρ E)) = some (l.map (A.den ρ E)).toArray := by
  unfold builtA at h
  unfold Program.built
  cases hi : P.info? t with
  | none => simp [hi] at h
  | some it =>
    cases hu : P.underlying t with
    | none => simp [hi, hu] at h
    | some d =>
      cases d <;> try (simp [hi, hu] at h; done)
      case array n e =>
        simp only [hi, hu] at h ⊢
        cases hz : it.zero with
        | none => simp [hz] at h
        | some z =>
          cases he : P.info? e with
          | none => simp [hz, he] at h
          | some ie =>
            simp only [hz, he] at h ⊢
            have := fillA_ok (ρ := ρ) hE _ ps _ l h
            rw [cells_k] at this
            simpa using this
      case struct fs =>
        simp only [hi, hu] at h ⊢
        cases hz : it.zero with
        | none => simp [hz] at h
        | some z =>
          cases he : fs.toList.mapM (fun f => (P.info? f.type).map fun i => (f.offset, i.size)) with
          | none => simp [hz, he] at h
          | some places =>
            simp only [hz, he] at h ⊢
            have := fillA_ok (ρ := ρ) hE _ ps _ l h
            rw [cells_k] at this
            simpa using this
theorem Inv.parts (h : Inv D w0 st ρ E u a w) : ∀ {xs : List (Nat × Operand)} {ys : List (Nat × V1)}, st.parts xs = some ys → xs.map (fun p => (p.1, a.eval p.2)) = ys.map (fun p => (p.1, p.2.den ρ E))
  | [], ys, e => by cases e; rfl
  | (i, x) :: xs, ys, e => by
    unfold St.parts at e
    split at e
    · rename_i y ys' h1 h2
      cases e
      simp only [List.map_cons, h.ev_v h1, h.parts h2]
    · cases e

/-- What reads yields its value wherever the blocks that it may look at are as they are. -/
theorem rd0_ok {S : World → Prop} {okL : Nat → Bool} (h : Inv D w0 st ρ E u a w)
    (hS : ∀ w', S w' → ∀ j b c t, okL j = true → st.at ρ E j = some (b, c, t) → w'.heap[b]? = some (Obj.cells c t (0, 0)))
    {o : Oper} {s : SV} (hr : rd0 P okL st o.op = some s) : ∃ v, s.Rep ρ E v ∧ ∀ w', S w' → (execOp a.eval o).run P w' = .ok (.value v) w' := by
  unfold rd0 at hr
  split at hr
  · rename_i x ho
    cases hr
    exact ⟨_, h.ev x, fun w' _ => by simp [execOp, ho]⟩
  · rename_i x ho
    cases hr
    exact ⟨_, h.ev x, fun w' _ => by simp [execOp, ho]⟩
  · rename_i t x ho
    split at hr
    · rename_i j off hx
      split at hr
      · rename_i hok
        split at hr
        · rename_i b hb
          cases hp : partOf P t b.1 off with
          | none => simp [hp] at hr
          | some y =>
            simp only [hp, Option.map_some, Option.some.injEq] at hr
            subst hr
            refine ⟨y.den ρ E, fun _ => rfl, fun w' hw => ?_⟩
            have hat := St.at_of (ρ := ρ) (E := E) hb
            have := run_part_load (P := P) hp (hS w' hw j _ _ _ hok hat)
            have hev := h.ev_v hx
            simp only [V1.den, A.den] at hev
            generalize ρ.getD j 0 = B at hev this
            simp [execOp, ho, Instr.loadAt, hev, Instr.sureAddr, this]
        · cases hr
      · cases hr
    · cases hr
  · rename_i s' x f ho
    split at hr
    · rename_i j off fs hx hu
      split at hr
      · rename_i fd hf
        split at hr
        · rename_i i hi
          split at hr
          · cases hr
          · rename_i hz
            cases hr
            refine ⟨_, fun _ => rfl, fun w' _ => ?_⟩
            have hev := h.ev_v hx
            simp only [V1.den, A.den] at hev
            have hadd : (⟨ρ.getD j 0, off, none⟩ : Addr).add fd.offset = ⟨ρ.getD j 0, off + fd.offset, none⟩ := by unfold Addr.add; split <;> simp_all
            simp only [SV.den, V1.den, A.den]
            generalize ρ.getD j 0 = B at hev hadd ⊢
            simp [execOp, ho, Instr.fieldAt, run_underlying hu, hf, hev, Instr.sureAddr, fieldPlace, Go.sizeOf, typeInfo, hi, hz, hadd]
        · cases hr
      · cases hr
    · cases hr
  · rename_i t x f ho
    split at hr
    · rename_i l fs hx hu
      split at hr
      · rename_i fd hf
        cases hp : partOf P fd.type l fd.offset with
        | none => simp [hp] at hr
        | some y =>
          simp only [hp, Option.map_some, Option.some.injEq] at hr
          subst hr
          refine ⟨y.den ρ E, fun _ => rfl, fun w' _ => ?_⟩
          have hev := h.ev_v hx
          simp only [V1.den] at hev
          simp [execOp, ho, Instr.field, run_underlying hu, hf, hev, asAgg, run_part (P := P) (ρ := ρ) (E := E) hp]
      · cases hr
    · cases hr
  · rename_i x i ho
    split at hr
    · rename_i l hx
      cases hl : l[i]? with
      | none => simp [hl] at hr
      | some y =>
        simp only [hl, Option.map_some, Option.some.injEq] at hr
        subst hr
        refine ⟨y.den ρ E, fun _ => rfl, fun w' _ => ?_⟩
        simp [execOp, ho, Instr.extract, h.ev_t hx, hl]
    · cases hr
  · rename_i t parts ho
    split at hr
    · rename_i ps hps
      cases hb : builtA P t ps with
      | none => simp [hb] at hr
      | some l =>
        simp only [hb, Option.map_some, Option.some.injEq] at hr
        subst hr
        refine ⟨_, fun _ => rfl, fun w' _ => ?_⟩
        have hbu := builtA_ok (ρ := ρ) h.plain hb
        rw [← h.parts hps] at hbu
        have := run_build (P := P) w' t (parts.map fun p => (p.1, a.eval p.2)) _ (by simpa using hbu)
        simp only [SV.den, V1.den]
        simp [execOp, ho, this]
    · cases hr
  · rename_i c x y ho
    split at hr
    · rename_i b hc
      cases hr
      refine ⟨_, h.ev _, fun w' _ => ?_⟩
      have hev : a.eval c = .bool b := h.ev_v hc
      cases b <;> simp [execOp, ho, hev, asBool]
    · cases hr
  · rename_i x ho
    split at hr
    · rename_i j off hx
      cases hr
      refine ⟨_, fun _ => rfl, fun w' _ => ?_⟩
      have hev := h.ev_v hx
      simp only [V1.den, A.den] at hev
      simp [execOp, ho, hev, SV.den, V1.den, A.den]
    · cases hr
  · cases hr

end ops
end Cin
/- The walk that is reckoned: a step, a row of operations. No program. -/
namespace Cin
open Go Go.RowKit

section step
variable {D Z : TypeId → Bool} {w0 u w w' : World} {st st' : St} {ρ : List Nat} {E : Env} {a : Act} {P : Program}

theorem pe_ab (a : Act) (xs : List Operand) (i : Nat) (x : Operand) (h : xs[i]? = some x) : pe (xs.map a.eval) (ab i x) = a.eval x := by
  cases x with
  | const v => rfl
  | tmp t => simp [ab, pe, List.getD_eq_getElem?_getD, h]
  | global g => simp [ab, pe, List.getD_eq_getElem?_getD, h]
  | func f => simp [ab, pe, List.getD_eq_getElem?_getD, h]
theorem eqGuard_ab (op : BinOp) (t : TypeId) (i j : Nat) (x y : Operand) (p q : Value) : eqGuard op t (ab i x) (ab j y) p q = eqGuard op t x y p q := by
  cases x <;> cases y <;> rfl
theorem pm_ok {o : Oper} {op : Op} {xs : List Operand} (h : pm o.op = some (op, xs)) (a : Act) : execOp a.eval o = execOp (pe (xs.map a.eval)) ⟨none, op, o.type, "", #[], none⟩ := by
  unfold pm at h
  split at h
  · rename_i b t x y t2 ho
    cases h
    simp only [execOp, ho, pe_ab a [x, y] 0 x rfl, pe_ab a [x, y] 1 y rfl, eqGuard_ab]
  · rename_i b t x ho
    cases h
    simp only [execOp, ho, pe_ab a [x] 0 x rfl]
  · rename_i s d x ho
    cases h
    simp only [execOp, ho, pe_ab a [x] 0 x rfl]
  · rename_i t x i ho
    cases h
    simp only [execOp, ho, pe_ab a [x, i] 0 x rfl, pe_ab a [x, i] 1 i rfl]
  · rename_i t x f ho
    cases h
    simp only [execOp, ho, pe_ab a [x] 0 x rfl]
  · rename_i x ho
    cases h
    simp only [execOp, ho, pe_ab a [x] 0 x rfl]
  · rename_i t x i ho
    cases h
    simp only [execOp, ho, pe_ab a [x, i] 0 x rfl, pe_ab a [x, i] 1 i rfl]
  · rename_i t x ho
    cases h
    simp only [execOp, ho, pe_ab a [x] 0 x rfl, Option.map_none]
  · rename_i t x l ho
    cases h
    simp only [execOp, ho, pe_ab a [x, l] 0 x rfl, Option.map_none, Option.map_some, pe_ab a [x, l] 1 l rfl]
  · rename_i t x l ho
    cases h
    simp only [execOp, ho, pe_ab a [x, l] 0 x rfl, Option.map_none, Option.map_some, pe_ab a [x, l] 1 l rfl]
  · rename_i t x l k ho
    cases h
    simp only [execOp, ho, pe_ab a [x, l, k] 0 x rfl, Option.map_none, Option.map_some, pe_ab a [x, l, k] 1 l rfl, pe_ab a [x, l, k] 2 k rfl]
  · rename_i b args ts ho
    split at h
    · rename_i x hx
      obtain rfl : args = #[x] := by rw [← Array.toArray_toList (xs := args), hx]
      cases h
      cases x <;> simp [execOp, ho, resolve, ab, pe, Act.eval]
    · rename_i x y hx
      obtain rfl : args = #[x, y] := by rw [← Array.toArray_toList (xs := args), hx]
      cases h
      cases x <;> cases y <;> simp [execOp, ho, resolve, ab, pe, Act.eval]
    · rename_i x y hx
      obtain rfl : args = #[x, y] := by rw [← Array.toArray_toList (xs := args), hx]
      cases h
      cases x <;> cases y <;> simp [execOp, ho, resolve, ab, pe, Act.eval]
    · cases h
  · cases h

theorem lm_ok {o : Oper} {op : Op} {xs : List Operand} {sh : Option Nat} (h : lm P o = some (op, xs, sh)) (a : Act) : execOp a.eval o = execOp (pe (xs.map a.eval)) ⟨none, op, o.type, "", #[], none⟩ := by
  unfold lm at h
  split at h
  · rename_i t x ho
    split at h
    · cases h
      simp only [execOp, ho, pe_ab a [x] 0 x rfl]
    · cases h
  · rename_i t x i ho
    split at h
    · cases h
    · split at h
      · cases h
        simp only [execOp, ho, pe_ab a [x, i] 0 x rfl, pe_ab a [x, i] 1 i rfl]
      · cases h
  · cases h
theorem abL_ok (a : Act) (xs : List Operand) : (abL xs).map (pe (xs.map a.eval)) = (xs.map a.eval).toArray := by
  unfold abL
  rw [List.map_toArray]
  congr 1
  refine List.ext_getElem? fun k => ?_
  simp only [List.getElem?_map, List.getElem?_zipIdx]
  cases hk : xs[k]? with
  | none => rfl
  | some x => simp only [Option.map_some, Nat.zero_add]; rw [pe_ab a xs k x hk]
theorem abL_map {β : Type} (f : Operand → β) (xs : Array Operand) (hf : ∀ i x, f (ab i x) = f x) : (abL xs.toList).map f = xs.map f := by
  unfold abL
  rw [List.map_toArray]
  have : (xs.toList.zipIdx.map fun (x, i) => ab i x).map f = xs.toList.map f := by
    refine List.ext_getElem? fun k => ?_
    simp only [List.getElem?_map, List.getElem?_zipIdx]
    cases hk : xs.toList[k]? with
    | none => rfl
    | some x => simp only [Option.map_some, hf]
  rw [this, ← List.map_toArray, Array.toArray_toList]
theorem abP_ok (a : Act) (ps : List (Nat × Operand)) : ((ps.zipIdx.map fun (p, i) => (p.1, ab i p.2)).toArray).map (fun (i, x) => (i, pe ((ps.map (·.2)).map a.eval) x)) = (ps.map fun (i, x) => (i, a.eval x)).toArray := by
  rw [List.map_toArray]
  congr 1
  refine List.ext_getElem? fun k => ?_
  simp only [List.getElem?_map, List.getElem?_zipIdx]
  cases hk : ps[k]? with
  | none => rfl
  | some p => simp only [Option.map_some, Nat.zero_add]; rw [pe_ab a (ps.map (·.2)) k p.2 (by rw [List.getElem?_map, hk]; rfl)]
theorem wm_ok {o : Oper} {op : Op} {xs : List Operand} {sh : Option (Option Nat)} (h : wm D o.op = some (op, xs, sh)) (a : Act) : execOp a.eval o = execOp (pe (xs.map a.eval)) ⟨none, op, o.type, "", #[], none⟩ := by
  unfold wm at h
  split at h
  · rename_i t len parts ho
    cases h
    simp only [execOp, ho]
    rw [abP_ok a parts.toList, ← List.map_toArray, Array.toArray_toList]
  · rename_i t l c ho
    cases h
    simp only [execOp, ho, pe_ab a [l, c] 0 l rfl, pe_ab a [l, c] 1 c rfl]
  · rename_i t ho
    split at h
    · cases h; simp only [execOp, ho]
    · cases h
  · rename_i t x ho
    split at h
    · cases h; simp only [execOp, ho, pe_ab a [x] 0 x rfl]
    · cases h
  · rename_i t x y ho
    cases h
    simp only [execOp, ho, pe_ab a [x, y] 0 x rfl, pe_ab a [x, y] 1 y rfl]
  · rename_i b args ts ho
    have e1 : args.map a.eval = (abL args.toList).map (pe (args.toList.map a.eval)) := by rw [abL_ok, ← List.map_toArray, Array.toArray_toList]
    split at h
    · cases h
      simp only [execOp, ho, resolve, e1]
      rw [abL_map (β := Bool) _ args (fun i x => by cases x <;> rfl)]
    · cases h
      simp only [execOp, ho, resolve, e1]
      rw [abL_map (β := Bool) _ args (fun i x => by cases x <;> rfl)]
    · cases h
  · cases h

def outX (sh : Option (Option Nat)) (cs : List Value) : Next :=
  match sh with
  | some s => .value ((v1of 0 0 s).den [] [cs])
  | none => .skip
/-- What is asked of what is seen from outside, and of what comes behind it. -/
def emI (P : Program) (w0 : World) (D Z : TypeId → Bool) (em : Option Em) (C : Env → World → Prop) (E : Env) (u : World) : Prop :=
  match em with
  | none => C E u
  | some (.call f ar sh) => ∀ w, Ext D u w → Below w0.heap.size w0 w → Calls P f (ar.map (V1.den [] E)).toArray w fun e w' =>
      ∃ cs : List Value, e = .returned ((mkSV sh 0).den [] [cs]) ∧ cs.all Value.oneCell' = true ∧ Below w.heap.size w w' ∧ C (E ++ [cs]) w'
  | some (.pr op ty ar) => ∃ v, PrimOk P op ty (ar.map (V1.den [] E)) v ∧ v.oneCell' = true ∧ C (E ++ [[v]]) u
  | some (.ld op ty ar sh) => ∃ cs : List Value, cs.all Value.oneCell' = true ∧
      (∀ w, Ext D u w → Below w0.heap.size w0 w → (execOp (pe (ar.map (V1.den [] E))) ⟨none, op, ty, "", #[], none⟩).run P w = .ok (.value ((v1of 0 0 sh).den [] [cs])) w) ∧ C (E ++ [cs]) u
  | some (.wx op ty ar sh) => ∀ w, Ext D u w → Below w0.heap.size w0 w → ∃ (cs : List Value) (w' : World),
      (execOp (pe (ar.map (V1.den [] E))) ⟨none, op, ty, "", #[], none⟩).run P w = .ok (outX sh cs) w' ∧ cs.all Value.oneCell' = true ∧ Chg D Z w w' ∧ Below w0.heap.size w0 w' ∧ C (E ++ [cs]) w'

def Stab (okS : Nat → Bool) (st : St) (ρ : List Nat) (E : Env) (st' : St) (ρ' : List Nat) (E' : Env) : Prop :=
  ∀ j x, okS j = false → st.at ρ E j = some x → st'.at ρ' E' j = some x

theorem getD_new {α : Type} (l : List α) (x d : α) : (l ++ [x]).getD l.length d = x := by
  rw [List.getD_eq_getElem?_getD, List.getElem?_append_right (Nat.le_refl _)]; simp
theorem v1of_den {ρ : List Nat} (E : Env) (cs : List Value) (i : Nat) (s : Option Nat) : (v1of E.length i s).den ρ (E ++ [cs]) = (v1of 0 i s).den [] [cs] := by
  cases s with
  | none => simp only [v1of, V1.den, A.den, getD_new]; rfl
  | some m =>
    simp only [v1of, V1.den, List.map_map]
    congr 2
    refine List.map_congr_left fun k _ => ?_
    simp only [Function.comp, A.den, getD_new]; rfl
theorem svs_den {ρ : List Nat} (E : Env) (cs : List Value) : ∀ (sh : List (Option Nat)) (i : Nat), (svs E.length i sh).map (V1.den ρ (E ++ [cs])) = (svs 0 i sh).map (V1.den [] [cs])
  | [], _ => rfl
  | s :: r, i => by simp only [svs, List.map_cons, v1of_den, svs_den E cs r]
theorem mkSV_den {ρ : List Nat} (E : Env) (cs : List Value) (sh : List (Option Nat)) : (mkSV sh E.length).den ρ (E ++ [cs]) = (mkSV sh 0).den [] [cs] := by
  unfold mkSV
  split
  · simp only [SV.den, v1of_den]
  · simp only [SV.den, svs_den]
theorem Stab.refl_put {okS : Nat → Bool} (dst : Option Tmp) (s : SV) : Stab okS st ρ E (st.put dst s) ρ E := fun j x _ h => by rw [St.at_put]; exact h
theorem Stab.more {okS : Nat → Bool} (hI : Inv D w0 st ρ E u a w) (hs : st.sc = true) (cs : List Value) (dst : Option Tmp) (s : SV) : Stab okS st ρ E ({ st with nv := st.nv + 1 : St }.put dst s) ρ (E ++ [cs]) := fun j x _ h => by
  rw [St.at_put]
  have := St.at_ext hs hI.nv ρ (fun _ _ => rfl) [cs] j
  rw [h] at this; exact this

/-- A step that only reads. -/
theorem stp_rd {S : World → Prop} {okL okS : Nat → Bool} {o : Oper} {em : Option Em} {C : Env → World → Prop} {la nx : Bool} (h : stp P D okL okS true la nx st o = some (em, st')) (hI : Inv D w0 st ρ E u a w)
    (hS : ∀ w', S w' → ∀ j b c t, okL j = true → st.at ρ E j = some (b, c, t) → w'.heap[b]? = some (Obj.cells c t (0, 0))) (hSE : la = true → ∀ w', S w' → Ext D u w' ∧ Below w0.heap.size w0 w') (hem : emI P w0 D Z em C E u) :
    ∃ v E', (∀ w', S w' → (execOp a.eval o).run P w' = .ok (.value v) w') ∧ Inv D w0 st' ρ E' u (a.put o.dst v) w ∧ C E' u ∧ Stab okS st ρ E st' ρ E' ∧ Adv Z st ρ E u st' ρ E' u := by
  unfold stp at h
  rw [if_pos rfl] at h
  split at h
  · rename_i s hs
    cases h
    obtain ⟨v, hv, hr⟩ := rd0_ok hI hS hs
    exact ⟨v, E, hr, hI.put hv _, hem, Stab.refl_put _ _, Adv.put _ _ _ _ _ _⟩
  · split at h
    · rename_i op xs sh hp
      split at h
      · rename_i ar has
        split at h
        · rename_i hsc
          cases h
          simp only [Bool.and_eq_true, Bool.or_eq_true, Bool.not_eq_true'] at hsc
          obtain ⟨hsc, hla⟩ := hsc
          have hla : la = true := hla.resolve_left (by decide)
          obtain ⟨cs, h1, hv, hC⟩ := hem
          refine ⟨(v1of 0 0 sh).den [] [cs], E ++ [cs], fun w' hw => ?_, ?_, hC, Stab.more hI hsc _ _ _, Adv.more _ _ _ (Ext.refl _ _) _ _ _ _⟩
          · rw [lm_ok hp a, hI.args has]; exact hv w' (hSE hla w' hw).1 (hSE hla w' hw).2
          · refine (hI.more hsc (cs := cs) (fun v' hv' => List.all_eq_true.1 h1 v' hv')).put (fun _ => ?_) _
            simp only [SV.den, ← hI.nv]; exact (v1of_den E cs 0 sh).symm
        · cases h
      · cases h
    · split at h
      · rename_i op xs hp
        split at h
        · rename_i ar has
          split at h
          · rename_i hsc
            cases h
            obtain ⟨v, hv, h1, hC⟩ := hem
            refine ⟨v, E ++ [[v]], fun w' _ => ?_, ?_, hC, Stab.more hI hsc _ _ _, Adv.more _ _ _ (Ext.refl _ _) _ _ _ _⟩
            · rw [pm_ok hp a, hI.args has]; exact hv w'
            · refine (hI.more hsc (cs := [v]) (fun v' hv' => by rw [List.mem_singleton.1 hv']; exact h1)).put (fun _ => ?_) _
              simp only [SV.den, V1.den, A.den, ← hI.nv, getD_new]; rfl
          · cases h
        · cases h
      · simp at h

theorem wp_value {o : Oper} {next : Act → World → Prop} {Q : Exit → Act → World → Prop} {v : Value} (h : (execOp a.eval o).run P w = .ok (.value v) w') (hn : next (a.put o.dst v) w') : o.wp P a w next Q := by
  unfold Oper.wp; rw [h]; exact hn

/-- A step that is carried out. -/
theorem stp_eff {okL okS : Nat → Bool} {o : Oper} {em : Option Em} {C : Env → World → Prop} {la nx : Bool} (hZ : ∀ t, Z t = true → D t = true) (h : stp P D okL okS false la nx st o = some (em, st')) (hI : Inv D w0 st ρ E u a w) (hem : emI P w0 D Z em C E u)
    {next : Act → World → Prop} {Q : Exit → Act → World → Prop} (hn : ∀ ρ' E' u' a' w', Inv D w0 st' ρ' E' u' a' w' → C E' u' → Stab okS st ρ E st' ρ' E' → Adv Z st ρ E u st' ρ' E' u' → (nx = true → Ext D u u') → (nx = true → isCall o.op = false → u' = u) → next a' w') : o.wp P a w next Q := by
  have hn0 := fun ρ' E' a' w' h1 h2 h3 h4 => hn ρ' E' u a' w' h1 h2 h3 h4 (fun _ => Ext.refl _ _) (fun _ _ => rfl)
  unfold stp at h
  simp only [Bool.false_eq_true, if_false] at h
  split at h
  · rename_i s hs
    cases h
    obtain ⟨v, hv, hr⟩ := rd0_ok (S := fun w' => w' = w) hI (fun w' hw j b c t _ hj => by subst hw; exact (hI.blk j b c t hj).1) hs
    exact wp_value (hr w rfl) (hn0 _ _ _ _ (hI.put hv _) hem (Stab.refl_put _ _) (Adv.put _ _ _ _ _ _))
  · split at h
    · rename_i op xs sh hp
      split at h
      · rename_i ar has
        split at h
        · rename_i hsc
          cases h
          simp only [Bool.and_eq_true] at hsc
          obtain ⟨cs, h1, hv, hC⟩ := hem
          refine wp_value (v := (v1of 0 0 sh).den [] [cs]) (w' := w) ?_ (hn0 _ _ _ _ ?_ hC (Stab.more hI hsc.1 _ _ _) (Adv.more _ _ _ (Ext.refl _ _) _ _ _ _))
          · rw [lm_ok hp a, hI.args has]; exact hv w hI.ext hI.below
          · refine (hI.more hsc.1 (cs := cs) (fun v' hv' => List.all_eq_true.1 h1 v' hv')).put (fun _ => ?_) _
            simp only [SV.den, ← hI.nv]; exact (v1of_den E cs 0 sh).symm
        · cases h
      · cases h
    · split at h
      · rename_i op xs hp
        split at h
        · rename_i ar has
          split at h
          · rename_i hsc
            cases h
            obtain ⟨v, hv, h1, hC⟩ := hem
            refine wp_value (v := v) (w' := w) ?_ (hn0 _ _ _ _ ?_ hC (Stab.more hI hsc _ _ _) (Adv.more _ _ _ (Ext.refl _ _) _ _ _ _))
            · rw [pm_ok hp a, hI.args has]; exact hv w
            · refine (hI.more hsc (cs := [v]) (fun v' hv' => by rw [List.mem_singleton.1 hv']; exact h1)).put (fun _ => ?_) _
              simp only [SV.den, V1.den, A.den, ← hI.nv, getD_new]; rfl
          · cases h
        · cases h
      · split at h
        · rename_i bl s g he
          split at h
          · cases h
          · rename_i hg
            cases h
            unfold eff at he
            have new : ∀ {l : List A} {t : TypeId} {c : Array Value}, D t = false → mkBl st o.dst l t = some (.blk bl s g) → (∀ d, c = (l.map (A.den (ρ.set d w.heap.size) E)).toArray) →
                (execOp a.eval o).run P w = .ok (.value (.pointer (some ⟨w.heap.size, 0, none⟩))) (w.alloc (.cells c t)) → o.wp P a w next Q := by
              intro l t c hD hm hc hrun
              unfold mkBl at hm
              split at hm
              · rename_i d hdst
                split at hm
                · rename_i hd
                  cases hm
                  have hsc : st.sc = true := by simpa using hg
                  have hdl : d < ρ.length := by rw [hI.nb]; exact (List.getElem?_eq_some_iff.1 hd).1
                  have hA := hI.alloc hsc hd hD (hc d)
                  refine wp_value hrun (hn0 _ _ _ _ (hA.put (fun _ => ?_) _) hem ?_ (Adv.set _ _ _ _ hd _ _ _ _))
                  · simp only [SV.den, V1.den, A.den]
                    rw [getD_set, if_pos ⟨rfl, hdl⟩]
                  · intro j y _ hj
                    rw [St.at_put]
                    obtain ⟨x, hx, rfl⟩ := St.of_at hj
                    have hdj : d ≠ j := fun e => by subst e; rw [hd] at hx; cases hx
                    have e1 := St.at_ext (ρ := ρ) hsc hI.nv (ρ.set d w.heap.size) (fun k hk => by
                      rw [getD_set, if_neg]
                      rintro ⟨rfl, _⟩
                      obtain ⟨b, hb⟩ := Bl.has_iff.1 hk
                      rw [hd] at hb; cases hb) [] j
                    rw [List.append_nil, hj] at e1
                    rw [← e1]
                    unfold St.at
                    simp only [List.getElem?_set_ne hdj]
                · cases hm
              · cases hm
            split at he
            · -- alloc
              rename_i t ho
              split at he
              · rename_i z hz
                split at he
                · rename_i x hx
                  split at he
                  · cases he
                  · rename_i hD
                    cases hi : P.info? t with
                    | none => simp [hi] at hz
                    | some i =>
                      simp only [hi, Option.bind_some] at hz
                      have hcells : ∀ ρ', z.cells = (x.atoms.map (A.den ρ' E)).toArray := by
                        intro ρ'
                        unfold toV1 at hx
                        split at hx
                        · rename_i cs
                          split at hx
                          · cases hx
                            simp [V1.atoms, Value.cells, Function.comp_def, A.den]
                          · cases hx
                        · cases hx
                        · rename_i h1 h2
                          cases hx
                          cases z <;> first | rfl | exact absurd rfl (h1 _) | exact absurd rfl (h2 _)
                      refine new (by simpa using hD) he (fun d => hcells _) ?_
                      simp [execOp, ho, Instr.alloc, zeroValue, typeInfo, hi, hz, newVar, newRow]
                · cases he
              · cases he
            · -- box
              rename_i t x ho
              split at he
              · rename_i y hx
                split at he
                · cases he
                · rename_i hD
                  simp only [Bool.or_eq_true, Bool.not_eq_true', not_or, Bool.not_eq_true, Bool.not_eq_false] at hD
                  have hgt : g = true ∧ ∃ d, o.dst = some d ∧ st.blocks[d]? = some none := by
                    unfold mkBl at he
                    split at he
                    · rename_i d hd
                      split at he
                      · rename_i hdb; cases he; exact ⟨rfl, d, hd, hdb⟩
                      · cases he
                    · cases he
                  have hsc : st.sc = true := by simpa [hgt.1] using hg
                  have hya : y.atoms.all (A.sc E.length st.blocks) = true := by
                    rw [hI.nv]
                    cases x with
                    | tmp t => have := St.sc_tmps hsc t; simp only [St.ev] at hx; rw [hx] at this; exact this
                    | const v =>
                      cases v <;> simp only [St.ev, SV.v.injEq] at hx <;> first | (cases hx; done) | (subst hx; simp [V1.atoms, A.sc])
                    | global g => simp only [St.ev, SV.v.injEq] at hx; subst hx; simp [V1.atoms, A.sc]
                    | func f => simp [St.ev] at hx
                  obtain ⟨_, d0, hd0, hdb⟩ := hgt
                  have hρ : ∀ k, st.blocks.has k = true → (ρ.set d0 w.heap.size).getD k 0 = ρ.getD k 0 := by
                    intro k hk
                    rw [getD_set, if_neg]
                    rintro ⟨rfl, _⟩
                    obtain ⟨b, hb⟩ := Bl.has_iff.1 hk
                    rw [hdb] at hb; cases hb
                  have hcells : (y.den ρ E).cells = (y.atoms.map (A.den (ρ.set d0 w.heap.size) E)).toArray := by
                    rw [V1.den_cells hI.plain hD.2]
                    have := den_list_ext (e := []) hya hρ
                    rw [List.append_nil] at this; rw [this]
                  unfold mkBl at he
                  simp only [hd0, hdb] at he
                  cases he
                  have hA := hI.alloc hsc hdb hD.1 hcells
                  have hdl : d0 < ρ.length := by rw [hI.nb]; exact (List.getElem?_eq_some_iff.1 hdb).1
                  refine wp_value (v := .pointer (some ⟨w.heap.size, 0, none⟩)) (w' := w.alloc (.cells (y.den ρ E).cells t)) ?_ (hn0 _ _ _ _ (hA.put (fun _ => ?_) _) hem ?_ (Adv.set _ _ _ _ hdb _ _ _ _))
                  · simp [execOp, ho, Instr.box, hI.ev_v hx, newVar, newRow]
                  · simp only [SV.den, V1.den, A.den]
                    rw [getD_set, if_pos ⟨rfl, hdl⟩]
                  · intro j y' _ hj
                    rw [St.at_put]
                    obtain ⟨x', hx', rfl⟩ := St.of_at hj
                    have hdj : d0 ≠ j := fun e => by subst e; rw [hdb] at hx'; cases hx'
                    have e1 := St.at_ext hsc hI.nv (ρ.set d0 w.heap.size) hρ [] j
                    rw [List.append_nil, hj] at e1
                    rw [← e1]
                    unfold St.at
                    simp only [List.getElem?_set_ne hdj]
              · cases he
            · -- store
              rename_i t x y ho
              split at he
              · rename_i j off z i hx hy hi
                split at he
                · rename_i b hb
                  split at he
                  · rename_i hc
                    cases he
                    simp only [Bool.and_eq_true, decide_eq_true_eq] at hc
                    obtain ⟨⟨⟨hok, hsz⟩, hfit⟩, hfi⟩ := hc
                    have hat := St.at_of (ρ := ρ) (E := E) hb
                    obtain ⟨h1, h2, h3⟩ := hI.blk j _ _ _ hat
                    have hcells := V1.den_cells (ρ := ρ) hI.plain hfi
                    have hrun := run_storeCells_at P (ρ.getD j 0) off b.2 (z.atoms.map (A.den ρ E)) 0 _ w h1 (by simp; omega) (fun v hv => by
                      obtain ⟨q, hq, rfl⟩ := List.mem_map.1 hv
                      exact A.den_fine hI.plain (List.all_eq_true.1 hfi q hq))
                    have hS := hI.store hb (b.1.take off ++ z.atoms ++ b.1.drop (off + z.atoms.length)) rfl
                    have hev := hI.ev_v hx
                    simp only [V1.den, A.den] at hev
                    have hw : (execOp a.eval o).run P w = .ok .skip (w.setRow (ρ.getD j 0) ((b.1.take off ++ z.atoms ++ b.1.drop (off + z.atoms.length)).map (A.den ρ E)).toArray) := by
                      generalize ρ.getD j 0 = B at hev hrun ⊢
                      have e2 : (List.map (A.den ρ E) z.atoms).length = i.size := by simp [hsz]
                      simp only [Nat.add_zero, ← List.map_take, ← List.map_drop, ← List.map_append, List.length_map] at hrun
                      simp [execOp, ho, Instr.storeAt, hev, Instr.sureAddr, storeVar, Go.sizeOf, typeInfo, hi, hI.ev_v hy, hcells, hsz, hrun]
                    unfold Oper.wp
                    rw [hw]
                    refine hn0 _ _ _ _ (hS.put (fun _ => rfl) _) hem ?_ (Adv.str _ _ _ _ hb _ _ _)
                    intro k y' hk hj
                    rw [St.at_put]
                    unfold St.at at hj ⊢
                    have hne : j ≠ k := fun e => by subst e; rw [hok] at hk; cases hk
                    simp only [List.getElem?_set_ne hne]; exact hj
                  · cases he
                · cases he
              · cases he
            · -- call
              split at he
              · split at he
                · cases he
                · split at he <;> cases he
              · cases he
            · cases he
        · rename_i f ar sh he
          split at h
          · rename_i hsc
            cases h
            unfold eff at he
            have nomk : ∀ {l : List A} {t : TypeId}, mkBl st o.dst l t ≠ some (.cl f ar sh) := by
              intro l t hm
              unfold mkBl at hm
              split at hm
              · split at hm <;> cases hm
              · cases hm
            split at he
            · split at he
              · split at he
                · split at he
                  · cases he
                  · exact absurd he nomk
                · cases he
              · cases he
            · split at he
              · split at he
                · cases he
                · exact absurd he nomk
              · cases he
            · split at he
              · split at he
                · split at he <;> cases he
                · cases he
              · cases he
            · rename_i f' args ts ho
              split at he
              · rename_i ar' fn has hf
                split at he
                · cases he
                · rename_i hb
                  split at he
                  · rename_i sh' hsh
                    cases he
                    simp only [Bool.or_eq_true, not_or, Bool.not_eq_true] at hb
                    have hb1 : ¬ fn.name = "runtime.NumGoroutine" := by simpa using hb.1
                    have hb2 : ¬ fn.body = none := fun e => by simp [e] at hb
                    have hw : (execOp a.eval o).run P w = .ok (.enter f (ar.map (V1.den [] E)).toArray) w := by
                      have e1 : args.map a.eval = (ar.map (V1.den [] E)).toArray := by
                        rw [← hI.args has, ← Array.toList_map, Array.toArray_toList]
                      simp [execOp, ho, resolve, Act.eval, Deferred.ofValue, invoke, callFunc, hf, hb1, hb2, e1]
                    unfold Oper.wp
                    rw [hw]
                    show Calls _ _ _ _ _
                    refine (hem w hI.ext hI.below).mono ?_
                    rintro e w2 ⟨cs, rfl, hpl, hbel, hC⟩
                    refine hn _ _ _ _ _ (((hI.called hbel).more hsc (fun v hv => List.all_eq_true.1 hpl v hv)).put (fun _ => ?_) _) hC ?_ ?_ (fun _ => hI.ext.below hbel) (fun _ hc => absurd hc (by simp [isCall, ho]))
                    · rw [← hI.nv, mkSV_den]
                    · exact Stab.more hI hsc _ _ _
                    · exact Adv.more _ _ _ ((hI.ext.below hbel).weak hZ) _ _ _ _
                  · cases he
              · cases he
            · cases he
          · cases h
        · split at h
          · cases h
          · rename_i hnx
            split at h
            · rename_i op xs sh hp
              split at h
              · rename_i ar has
                split at h
                · rename_i hsc
                  cases h
                  obtain ⟨cs, w2, hr, h1, hch, hbl, hC⟩ := hem w hI.ext hI.below
                  have hw : (execOp a.eval o).run P w = .ok (outX sh cs) w2 := by rw [wm_ok hp a, hI.args has]; exact hr
                  have hI2 := (hI.chg hch hbl).more hsc (cs := cs) (fun v hv => List.all_eq_true.1 h1 v hv)
                  have hA : ∀ dst s, Adv Z st ρ E u ({ st with nv := st.nv + 1 : St }.put dst s) ρ (E ++ [cs]) w2 := fun dst s => Adv.more _ _ _ ((hI.ext.weak hZ).trans hch.ext) _ _ _ _
                  cases sh with
                  | none =>
                    unfold Oper.wp
                    rw [hw]
                    exact hn _ _ _ _ _ (hI2.put (fun _ => rfl) _) hC (Stab.more hI hsc _ _ _) (hA _ _) (fun e => absurd e hnx) (fun e _ => absurd e hnx)
                  | some s =>
                    refine wp_value hw (hn _ _ _ _ _ (hI2.put (fun _ => ?_) _) hC (Stab.more hI hsc _ _ _) (hA _ _) (fun e => absurd e hnx) (fun e _ => absurd e hnx))
                    simp only [wxSV, SV.den, ← hI.nv]; exact (v1of_den E cs 0 s).symm
                · cases h
              · cases h
            · cases h

end step
end Cin
/- The walk that is reckoned: a whole function. No program. -/
namespace Cin
open Go Go.RowKit

/-- What a row asks for: of each call that it is made, and what it tells; in the end what is told. -/
abbrev LC := Nat → List Value → World → Prop
def updL (L : LC) (d : Nat) (C : List Value → World → Prop) : LC := fun i => if i = d then C else L i
def interp (P : Program) (w0 : World) (D Z : TypeId → Bool) (Post : Ending → World → Prop) : Tr → LC → Env → World → Prop
  | .ret x, _, E, u => ∀ w, Ext D u w → Below w0.heap.size w0 w → Post (.returned (x.den [] E)) w
  | .em e k, L, E, u => emI P w0 D Z (some e) (interp P w0 D Z Post k L) E u
  | .cond a x y, L, E, u => ∃ b, a.den [] E = .bool b ∧ (b = true → interp P w0 D Z Post x L E u) ∧ (b = false → interp P w0 D Z Post y L E u)
  | .loop d init body, L, E, u => ∃ (I : List Value → World → Prop) (μ : List Value → Nat), I (init.map (A.den [] E)) u ∧
      ∀ cs u', cs.length = init.length → cs.all Value.oneCell' = true → Ext Z u u' → I cs u' → interp P w0 D Z Post body (updL L d fun cs' u'' => I cs' u'' ∧ μ cs' < μ cs) (E ++ [cs]) u'
  | .back d vals, L, E, u => L d (vals.map (A.den [] E)) u

section walk
variable {D Z : TypeId → Bool} {w0 u w w' : World} {st st' : St} {ρ : List Nat} {E : Env} {a : Act} {P : Program} {Post : Ending → World → Prop} {L : LC}

theorem bool_ne {b c : Bool} (h : b ≠ c) : b = !c := by cases b <;> cases c <;> first | rfl | exact absurd rfl h
/-- What a region's row asks for; C: what is asked of the states behind it. -/
def rI (P : Program) (w0 : World) (D Z : TypeId → Bool) (C : St → Env → World → Prop) : RT → Env → World → Prop
  | .leaf st, E, u => C st E u
  | .em e k, E, u => emI P w0 D Z (some e) (rI P w0 D Z C k) E u
  | .cond a x y, E, u => ∃ b, a.den [] E = .bool b ∧ (b = true → rI P w0 D Z C x E u) ∧ (b = false → rI P w0 D Z C y E u)
theorem emI_mono {e : Option Em} {C C' : Env → World → Prop} (h : ∀ E u, C E u → C' E u) {E : Env} {u : World} (hi : emI P w0 D Z e C E u) : emI P w0 D Z e C' E u := by
  cases e with
  | none => exact h _ _ hi
  | some e =>
    cases e with
    | call f ar sh => exact fun w h1 h2 => (hi w h1 h2).mono fun e w' ⟨cs, e1, e2, e3, e4⟩ => ⟨cs, e1, e2, e3, h _ _ e4⟩
    | pr op ty ar => obtain ⟨v, h1, h2, h3⟩ := hi; exact ⟨v, h1, h2, h _ _ h3⟩
    | ld op ty ar sh => obtain ⟨v, h1, h2, h3⟩ := hi; exact ⟨v, h1, h2, h _ _ h3⟩
    | wx op ty ar sh => intro w h1 h2; obtain ⟨cs, w', e1, e2, e3, e4, e5⟩ := hi w h1 h2; exact ⟨cs, w', e1, e2, e3, e4, h _ _ e5⟩
theorem one_ok {C : St → Env → World → Prop} {e : Option Em} {r : RQ} (hi : rI P w0 D Z C (one e r).1 E u) : emI P w0 D Z e (rI P w0 D Z C r.1) E u := by
  cases e <;> exact hi
abbrev Same (q : List (RT × RT)) : Prop := ∀ p ∈ q, p.1 = p.2
theorem one_q {e : Option Em} {r : RQ} : (one e r).2 = r.2 := by cases e <;> rfl
theorem bind_ok {K : St → Option (Tr × List (RT × RT))} : ∀ {r : RT} {tr : Tr} {q : List (RT × RT)}, r.bind K = some (tr, q) → Same q → ∀ E u, interp P w0 D Z Post tr L E u →
    rI P w0 D Z (fun st E u => ∃ t q', K st = some (t, q') ∧ Same q' ∧ interp P w0 D Z Post t L E u) r E u
  | .leaf st, tr, q, h, hq, E, u, hi => ⟨tr, q, h, hq, hi⟩
  | .em e k, tr, q, h, hq, E, u, hi => by
    unfold RT.bind at h
    split at h
    · rename_i t q' hk
      cases h
      exact emI_mono (fun E u h => bind_ok hk hq E u h) hi
    · cases h
  | .cond a x y, tr, q, h, hq, E, u, hi => by
    unfold RT.bind at h
    split at h
    · rename_i t1 q1 t2 q2 h1 h2
      cases h
      obtain ⟨b, hb, k1, k2⟩ := hi
      exact ⟨b, hb, fun e => bind_ok h1 (fun p hp => hq p (List.mem_append_left _ hp)) E u (k1 e), fun e => bind_ok h2 (fun p hp => hq p (List.mem_append_right _ hp)) E u (k2 e)⟩
    · cases h

theorem gd_any {ops : Array Oper} {j : Nat} (hI : Inv D w0 st ρ E u a w) {s : SV} (h : gd ops st j = s) (hs : s.isAny = false) :
    (∃ v, ((ops[j]?).bind (·.dst)).bind (a.tmps[·]?) = some v ∧ v = s.den ρ E) ∨ (s = .u ∧ (ops[j]?).bind (·.dst) = none) := by
  unfold gd at h
  split at h
  · rename_i d hd
    left
    rw [hd]
    rw [List.getD_eq_getElem?_getD] at h
    cases hq : st.tmps[d]? with
    | none => rw [hq] at h; subst h; simp [SV.isAny] at hs
    | some q =>
      rw [hq] at h
      have hl : d < st.tmps.length := (List.getElem?_eq_some_iff.1 hq).1
      have := hI.tmps d
      rw [List.getD_eq_getElem?_getD, hq, Array.getD_eq_getD_getElem?, Array.getElem?_eq_getElem (by rw [hI.size]; exact hl)] at this
      refine ⟨_, by simp only [Option.bind_some]; exact Array.getElem?_eq_getElem (by rw [hI.size]; exact hl), ?_⟩
      simp only [Option.getD_some] at h this
      subst h
      exact this hs
  · rename_i hd
    exact .inr ⟨h.symm, hd⟩
theorem yld_u {ops : Array Oper} {j : Nat} (hI : Inv D w0 st ρ E u a w) (h : gd ops st j = .u) : yielded ops a.tmps j = none := by
  unfold yielded
  rcases gd_any hI h rfl with ⟨v, hv, rfl⟩ | ⟨_, hd⟩
  · rw [hv]; rfl
  · rw [hd]; rfl
theorem yld_b {ops : Array Oper} {j : Nat} (hI : Inv D w0 st ρ E u a w) {x : A} {b : Bool} (h : gd ops st j = .v (.s x)) (hb : x.den ρ E = .bool b) : yielded ops a.tmps j = some b := by
  unfold yielded
  rcases gd_any hI h rfl with ⟨v, hv, rfl⟩ | ⟨hu, _⟩
  · rw [hv]; simp only [SV.den, V1.den, hb]
  · cases hu

/-- The i-th operation: it is carried out, or passed by. -/
theorem gst_eff (hZ : ∀ t, Z t = true → D t = true) {la nx : Bool} {ops : Array Oper} {okL okS : Nat → Bool} {C : St → Env → World → Prop} {K : St → Option RQ} {next : Act → World → Prop} {Q : Exit → Act → World → Prop} {i : Nat} {r : RT} {q : List (RT × RT)}
    (h : gst P D ops okL okS false la nx st i K = some (r, q)) (hq : Same q) (hI : Inv D w0 st ρ E u a w) (hi : rI P w0 D Z C r E u)
    (hn : ∀ st' r' q', K st' = some (r', q') → Same q' → ∀ ρ' E' u' a' w', Inv D w0 st' ρ' E' u' a' w' → rI P w0 D Z C r' E' u' → Stab okS st ρ E st' ρ' E' → Adv Z st ρ E u st' ρ' E' u' → (nx = true → Ext D u u') → (nx = true → (∀ o, ops[i]? = some o → isCall o.op = false) → u' = u) → next a' w') : wpOp P ops Q i next a w := by
  unfold gst at h
  have hput : ∀ {st0 : St} (o : Oper), Inv D w0 st0 ρ E u a w → Inv D w0 (st0.put o.dst .u) ρ E u (a.put o.dst undef) w := fun o hI => hI.put (s := .u) (v := undef) (fun _ => rfl) o.dst
  have go : ∀ {st0 : St} {o : Oper} {r' : RQ}, ops[i]? = some o → Inv D w0 st0 ρ E u a w → (∀ j x, st.at ρ E j = some x → st0.at ρ E j = some x) → (∀ {st' ρ' E' u'}, Adv Z st0 ρ E u st' ρ' E' u' → Adv Z st ρ E u st' ρ' E' u') → Same r'.2 →
      (match stp P D okL okS false la nx st0 o with | some (e, st') => (K st').map (one e) | none => none) = some r' → rI P w0 D Z C r'.1 E u → o.wp P a w next Q := by
    intro st0 o r' ho hI0 hat hadv hq' h' hi'
    split at h'
    · rename_i e st' hs
      cases hk : K st' with
      | none => simp [hk] at h'
      | some rq =>
        simp only [hk, Option.map_some, Option.some.injEq] at h'
        subst h'
        rw [one_q] at hq'
        exact stp_eff hZ hs hI0 (one_ok hi') (fun ρ' E' u' a' w' hI' hC hst ha hx1 hx2 => hn st' rq.1 rq.2 hk hq' ρ' E' u' a' w' hI' hC (fun j x hj hx => hst j x hj (hat j x hx)) (hadv ha) hx1 (fun e hc => hx2 e (hc o ho)))
    · cases h'
  unfold wpOp
  split at h
  · cases h
  · rename_i o ho
    simp only [ho]
    split at h
    · rename_i hg
      rw [if_pos (by simp [Region.wanted, hg])]
      exact .inl (go ho hI (fun _ _ h => h) (fun h => h) (r' := (r, q)) hq h hi)
    · rename_i j want hg
      have hwt : ∀ y, yielded ops a.tmps j = y → Region.wanted o (yielded ops a.tmps) = (y == some want) := by intro y hy; simp only [Region.wanted, hg, hy]
      split at h
      · rename_i hgd
        rw [if_neg (by rw [hwt _ (yld_u hI hgd)]; simp)]
        exact hn _ r q h hq ρ E u _ w (hput o hI) hi (fun j x _ hx => by rw [St.at_put]; exact hx) (Adv.put _ _ _ _ _ _) (fun _ => Ext.refl _ _) (fun _ _ => rfl)
      · rename_i x hgd
        have hy := yld_b hI hgd rfl
        split at h
        · rename_i hxw
          rw [if_pos (by rw [hwt _ hy, hxw]; simp)]
          exact .inl (go ho hI (fun _ _ h => h) (fun h => h) (r' := (r, q)) hq h hi)
        · rename_i hxw
          rw [if_neg (by rw [hwt _ hy]; simpa using hxw)]
          exact hn _ r q h hq ρ E u _ w (hput o hI) hi (fun j x _ hx => by rw [St.at_put]; exact hx) (Adv.put _ _ _ _ _ _) (fun _ => Ext.refl _ _) (fun _ _ => rfl)
      · rename_i ci ck hgd
        split at h
        · rename_i e st' hs
          split at h
          · rename_i t1 t2 h1 h2
            have h1' : (match stp P D okL okS false la nx (st.sub ci ck want) o with | some (e, st') => (K st').map (one e) | none => none) = some (one e t1) := by rw [hs]; simp [h1]
            have key : ∀ b, A.den [] E (.c ci ck) = .bool b → Same (one e t1).2 → Same t2.2 → (b = want → rI P w0 D Z C (one e t1).1 E u) → (b ≠ want → rI P w0 D Z C t2.1 E u) →
                if Region.wanted o (yielded ops a.tmps) then o.wp P a w next Q ∨ (o.asks P a w ∧ LetsOut Q) else next (a.put o.dst undef) w := by
              intro b hb q1 q2 k1 k2
              have hy := yld_b (b := b) hI hgd hb
              by_cases hbw : b = want
              · rw [if_pos (by rw [hwt _ hy, hbw]; simp)]
                exact .inl (go ho (hI.sub (hbw ▸ hb)) (fun j x hx => by rw [St.at_sub (hbw ▸ hb)]; exact hx) Adv.of_sub q1 h1' (k1 hbw))
              · rw [if_neg (by rw [hwt _ hy]; simpa using hbw)]
                have hbw' : b = !want := bool_ne hbw
                exact hn _ t2.1 t2.2 h2 q2 ρ E u _ w (hput o (hI.sub (hbw' ▸ hb))) (k2 hbw) (fun j x _ hx => by rw [St.at_put, St.at_sub (hbw' ▸ hb)]; exact hx) (Adv.of_sub (Adv.put _ _ _ _ _ _)) (fun _ => Ext.refl _ _) (fun _ _ => rfl)
            cases want
            · rw [if_neg (by decide)] at h
              cases h
              obtain ⟨b, hb, k1, k2⟩ := hi
              exact key b hb (fun p hp => hq p (List.mem_append_right _ hp)) (fun p hp => hq p (List.mem_append_left _ hp)) (fun e => k2 e) (fun e => k1 (by simpa using e))
            · rw [if_pos rfl] at h
              cases h
              obtain ⟨b, hb, k1, k2⟩ := hi
              exact key b hb (fun p hp => hq p (List.mem_append_left _ hp)) (fun p hp => hq p (List.mem_append_right _ hp)) (fun e => k1 e) (fun e => k2 (by simpa using e))
          · cases h
        · cases h
      · cases h
/-- The i-th operation, which only reads, or is passed by. -/
theorem gst_rd {la nx : Bool} {ops : Array Oper} {okL okS : Nat → Bool} {C : St → Env → World → Prop} {K : St → Option RQ} {S : World → Prop} {i : Nat} {r : RT} {q : List (RT × RT)}
    (h : gst P D ops okL okS true la nx st i K = some (r, q)) (hq : Same q) (hI : Inv D w0 st ρ E u a w) (hi : rI P w0 D Z C r E u)
    (hS : ∀ w', S w' → ∀ j b c t, okL j = true → st.at ρ E j = some (b, c, t) → w'.heap[b]? = some (Obj.cells c t (0, 0))) (hSE : la = true → ∀ w', S w' → Ext D u w' ∧ Below w0.heap.size w0 w') :
    ∃ o v st' r' q' E', ops[i]? = some o ∧ YieldsIf P ops S o v a ∧ K st' = some (r', q') ∧ Same q' ∧ Inv D w0 st' ρ E' u (a.put o.dst v) w ∧ rI P w0 D Z C r' E' u ∧ Stab okS st ρ E st' ρ E' ∧ Adv Z st ρ E u st' ρ E' u := by
  unfold gst at h
  have hput : ∀ {st0 : St} (o : Oper), Inv D w0 st0 ρ E u a w → Inv D w0 (st0.put o.dst .u) ρ E u (a.put o.dst undef) w := fun o hI => hI.put (s := .u) (v := undef) (fun _ => rfl) o.dst
  have go : ∀ {st0 : St} {o : Oper} {r' : RQ}, ops[i]? = some o → Region.wanted o (yielded ops a.tmps) = true → Inv D w0 st0 ρ E u a w → (∀ j, st0.at ρ E j = st.at ρ E j) → (∀ {st' ρ' E' u'}, Adv Z st0 ρ E u st' ρ' E' u' → Adv Z st ρ E u st' ρ' E' u') → Same r'.2 →
      (match stp P D okL okS true la nx st0 o with | some (e, st') => (K st').map (one e) | none => none) = some r' → rI P w0 D Z C r'.1 E u →
      ∃ o v st' r' q' E', ops[i]? = some o ∧ YieldsIf P ops S o v a ∧ K st' = some (r', q') ∧ Same q' ∧ Inv D w0 st' ρ E' u (a.put o.dst v) w ∧ rI P w0 D Z C r' E' u ∧ Stab okS st ρ E st' ρ E' ∧ Adv Z st ρ E u st' ρ E' u := by
    intro st0 o r' ho hw hI0 hat hadv hq' h' hi'
    split at h'
    · rename_i e st' hs
      cases hk : K st' with
      | none => simp [hk] at h'
      | some rq =>
        simp only [hk, Option.map_some, Option.some.injEq] at h'
        subst h'
        rw [one_q] at hq'
        obtain ⟨v, E', hr, hI', hC, hst, had⟩ := stp_rd (S := S) hs hI0 (fun w' hw' j b c t hj hx => hS w' hw' j b c t hj (by rw [← hat]; exact hx)) hSE (one_ok hi')
        exact ⟨o, v, st', rq.1, rq.2, E', ho, .inl ⟨hw, hr⟩, hk, hq', hI', hC, fun j x hj hx => hst j x hj (by rw [hat]; exact hx), hadv had⟩
    · cases h'
  have skip : ∀ {st0 : St} {o : Oper} {r' : RQ}, ops[i]? = some o → Region.wanted o (yielded ops a.tmps) = false → Inv D w0 st0 ρ E u a w → (∀ j, st0.at ρ E j = st.at ρ E j) → (∀ {st' ρ' E' u'}, Adv Z st0 ρ E u st' ρ' E' u' → Adv Z st ρ E u st' ρ' E' u') → Same r'.2 →
      K (st0.put o.dst .u) = some r' → rI P w0 D Z C r'.1 E u →
      ∃ o v st' r' q' E', ops[i]? = some o ∧ YieldsIf P ops S o v a ∧ K st' = some (r', q') ∧ Same q' ∧ Inv D w0 st' ρ E' u (a.put o.dst v) w ∧ rI P w0 D Z C r' E' u ∧ Stab okS st ρ E st' ρ E' ∧ Adv Z st ρ E u st' ρ E' u := by
    intro st0 o r' ho hw hI0 hat hadv hq' h' hi'
    exact ⟨o, undef, _, r'.1, r'.2, E, ho, .inr ⟨hw, rfl⟩, h', hq', hput o hI0, hi', fun j x _ hx => by rw [St.at_put, hat]; exact hx, hadv (Adv.put _ _ _ _ _ _)⟩
  split at h
  · cases h
  · rename_i o ho
    split at h
    · rename_i hg
      exact go ho (by simp [Region.wanted, hg]) hI (fun _ => rfl) (fun h => h) (r' := (r, q)) hq h hi
    · rename_i j want hg
      have hwt : ∀ y, yielded ops a.tmps j = y → Region.wanted o (yielded ops a.tmps) = (y == some want) := by intro y hy; simp only [Region.wanted, hg, hy]
      split at h
      · rename_i hgd
        exact skip ho (by rw [hwt _ (yld_u hI hgd)]; rfl) hI (fun _ => rfl) (fun h => h) (r' := (r, q)) hq h hi
      · rename_i x hgd
        have hy := yld_b hI hgd rfl
        split at h
        · rename_i hxw
          exact go ho (by rw [hwt _ hy, hxw]; simp) hI (fun _ => rfl) (fun h => h) (r' := (r, q)) hq h hi
        · rename_i hxw
          exact skip ho (by rw [hwt _ hy]; simpa using hxw) hI (fun _ => rfl) (fun h => h) (r' := (r, q)) hq h hi
      · rename_i ci ck hgd
        split at h
        · rename_i e st' hs
          split at h
          · rename_i t1 t2 h1 h2
            have h1' : (match stp P D okL okS true la nx (st.sub ci ck want) o with | some (e, st') => (K st').map (one e) | none => none) = some (one e t1) := by rw [hs]; simp [h1]
            have key : ∀ b, A.den [] E (.c ci ck) = .bool b → Same (one e t1).2 → Same t2.2 → (b = want → rI P w0 D Z C (one e t1).1 E u) → (b ≠ want → rI P w0 D Z C t2.1 E u) →
                ∃ o v st' r' q' E', ops[i]? = some o ∧ YieldsIf P ops S o v a ∧ K st' = some (r', q') ∧ Same q' ∧ Inv D w0 st' ρ E' u (a.put o.dst v) w ∧ rI P w0 D Z C r' E' u ∧ Stab okS st ρ E st' ρ E' ∧ Adv Z st ρ E u st' ρ E' u := by
              intro b hb q1 q2 k1 k2
              have hy := yld_b (b := b) hI hgd hb
              by_cases hbw : b = want
              · exact go ho (by rw [hwt _ hy, hbw]; simp) (hI.sub (hbw ▸ hb)) (fun j => St.at_sub (hbw ▸ hb) j) Adv.of_sub q1 h1' (k1 hbw)
              · have hbw' : b = !want := bool_ne hbw
                exact skip ho (by rw [hwt _ hy]; simpa using hbw) (hI.sub (hbw' ▸ hb)) (fun j => St.at_sub (hbw' ▸ hb) j) Adv.of_sub q2 h2 (k2 hbw)
            cases want
            · rw [if_neg (by decide)] at h
              cases h
              obtain ⟨b, hb, k1, k2⟩ := hi
              exact key b hb (fun p hp => hq p (List.mem_append_right _ hp)) (fun p hp => hq p (List.mem_append_left _ hp)) (fun e => k2 e) (fun e => k1 (by simpa using e))
            · rw [if_pos rfl] at h
              cases h
              obtain ⟨b, hb, k1, k2⟩ := hi
              exact key b hb (fun p hp => hq p (List.mem_append_left _ hp)) (fun p hp => hq p (List.mem_append_right _ hp)) (fun e => k1 e) (fun e => k2 (by simpa using e))
          · cases h
        · cases h
      · cases h

/-- In the order in which they stand. -/
theorem exL_ok (hZ : ∀ t, Z t = true → D t = true) {ops : Array Oper} {C : St → Env → World → Prop} {Q : Exit → Act → World → Prop} :
    ∀ (l : List Nat) (st : St) (r : RT) (q : List (RT × RT)), exL P D ops l st = some (r, q) → Same q → ∀ ρ E u a w, Inv D w0 st ρ E u a w → rI P w0 D Z C r E u →
      (∀ st' ρ' E' u' a' w', Inv D w0 st' ρ' E' u' a' w' → C st' E' u' → Adv Z st ρ E u st' ρ' E' u' → Q .normal a' w') → wpOps P ops Q l a w
  | [], st, r, q, h, _, ρ, E, u, a, w, hI, hi, hC => by cases h; exact hC st ρ E u a w hI hi (Adv.refl _ _ _ _ _)
  | i :: l, st, r, q, h, hq, ρ, E, u, a, w, hI, hi, hC => by
    rw [wpOps_cons]
    exact gst_eff hZ h hq hI hi (fun st' r' q' hk hq' ρ' E' u' a' w' hI' hi' _ ha _ _ => exL_ok hZ l st' r' q' hk hq' ρ' E' u' a' w' hI' hi' (fun st2 ρ2 E2 u2 a2 w2 hI2 hC2 ha2 => hC st2 ρ2 E2 u2 a2 w2 hI2 hC2 (ha.trans ha2)))

theorem allOf_ok {g : Nat → Option RQ} : ∀ {rs : List Nat} {xs : List RQ}, allOf g rs = some xs → ∀ i ∈ rs, ∃ x ∈ xs, g i = some x
  | [], _, _, i, hm => by cases hm
  | k :: rs, xs, h, i, hm => by
    unfold allOf at h
    split at h
    · rename_i x xs' h1 h2
      cases h
      rcases List.mem_cons.1 hm with rfl | hm
      · exact ⟨x, List.mem_cons_self, h1⟩
      · obtain ⟨y, hy, hg⟩ := allOf_ok h2 i hm
        exact ⟨y, List.mem_cons_of_mem _ hy, hg⟩
    · cases h
theorem notMem {X : List Nat} {i : Nat} : X.contains i = false ↔ i ∉ X := by simp
/-- In whatever order the region draws. -/
theorem exT_ok (hZ : ∀ t, Z t = true → D t = true) {ops : Array Oper} {okL : Nat → Bool} {X : List Nat} {C : St → Env → World → Prop} {Q : Exit → Act → World → Prop} {G : Nat → Option (Nat × Array Value × TypeId)} {S0 : World → Prop} {u0 : World}
    (hSG : ∀ w', S0 w' ↔ ∀ j b c t, okL j = true → G j = some (b, c, t) → w'.heap[b]? = some (Obj.cells c t (0, 0))) (hG : ∀ j, okL j = true → (G j).isSome = true) (hs : Region.noSelect ops = true)
    (hP : ∀ c a d v w, Q (.panic c) (Act.put a d v) w → Q (.panic c) a w) :
    ∀ (f : Nat) (listed : Array Bool) (fr : Bool) (st : St) (r : RT) (q : List (RT × RT)), exT P D ops okL X f listed fr st = some (r, q) → Same q → ∀ ρ E u a w, Inv D w0 st ρ E u a w → rI P w0 D Z C r E u →
      (∀ j x, okL j = true → G j = some x → st.at ρ E j = some x) → (fr = true → u = u0) → (noX X listed → Ext D u0 u) → (∀ st' ρ' E' u' a' w', Inv D w0 st' ρ' E' u' a' w' → C st' E' u' → Adv Z st ρ E u st' ρ' E' u' → Q .normal a' w') →
      wpAnyX P .any ops Q S0 (fun w' => Ext D u0 w' ∧ Below w0.heap.size w0 w') X f listed a w
  | 0, listed, fr, st, r, q, h, hq, ρ, E, u, a, w, hI, hi, hg, hf, hx, hC => by
    unfold exT at h
    split at h
    · rename_i hr
      cases h
      exact wpAnyX_done (by simpa using hr) (hC st ρ E u a w hI hi (Adv.refl _ _ _ _ _)) 0
    · cases h
  | f + 1, listed, fr, st, r, q, h, hq, ρ, E, u, a, w, hI, hi, hg, hf, hx, hC => by
    have ih := exT_ok hZ (ops := ops) (okL := okL) (X := X) (C := C) (Q := Q) (u0 := u0) hSG hG hs hP f
    have hSI : ∀ {st' ρ' E' u' a' w'}, Inv D w0 st' ρ' E' u' a' w' → (∀ j x, okL j = true → G j = some x → st'.at ρ' E' j = some x) → S0 w' := by
      intro st' ρ' E' u' a' w' hI' hg'
      exact (hSG w').2 fun j b c t hj hx => (hI'.blk j b c t (hg' j _ hj hx)).1
    have hrd : ∀ w', S0 w' → ∀ j b c t, okL j = true → st.at ρ E j = some (b, c, t) → w'.heap[b]? = some (Obj.cells c t (0, 0)) := by
      intro w' hw j b c t hj hat
      cases hq : G j with
      | none => have := hG j hj; rw [hq] at this; cases this
      | some x =>
        have := hg j x hj hq
        rw [hat] at this
        cases this
        exact (hSG w').1 hw j b c t hj hq
    have hst : ∀ {st' ρ' E'}, Stab (fun j => !okL j) st ρ E st' ρ' E' → (∀ j x, okL j = true → G j = some x → st'.at ρ' E' j = some x) :=
      fun hs j x hj hx => hs j x (by simp [hj]) (hg j x hj hx)
    have hSS : S0 w ∧ (noX X listed → Ext D u0 w ∧ Below w0.heap.size w0 w) := ⟨hSI hI hg, fun h => ⟨(hx h).trans hI.ext, hI.below⟩⟩
    unfold exT at h
    simp only at h
    split at h
    · rename_i hr
      cases h
      exact wpAnyX_done (by simpa using hr) (hC st ρ E u a w hI hi (Adv.refl _ _ _ _ _)) _
    · rename_i hr
      split at h
      · rename_i i hf'
        have hp := List.find?_some hf'
        simp only [Bool.and_eq_true, Bool.not_eq_true', notMem] at hp
        have hm := List.mem_of_find?_eq_some hf'
        obtain ⟨o, v, st', r', q', E', ho, hy, hk, hq', hI', hi', hstab, had⟩ := gst_rd (S := S0) h hq hI hi hrd (fun e => by cases e)
        exact wpAnyX_take ho hs hp.1.1 hm hp.1.2 (fun c a w => hP c a _ _ w) hy hSS (ih _ fr st' r' q' hk hq' ρ E' u _ w hI' hi' (hst hstab) hf (fun h => hx ((noX_set hp.1.2).1 h)) (fun st2 ρ2 E2 u2 a2 w2 hI2 hC2 ha2 => hC st2 ρ2 E2 u2 a2 w2 hI2 hC2 (had.trans ha2)))
      · split at h
        · rename_i i hf'
          have hp := List.find?_some hf'
          simp only [Bool.and_eq_true, Bool.not_eq_true', Bool.or_eq_true, notMem] at hp
          obtain ⟨⟨⟨⟨hfr, hfree⟩, hnX⟩, _⟩, hwt⟩ := hp
          have hm := List.mem_of_find?_eq_some hf'
          have hu := hf hfr
          subst hu
          obtain ⟨o, v, st', r', q', E', ho, hy, hk, hq', hI', hi', hstab, had⟩ := gst_rd (S := fun w' => S0 w' ∧ (Ext D u w' ∧ Below w0.heap.size w0 w')) h hq hI hi (fun w' hw => hrd w' hw.1) (fun _ w' hw => hw.2)
          have hcont := ih _ fr st' r' q' hk hq' ρ E' u _ w hI' hi' (hst hstab) hf (fun h => hx ((noX_set hnX).1 h)) (fun st2 ρ2 E2 u2 a2 w2 hI2 hC2 ha2 => hC st2 ρ2 E2 u2 a2 w2 hI2 hC2 (had.trans ha2))
          exact wpAnyX_wait' ho hs hfree hm hnX hwt (fun c a w => hP c a _ _ w) hy hSS hcont
        · split at h
          · rename_i x xs hxs
            cases h
            refine wpAnyX_all rfl (by simpa using hr) fun i hi' => ?_
            obtain ⟨y, hy, hgi⟩ := allOf_ok hxs i hi'
            have hyr : y.1 = x.1 ∧ Same y.2 := by
              rcases List.mem_cons.1 hy with rfl | hy
              · exact ⟨rfl, fun p hp => hq p (List.mem_append_left _ hp)⟩
              · refine ⟨(hq (x.1, y.1) (List.mem_append_right _ (List.mem_flatMap.2 ⟨y, hy, List.mem_cons_self⟩))).symm, fun p hp => hq p (List.mem_append_right _ (List.mem_flatMap.2 ⟨y, hy, List.mem_cons_of_mem _ hp⟩))⟩
            refine gst_eff hZ (r := y.1) (q := y.2) hgi hyr.2 hI (by rw [hyr.1]; exact hi) (fun st' r' q' hk hq' ρ' E' u' a' w' hI' hi'' hstab had hx1 hx2 => ?_)
            have hx' : noX X (listed.setIfInBounds i true) → Ext D u0 u' := fun h => (hx (noX_sub h)).trans (hx1 (by simpa using noX_not h))
            refine ⟨⟨hSI hI' (hst hstab), fun h => ⟨(hx' h).trans hI'.ext, hI'.below⟩⟩, ih _ _ st' r' q' hk hq' ρ' E' u' a' w' hI' hi'' (hst hstab) (fun e => ?_) hx' (fun st2 ρ2 E2 u2 a2 w2 hI2 hC2 ha2 => hC st2 ρ2 E2 u2 a2 w2 hI2 hC2 (had.trans ha2))⟩
            simp only [Bool.and_eq_true, stays] at e
            obtain ⟨e1, e2, e3⟩ := e
            rw [hx2 e2 (fun o ho => by rw [ho] at e3; simpa using e3)]
            exact hf e1
          · cases h

/-- What is asked of each way on. -/
inductive SI where
  | code (c : Code)
  | blk (id : Nat)
  | back (N : Act → World → Prop)
def goK (P : Program) (Qf : Exit → Act → World → Prop) : List SI → Exit → Act → World → Prop
  | [] => Qf
  | .code c :: k => Exit.then (c.wp P (goK P Qf k)) (goK P Qf k)
  | .blk id :: k => Exit.inBlock id (goK P Qf k)
  | .back N :: k => Exit.then N (goK P Qf k)
/-- The ways on, as they are known and as they are asked for. -/
def KR (D Z : TypeId → Bool) (w0 : World) (L : LC) (st : St) (ρ : List Nat) (E : Env) (u : World) : List KI → List SI → Prop
  | [], [] => True
  | .code c :: k, .code c' :: s => c = c' ∧ KR D Z w0 L st ρ E u k s
  | .blk i :: k, .blk i' :: s => i = i' ∧ KR D Z w0 L st ρ E u k s
  | .back d hd m :: k, .back N :: s => d = depth k ∧ (∃ ρ0 E0 u0, (∃ e, E = E0 ++ e) ∧ hd.nv = E0.length + 1 ∧ hd.sc = true ∧ ρ0.length = hd.blocks.length ∧ Ext Z u0 u ∧
      (∀ j, hd.blocks.has j = true → st.blocks.has j = true ∧ ρ.getD j 0 = ρ0.getD j 0) ∧
      ∀ cs u' a w, cs.length = m → Inv D w0 hd ρ0 (E0 ++ [cs]) u' a w → Ext Z u0 u' → L d cs u' → N a w) ∧ KR D Z w0 L st ρ E u k s
  | _, _ => False
theorem KR.adv {st' : St} {ρ' : List Nat} {E' : Env} {u' : World} (ha : Adv Z st ρ E u st' ρ' E' u') : ∀ {k : List KI} {s : List SI}, KR D Z w0 L st ρ E u k s → KR D Z w0 L st' ρ' E' u' k s
  | [], [], _ => trivial
  | .code _ :: _, .code _ :: _, h => ⟨h.1, KR.adv ha h.2⟩
  | .blk _ :: _, .blk _ :: _, h => ⟨h.1, KR.adv ha h.2⟩
  | .back d hd m :: k, .back N :: s, h => by
    obtain ⟨hd1, ⟨ρ0, E0, u0, ⟨e, he⟩, h2, h3, h4, h5, h6, h7⟩, hr⟩ := h
    obtain ⟨e', he'⟩ := ha.env
    exact ⟨hd1, ⟨ρ0, E0, u0, ⟨e ++ e', by rw [he', he, List.append_assoc]⟩, h2, h3, h4, h5.trans ha.ext, fun j hj => ⟨(ha.rho j (h6 j hj).1).1, (ha.rho j (h6 j hj).1).2.trans (h6 j hj).2⟩, h7⟩, KR.adv ha hr⟩
  | [], .code _ :: _, h => h.elim
  | [], .blk _ :: _, h => h.elim
  | [], .back _ :: _, h => h.elim
  | .code _ :: _, [], h => h.elim
  | .code _ :: _, .blk _ :: _, h => h.elim
  | .code _ :: _, .back _ :: _, h => h.elim
  | .blk _ :: _, [], h => h.elim
  | .blk _ :: _, .code _ :: _, h => h.elim
  | .blk _ :: _, .back _ :: _, h => h.elim
  | .back _ _ _ :: _, [], h => h.elim
  | .back _ _ _ :: _, .code _ :: _, h => h.elim
  | .back _ _ _ :: _, .blk _ :: _, h => h.elim
theorem KR.sub {i n : Nat} {b : Bool} {k : List KI} {s : List SI} (h : KR D Z w0 L st ρ E u k s) : KR D Z w0 L (st.sub i n b) ρ E u k s :=
  KR.adv ⟨⟨[], by simp⟩, fun j hj => ⟨by unfold St.sub; rw [Bl.has_map]; exact hj, rfl⟩, Ext.refl _ _⟩ h
theorem KR.upd {d : Nat} {C : List Value → World → Prop} : ∀ {k : List KI} {s : List SI}, KR D Z w0 L st ρ E u k s → depth k ≤ d → KR D Z w0 (updL L d C) st ρ E u k s
  | [], [], _, _ => trivial
  | .code _ :: _, .code _ :: _, h, hd => ⟨h.1, KR.upd h.2 hd⟩
  | .blk _ :: _, .blk _ :: _, h, hd => ⟨h.1, KR.upd h.2 hd⟩
  | .back d' hd' m :: k, .back N :: s, h, hd => by
    obtain ⟨hd1, ⟨ρ0, E0, u0, he, h2, h3, h4, h5, h6, h7⟩, hr⟩ := h
    have hlt : depth k + 1 ≤ d := hd
    refine ⟨hd1, ⟨ρ0, E0, u0, he, h2, h3, h4, h5, h6, fun cs u' a w hlen hI he hl => h7 cs u' a w hlen hI he ?_⟩, KR.upd hr (by omega)⟩
    unfold updL at hl
    rwa [if_neg (by omega)] at hl
  | [], .code _ :: _, h, _ => h.elim
  | [], .blk _ :: _, h, _ => h.elim
  | [], .back _ :: _, h, _ => h.elim
  | .code _ :: _, [], h, _ => h.elim
  | .code _ :: _, .blk _ :: _, h, _ => h.elim
  | .code _ :: _, .back _ :: _, h, _ => h.elim
  | .blk _ :: _, [], h, _ => h.elim
  | .blk _ :: _, .code _ :: _, h, _ => h.elim
  | .blk _ :: _, .back _ :: _, h, _ => h.elim
  | .back _ _ _ :: _, [], h, _ => h.elim
  | .back _ _ _ :: _, .code _ :: _, h, _ => h.elim
  | .back _ _ _ :: _, .blk _ :: _, h, _ => h.elim
theorem goK_exit {Qf : Exit → Act → World → Prop} {id : Nat} : ∀ {k k' : List KI} {s : List SI}, exitK id k = some k' → KR D Z w0 L st ρ E u k s → ∃ s', KR D Z w0 L st ρ E u k' s' ∧ ∀ a w, goK P Qf s' .normal a w → goK P Qf s (.exit id) a w
  | [], _, _, h, _ => by cases h
  | .code c :: k, k', s, h, hk => by
    cases s with
    | nil => exact hk.elim
    | cons x s =>
      cases x with
      | code c' =>
        obtain ⟨s', hs', hg⟩ := goK_exit (Qf := Qf) (k := k) h hk.2
        exact ⟨s', hs', hg⟩
      | blk i => exact hk.elim
      | back N => exact hk.elim
  | .back d hd m :: k, k', s, h, hk => by
    cases s with
    | nil => exact hk.elim
    | cons x s =>
      cases x with
      | code c' => exact hk.elim
      | blk i => exact hk.elim
      | back N =>
        obtain ⟨s', hs', hg⟩ := goK_exit (Qf := Qf) (k := k) h hk.2.2
        exact ⟨s', hs', hg⟩
  | .blk i :: k, k', s, h, hk => by
    cases s with
    | nil => exact hk.elim
    | cons x s =>
      cases x with
      | code c' => exact hk.elim
      | back N => exact hk.elim
      | blk i' =>
        obtain ⟨rfl, hk⟩ := hk
        unfold exitK at h
        split at h
        · rename_i e
          cases h
          refine ⟨s, hk, fun a w hn => ?_⟩
          show (if id = i then goK P Qf s .normal a w else goK P Qf s (.exit id) a w)
          rw [if_pos e.symm]; exact hn
        · rename_i e
          obtain ⟨s', hs', hg⟩ := goK_exit (Qf := Qf) (k := k) h hk
          refine ⟨s', hs', fun a w hn => ?_⟩
          show (if id = i then goK P Qf s .normal a w else goK P Qf s (.exit id) a w)
          rw [if_neg (fun e' => e e'.symm)]; exact hg a w hn
theorem goK_ret {Qf : Exit → Act → World → Prop} (h : Qf .ret a w) : ∀ k : List SI, goK P Qf k .ret a w
  | [] => h
  | .code _ :: k => goK_ret h k
  | .blk _ :: k => goK_ret h k
  | .back _ :: k => goK_ret h k

def resS (a : Act) : ResultVar → Sem Value
  | .tmp t => pure (a.tmps.getD t undef)
  | .cell ad t => do loadVar t (← asAddr (a.tmps.getD ad undef))
theorem run_res (hI : Inv D w0 st ρ E u a w) : ∀ (rs : List ResultVar) (xs : List V1), resL P st rs = some xs →
    (rs.mapM (resS a)).run P w = Result.ok (xs.map (V1.den [] E)) w
  | [], xs, h => by cases h; rfl
  | r :: rs, xs, h => by
    unfold resL at h
    split at h
    · rename_i y ys h1 h2
      cases h
      have ih := run_res hI rs ys h2
      rw [List.mapM_cons]
      have e : (resS a r).run P w = Result.ok (y.den [] E) w := by
        unfold resOf at h1
        split at h1
        · rename_i t
          split at h1
          · rename_i x hx
            split at h1
            · rename_i hn
              cases h1
              have := hI.tmps t
              rw [hx] at this
              rw [← V1.den_noPtr (ρ := ρ) hn]
              simp only [resS, Sem.run_pure]
              rw [this rfl]; rfl
            · cases h1
          · cases h1
        · rename_i ad t
          split at h1
          · rename_i j off hx
            split at h1
            · rename_i b hb
              split at h1
              · rename_i x hp
                split at h1
                · rename_i hn
                  cases h1
                  have hat := St.at_of (ρ := ρ) (E := E) hb
                  have hl := run_part_load (P := P) hp (hI.blk j _ _ _ hat).1
                  have := hI.tmps ad
                  rw [hx] at this
                  have this := this rfl
                  simp only [SV.den, V1.den, A.den] at this
                  rw [← V1.den_noPtr (ρ := ρ) hn]
                  simp only [resS, this, asAddr, Sem.run_bind, Sem.run_pure, Result.andThen_ok, hl]
                · cases h1
              · cases h1
            · cases h1
          · cases h1
      simp only [Sem.run_bind, e, Result.andThen_ok, ih, Sem.run_pure, List.map_cons]
    · cases h
theorem retT_ok {fn : Func} {tr : Tr} {q : List (RT × RT)} (h : retT P fn st = some (tr, q)) (hI : Inv D w0 st ρ E u a w) (hi : interp P w0 D Z Post tr L E u) : ∃ v, (results fn a.tmps).run P w = .ok v w ∧ Post (.returned v) w := by
  unfold retT at h
  have key : ∀ xs, resL P st fn.results.toList = some xs → (results fn a.tmps).run P w = .ok (if h : (xs.map (V1.den [] E)).toArray.size = 1 then (xs.map (V1.den [] E)).toArray[0] else .tuple (xs.map (V1.den [] E)).toArray) w := by
    intro xs hx
    have hr := run_res hI _ xs hx
    have e : results fn a.tmps = (do let vs ← fn.results.mapM (resS a); pure (if h : vs.size = 1 then vs[0] else .tuple vs)) := by
      unfold results
      congr 1
    rw [e, ← Array.toArray_toList (xs := fn.results), List.mapM_toArray]
    simp [hr]
  split at h
  · rename_i x hx
    cases h
    exact ⟨_, key _ hx, by simpa [SV.den] using hi w hI.ext hI.below⟩
  · rename_i l hne hx
    cases h
    refine ⟨_, key _ hx, ?_⟩
    have : ¬ (l.map (V1.den [] E)).toArray.size = 1 := by
      intro e
      simp only [List.size_toArray, List.length_map] at e
      obtain ⟨x, rfl⟩ := List.length_eq_one_iff.1 e
      exact hne x rfl
    rw [dif_neg this]
    exact hi w hI.ext hI.below
  · cases h

theorem rq_ok {x : Option RQ} {K : St → Option (Tr × List (RT × RT))} {tr : Tr} {q : List (RT × RT)} (h : RQ.bind x K = some (tr, q)) (hq : Same q) : ∃ r q1, x = some (r, q1) ∧ Same q1 ∧
    ∀ L E u, interp P w0 D Z Post tr L E u → rI P w0 D Z (fun st E u => ∃ t q', K st = some (t, q') ∧ Same q' ∧ interp P w0 D Z Post t L E u) r E u := by
  unfold RQ.bind at h
  split at h
  · rename_i r q1
    split at h
    · rename_i t q2 hb
      cases h
      exact ⟨r, q1, rfl, fun p hp => hq p (List.mem_append_left _ hp), fun L E u hi => bind_ok hb (fun p hp => hq p (List.mem_append_right _ hp)) E u hi⟩
    · cases h
  · cases h
theorem run_ok {fn : Func} (hZ : ∀ t, Z t = true → D t = true) (hm : P.follows .mixedOrders = true) : ∀ (f : Nat) (k : List KI) (st : St) (tr : Tr) (q : List (RT × RT)), run P D fn f k st = some (tr, q) → Same q → ∀ s L ρ E u a w, KR D Z w0 L st ρ E u k s → Inv D w0 st ρ E u a w → interp P w0 D Z Post tr L E u →
    goK P (bodyPost P fn Post) s .normal a w
  | 0, _, _, _, _, h => by cases h
  | f + 1, [], st, tr, q, h => fun _ s L ρ E u a w hK hI hi => by
    cases s with
    | nil => exact ⟨hI.defers, retT_ok h hI hi⟩
    | cons x s => exact hK.elim
  | f + 1, .blk id :: k, st, tr, q, h => fun hq s L ρ E u a w hK hI hi => by
    cases s with
    | nil => exact hK.elim
    | cons x s =>
      cases x with
      | code c => exact hK.elim
      | back N => exact hK.elim
      | blk i => exact run_ok hZ hm f k st tr q h hq s L ρ E u a w hK.2 hI hi
  | f + 1, .back d hd m :: k, st, tr, q, h => fun hq s L ρ E u a w hK hI hi => by
    cases s with
    | nil => exact hK.elim
    | cons x s =>
      cases x with
      | code c => exact hK.elim
      | blk i => exact hK.elim
      | back N =>
        obtain ⟨hd1, ⟨ρ0, E0, u0, ⟨e, he⟩, h2, h3, h4, h5, h6, h7⟩, _⟩ := hK
        unfold run at h
        split at h
        · rename_i vs hv
          split at h
          · rename_i hlen
            cases h
            have hv' : matSt E0.length hd st = some vs := by rw [← hv, h2]; rfl
            have hB := (matSt_ok hv').2.1.len
            exact h7 _ u a w (by simpa using hlen) (hI.head hv' he h3 h2 (by rw [h4, hB, hI.nb]) (fun j hj => (h6 j hj).2)) h5 hi
          · cases h
        · cases h
  | f + 1, .code c :: k, st, tr, q, h => fun hq s L ρ E u a w hK hI hi => by
    have ih := run_ok (fn := fn) hZ hm f
    cases s with
    | nil => exact hK.elim
    | cons x s =>
    cases x with
    | blk i => exact hK.elim
    | back N => exact hK.elim
    | code c' =>
    obtain ⟨rfl, hK⟩ := hK
    have hC : ∀ st' ρ' E' u' a' w', Inv D w0 st' ρ' E' u' a' w' → (∃ t q', run P D fn f k st' = some (t, q') ∧ Same q' ∧ interp P w0 D Z Post t L E' u') → Adv Z st ρ E u st' ρ' E' u' → goK P (bodyPost P fn Post) s .normal a' w' :=
      fun st' ρ' E' u' a' w' hI' ⟨t, q', hk, hq', hi'⟩ ha => ih k st' t q' hk hq' s L ρ' E' u' a' w' (hK.adv ha) hI' hi'
    show c.wp P (goK P (bodyPost P fn Post) s) a w
    unfold run at h
    split at h
    · exact wp_skip (ih k st tr q h hq s L ρ E u a w hK hI hi)
    · rename_i x y
      exact wp_seq (ih (.code x :: .code y :: k) st tr q h hq (.code x :: .code y :: s) L ρ E u a w ⟨rfl, rfl, hK⟩ hI hi)
    · rename_i id x
      exact wp_block (ih (.code x :: .blk id :: k) st tr q h hq (.code x :: .blk id :: s) L ρ E u a w ⟨rfl, rfl, hK⟩ hI hi)
    · rename_i id
      split at h
      · rename_i k' hk
        obtain ⟨s', hK', hg⟩ := goK_exit (P := P) (Qf := bodyPost P fn Post) hk hK
        exact wp_exit (hg a w (ih k' st tr q h hq s' L ρ E u a w hK' hI hi))
      · cases h
    · exact wp_ret (goK_ret ⟨hI.defers, retT_ok h hI hi⟩ s)
    · rename_i body
      simp only at h
      split at h
      · rename_i init hinit
        split at h
        · rename_i hc
          simp only [Bool.and_eq_true, decide_eq_true_eq] at hc
          obtain ⟨⟨⟨hsc, hhsc⟩, hnv⟩, hall⟩ := hc
          split at h
          · rename_i t q' hrun
            cases h
            obtain ⟨I, μ, h0, hstep⟩ := hi
            generalize havoc st body = hd at *
            have hinit' : matSt E.length hd st = some init := by rw [hI.nv]; exact hinit
            have hFin := (matSt_ok hinit').2.2
            have hBl := (matSt_ok hinit').2.1
            have hhas : ∀ j, st.blocks.has j = true → hd.blocks.has j = true := by
              intro j hj
              obtain ⟨b, hb⟩ := Bl.has_iff.1 hj
              have := List.all_eq_true.1 hall j (List.mem_range.2 (List.getElem?_eq_some_iff.1 hb).1)
              simpa [hj] using this
            refine wp_loop_ghost (fun n a w => ∃ cs u', Inv D w0 hd ρ (E ++ [cs]) u' a w ∧ Ext Z u u' ∧ I cs u' ∧ cs.length = init.length ∧ cs.all Value.oneCell' = true ∧ μ cs = n) (μ (init.map (A.den [] E))) ?_ ?_
            · refine ⟨init.map (A.den [] E), u, hI.head (e := []) hinit' (by simp) hhsc (by rw [hnv, hI.nv]) rfl (fun _ _ => rfl), Ext.refl _ _, h0, by simp, ?_, rfl⟩
              rw [List.all_eq_true]
              intro v hv
              obtain ⟨x, hx, rfl⟩ := List.mem_map.1 hv
              exact A.den_fine hI.plain (hFin x hx).2
            · rintro n a1 w1 ⟨cs, u1, hI1, hE1, hI0, hlen, hpl, rfl⟩
              have hK1 : KR D Z w0 (updL L (depth k) fun cs' u'' => I cs' u'' ∧ μ cs' < μ cs) hd ρ (E ++ [cs]) u1 (.code body :: .back (depth k) hd init.length :: k)
                  (.code body :: .back (fun a' w' => ∃ n', n' < μ cs ∧ ∃ cs' u', Inv D w0 hd ρ (E ++ [cs']) u' a' w' ∧ Ext Z u u' ∧ I cs' u' ∧ cs'.length = init.length ∧ cs'.all Value.oneCell' = true ∧ μ cs' = n') :: s) := by
                refine ⟨rfl, rfl, ⟨ρ, E, u, ⟨[cs], rfl⟩, by rw [hnv, hI.nv], hhsc, by rw [hI.nb, hBl.len], hE1, fun j hj => ⟨hj, rfl⟩, ?_⟩, ?_⟩
                · intro cs' u' a' w' hlen' hI' hE' hl
                  unfold updL at hl
                  rw [if_pos rfl] at hl
                  exact ⟨μ cs', hl.2, cs', u', hI', hE', hl.1, hlen', List.all_eq_true.2 (fun v hv => hI'.plain cs' (by simp) v hv), rfl⟩
                · exact (hK.upd (Nat.le_refl _)).adv ⟨⟨[cs], rfl⟩, fun j hj => ⟨hhas j hj, rfl⟩, hE1⟩
              exact ih _ hd t _ hrun hq _ _ ρ (E ++ [cs]) u1 a1 w1 hK1 hI1 (hstep cs u1 hlen hpl hE1 hI0)
          · cases h
        · cases h
      · cases h
    · rename_i c x y
      split at h
      · rename_i b hc
        refine wp_cond (t := b) (hI.ev_v hc) ?_
        exact ih (.code (if b then x else y) :: k) st tr q h hq (.code (if b then x else y) :: s) L ρ E u a w ⟨rfl, hK⟩ hI hi
      · rename_i i j hc
        split at h
        · rename_i t1 q1 t2 q2 h1 h2
          cases h
          obtain ⟨b, hb, k1, k2⟩ := hi
          refine wp_cond_split (t := b) ((hI.ev_v hc).trans hb) (fun e => ?_) (fun e => ?_)
          · exact ih (.code x :: k) _ t1 q1 h1 (fun p hp => hq p (List.mem_append_left _ hp)) (.code x :: s) L ρ E u a w ⟨rfl, hK.sub⟩ (hI.sub (e ▸ hb)) (k1 e)
          · exact ih (.code y :: k) _ t2 q2 h2 (fun p hp => hq p (List.mem_append_right _ hp)) (.code y :: s) L ρ E u a w ⟨rfl, hK.sub⟩ (hI.sub (e ▸ hb)) (k2 e)
        · cases h
      · cases h
    · rename_i id ops
      obtain ⟨r, q1, hx, hq1, hr⟩ := rq_ok (P := P) (w0 := w0) (D := D) (Z := Z) (Post := Post) h hq
      exact wp_region (exL_ok hZ _ st r q1 hx hq1 ρ E u a w hI (hr L E u hi) hC)
    · rename_i id ops
      simp only at h
      split at h
      · rename_i hns
        obtain ⟨r, q1, hx, hq1, hr⟩ := rq_ok (P := P) (w0 := w0) (D := D) (Z := Z) (Post := Post) h hq
        refine wp_region_noPanic (wp_region_x hm (X := xOps D ops st) (S1 := fun w' => Ext D u w' ∧ Below w0.heap.size w0 w') (S0 := fun w' => ∀ j b c t, (st.blocks.has j && !(storedIn ops st).contains j) = true → st.at ρ E j = some (b, c, t) → w'.heap[b]? = some (Obj.cells c t (0, 0))) ?_)
        refine exT_ok hZ (Q := NoPanic _) (G := st.at ρ E) (u0 := u) (fun w' => Iff.rfl) ?_ hns (fun _ _ _ _ _ h => h) _ _ true st r q1 hx hq1 ρ E u a w.drew hI.drew (hr L E u hi) (fun j x _ hx => hx) (fun _ => rfl) (fun _ => Ext.refl _ _) hC
        intro j hj
        simp only [Bool.and_eq_true] at hj
        obtain ⟨b, hb⟩ := Bl.has_iff.1 hj.1
        rw [St.at_of hb]; rfl
      · cases h
    · cases h

/-- THE THEOREM: what the row asks for is enough. -/
theorem rx {f : FuncId} {D Z : TypeId → Bool} (hZ : ∀ t, Z t = true → D t = true) {tr : Tr} {args : List Value} {E : Env} {w : World} {Post : Ending → World → Prop} (hm : P.follows .mixedOrders = true) (hr : rowOf P D f = some tr)
    (hq : (eqsOf P D f).map (·.1) = (eqsOf P D f).map (·.2))
    (sh : List (Option Nat)) (hsh : ((P.funcs[f]?).map fun fn => fn.params.toList.mapM (shapeOf P)) = some (some sh)) (hE : E.length = sh.length)
    (hargs : args = sh.zipIdx.map (fun (s, i) => (v1of i 0 s).den [] E)) (hpl : E.all (fun cs => cs.all Value.oneCell') = true) (L : LC) (hi : interp P w D Z Post tr L E w) : Calls P f args.toArray w Post := by
  unfold rowOf at hr
  cases hrq : rowQ P D f with
  | none => simp [hrq] at hr
  | some x =>
    obtain ⟨tr', q⟩ := x
    simp only [hrq, Option.map_some, Option.some.injEq] at hr
    subst hr
    have hsame : Same q := by
      have hq' : q.map (·.1) = q.map (·.2) := by unfold eqsOf at hq; simpa [hrq] using hq
      clear hrq hi hq
      induction q with
      | nil => intro p hp; cases hp
      | cons y q ih =>
        simp only [List.map_cons, List.cons.injEq] at hq'
        intro p hp
        rcases List.mem_cons.1 hp with rfl | hp
        · exact hq'.1
        · exact ih hq'.2 p hp
    unfold rowQ at hrq
    split at hrq
    · rename_i fn hf
      split at hrq
      · rename_i c sh' hb hs'
        rw [hf] at hsh
        simp only [Option.map_some, Option.some.injEq] at hsh
        rw [hs'] at hsh
        cases hsh
        refine calls_of_wp hf hb ?_
        have hlen : args.length = sh.length := by rw [hargs]; simp
        refine run_ok hZ hm _ _ _ _ _ hrq hsame [.code c] L (List.replicate (sh.length + (fn.ntmps - sh.length)) 0) E w _ w ⟨rfl, trivial⟩ ⟨by simp, by simp [hE], fun cs hc v hv => List.all_eq_true.1 (List.all_eq_true.1 hpl cs hc) v hv, ?_, ?_, rfl, ?_, ?_, Below.refl _ _, Ext.refl _ _⟩ hi
        · simp [hlen]
        · intro i
          simp only [List.getD_eq_getElem?_getD, Array.getD_eq_getD_getElem?]
          have hnp : ∀ (k : Nat) (s : Option Nat), (v1of k 0 s).atoms.all A.noPtr = true := fun k s => by
            cases s with
            | none => rfl
            | some m => simp [v1of, V1.atoms, A.noPtr]
          by_cases hl : i < sh.length
          · intro _
            rw [Array.getElem?_append_left (by simpa [hlen] using hl), List.getElem?_append_left (by simpa using hl)]
            simp only [List.getElem?_toArray, hargs]
            simp [hl, SV.den, V1.den_noPtr (hnp _ _)]
          · intro _
            rw [Array.getElem?_append_right (by simpa [hlen] using hl), List.getElem?_append_right (by simpa using hl)]
            simp only [List.size_toArray, hlen, List.length_map, List.length_zipIdx]
            by_cases hl2 : i - sh.length < fn.ntmps - sh.length
            · simp [hl2, SV.den]
            · simp [hl2, SV.den]
        · intro j b c t hj
          obtain ⟨x, hx, _⟩ := St.of_at hj
          simp [List.getElem?_replicate] at hx
        · intro i j hi
          obtain ⟨x, hx⟩ := Bl.has_iff.1 hi
          simp [List.getElem?_replicate] at hx
      · cases hrq
    · cases hrq
end walk
end Cin
