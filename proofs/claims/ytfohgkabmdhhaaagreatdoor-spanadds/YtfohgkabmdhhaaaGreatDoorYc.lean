/- A walk that is reckoned: which functions a call calls, in which order, with what, and what it tells; laid open by the kernel's own reckoning, shown sound once. No program. -/
import Derived.Test.YtfohgkabmdhhaaaGreatDoorYb
import Derived.Laws.CopyRow
import Derived.Deep.MidRow
namespace Cin
open Go Go.RowKit
inductive A where
  | c (i k : Nat)
  | k (v : Value)
  | p (j o : Nat)
inductive V1 where
  | s (a : A)
  | g (l : List A)
inductive SV where
  | v (x : V1)
  | t (l : List V1)
  | u
  | any
abbrev Env := List (List Value)
def A.den (ρ : List Nat) (E : Env) : A → Value
  | .c i n => (E.getD i []).getD n (.bool false)
  | .k v => v
  | .p j o => .pointer (some ⟨ρ.getD j 0, o, none⟩)
def V1.den (ρ : List Nat) (E : Env) : V1 → Value
  | .s a => a.den ρ E
  | .g l => .agg (l.map (A.den ρ E)).toArray
def SV.den (ρ : List Nat) (E : Env) : SV → Value
  | .v x => x.den ρ E
  | .t l => .tuple (l.map (V1.den ρ E)).toArray
  | .u => undef
  | .any => undef
def SV.isAny : SV → Bool
  | .any => true
  | _ => false
def SV.Rep (ρ : List Nat) (E : Env) (s : SV) (v : Value) : Prop := s.isAny = false → v = s.den ρ E
def V1.atoms : V1 → List A
  | .s a => [a]
  | .g l => l
def SV.atoms : SV → List A
  | .v x => x.atoms
  | .t l => l.flatMap V1.atoms
  | _ => []
abbrev Bl := List (Option (List A × TypeId))
def Bl.has (bl : Bl) (j : Nat) : Bool := match bl[j]? with | some (some _) => true | _ => false
def A.sc (nv : Nat) (bl : Bl) : A → Bool
  | .c i _ => decide (i < nv)
  | .k _ => true
  | .p j _ => bl.has j
def A.fine : A → Bool
  | .k v => v.oneCell'
  | _ => true
def A.noPtr : A → Bool
  | .p _ _ => false
  | _ => true
structure St where
  tmps : List SV
  blocks : Bl
  nv : Nat
def St.sc (st : St) : Bool :=
  st.tmps.all (fun s => s.atoms.all (A.sc st.nv st.blocks)) && st.blocks.all (fun b => match b with | some b => b.1.all (A.sc st.nv st.blocks) | none => true)
def St.put (st : St) (dst : Option Tmp) (s : SV) : St :=
  match dst with
  | some d => { st with tmps := st.tmps.set d s }
  | none => st
def St.ev (st : St) : Operand → SV
  | .tmp t => st.tmps.getD t .u
  | .const (.agg cs) => .v (.g (cs.toList.map .k))
  | .const (.tuple _) => .any
  | .const v => .v (.s (.k v))
  | .global g => .v (.s (.k (.pointer (some ⟨g, 0, none⟩))))
  | _ => .any
def A.sub (i n : Nat) (b : Bool) : A → A
  | .c i' n' => if i' == i && n' == n then .k (.bool b) else .c i' n'
  | a => a
def V1.sub (i n : Nat) (b : Bool) : V1 → V1
  | .s a => .s (a.sub i n b)
  | .g l => .g (l.map (A.sub i n b))
def SV.sub (i n : Nat) (b : Bool) : SV → SV
  | .v x => .v (x.sub i n b)
  | .t l => .t (l.map (V1.sub i n b))
  | .u => .u
  | .any => .any
def St.sub (st : St) (i n : Nat) (b : Bool) : St := { st with tmps := st.tmps.map (SV.sub i n b), blocks := st.blocks.map fun x => x.map fun x => (x.1.map (A.sub i n b), x.2) }
def St.arg (st : St) (x : Operand) : Option V1 :=
  match st.ev x with
  | .v y => if y.atoms.all A.noPtr then some y else none
  | _ => none
inductive Em where
  | call (f : FuncId) (args : List V1) (sh : List (Option Nat))
  | pr (op : Op) (ty : TypeId) (args : List V1)
  | ld (op : Op) (ty : TypeId) (args : List V1) (sh : Option Nat)
  | wx (op : Op) (ty : TypeId) (args : List V1) (sh : Option (Option Nat))
inductive Tr where
  | ret (x : SV)
  | em (e : Em) (k : Tr)
  | cond (a : A) (x y : Tr)
  | loop (d : Nat) (init : List A) (body : Tr)
  | back (d : Nat) (vals : List A)
def v1of (n i : Nat) : Option Nat → V1
  | none => .s (.c n i)
  | some m => .g ((List.range' i m).map (.c n))
def svs (n i : Nat) : List (Option Nat) → List V1
  | [] => []
  | s :: r => v1of n i s :: svs n (i + s.getD 1) r
def mkSV (sh : List (Option Nat)) (n : Nat) : SV :=
  match sh with
  | [s] => .v (v1of n 0 s)
  | _ => .t (svs n 0 sh)
def shapeOf (P : Program) (t : TypeId) : Option (Option Nat) :=
  match (P.info? t).bind (·.zero) with
  | some (.agg cs) => some (some cs.size)
  | some (.tuple _) => none
  | some _ => some none
  | none => none
def partOf (P : Program) (t : TypeId) (l : List A) (off : Nat) : Option V1 :=
  match P.underlying t, P.info? t with
  | some d, some i => if d.isRow then (if off + i.size ≤ l.length then some (.g ((l.drop off).take i.size)) else none) else (l[off]?).map .s
  | _, _ => none
def setAll (off : Nat) (l cells : List A) : List A := l.zipIdx.foldl (fun cs (c, j) => cs.set (off + j) c) cells
def fillA (place : Nat → Option (Nat × Nat)) (cells : List A) : List (Nat × V1) → Option (List A)
  | [] => some cells
  | (i, x) :: r =>
    match place i with
    | none => none
    | some (off, size) => if x.atoms.length = size ∧ off + x.atoms.length ≤ cells.length ∧ x.atoms.all A.fine = true then fillA place (setAll off x.atoms cells) r else none
def builtA (P : Program) (t : TypeId) (parts : List (Nat × V1)) : Option (List A) :=
  match P.info? t, P.underlying t with
  | some it, some (.array _ e) =>
    match it.zero, P.info? e with
    | some z, some ie => fillA (fun i => some (i * ie.size, ie.size)) (z.cells.toList.map .k) parts
    | _, _ => none
  | some it, some (.struct fields) =>
    match it.zero, fields.toList.mapM (fun f => (P.info? f.type).map fun i => (f.offset, i.size)) with
    | some z, some places => fillA (places.toArray[·]?) (z.cells.toList.map .k) parts
    | _, _ => none
  | _, _ => none
def St.parts (st : St) : List (Nat × Operand) → Option (List (Nat × V1))
  | [] => some []
  | (i, x) :: r =>
    match st.ev x, st.parts r with
    | .v y, some ys => some ((i, y) :: ys)
    | _, _ => none
def St.args (st : St) : List Operand → Option (List V1)
  | [] => some []
  | x :: r =>
    match st.arg x, st.args r with
    | some y, some ys => some (y :: ys)
    | _, _ => none
def rd0 (P : Program) (okL : Nat → Bool) (st : St) : Op → Option SV
  | .move x => some (st.ev x)
  | .assign x => some (st.ev x)
  | .load t x =>
    match st.ev x with
    | .v (.s (.p j off)) => if okL j then (match st.blocks[j]? with | some (some b) => (partOf P t b.1 off).map .v | _ => none) else none
    | _ => none
  | .fieldAddr s x f =>
    match st.ev x, P.underlying s with
    | .v (.s (.p j off)), some (.struct fs) =>
      (match fs[f]? with
       | some fd => (match P.info? fd.type with | some i => if i.size = 0 then none else some (.v (.s (.p j (off + fd.offset)))) | none => none)
       | none => none)
    | _, _ => none
  | .field t x f =>
    match st.ev x, P.underlying t with
    | .v (.g l), some (.struct fs) => (match fs[f]? with | some fd => (partOf P fd.type l fd.offset).map .v | none => none)
    | _, _ => none
  | .extract x i =>
    match st.ev x with
    | .t l => (l[i]?).map .v
    | _ => none
  | .build t parts => (match st.parts parts.toList with | some ps => (builtA P t ps).map (fun l => .v (.g l)) | none => none)
  | .pick c x y =>
    match st.ev c with
    | .v (.s (.k (.bool b))) => some (st.ev (if b then x else y))
    | _ => none
  | .nilCheck x =>
    match st.ev x with
    | .v (.s (.p j off)) => some (.v (.s (.p j off)))
    | _ => none
  | _ => none
def ab (i : Nat) : Operand → Operand
  | .const v => .const v
  | _ => .tmp i
def pe (vs : List Value) : Operand → Value
  | .tmp i => vs.getD i undef
  | .const v => v
  | .global g => .pointer (some ⟨g, 0, none⟩)
  | .func f => .func (.func f) #[] #[]
def pm : Op → Option (Op × List Operand)
  | .binOp op t x y t2 => some (.binOp op t (ab 0 x) (ab 1 y) t2, [x, y])
  | .unOp op t x => some (.unOp op t (ab 0 x), [x])
  | .convert s d x => some (.convert s d (ab 0 x), [x])
  | .indexAddr t x i => some (.indexAddr t (ab 0 x) (ab 1 i), [x, i])
  | .fieldAddr t x f => some (.fieldAddr t (ab 0 x) f, [x])
  | .nilCheck x => some (.nilCheck (ab 0 x), [x])
  | .index t x i => some (.index t (ab 0 x) (ab 1 i), [x, i])
  | .slice t x none none none => some (.slice t (ab 0 x) none none none, [x])
  | .slice t x (some l) none none => some (.slice t (ab 0 x) (some (ab 1 l)) none none, [x, l])
  | .slice t x none (some h) none => some (.slice t (ab 0 x) none (some (ab 1 h)) none, [x, h])
  | .slice t x (some l) (some h) none => some (.slice t (ab 0 x) (some (ab 1 l)) (some (ab 2 h)) none, [x, l, h])
  | .call { callee := .builtin b, args, argTypes } =>
    (match b, args.toList with
     | .len, [x] => some (.call { callee := .builtin .len, args := #[ab 0 x], argTypes }, [x])
     | .min, [x, y] => some (.call { callee := .builtin .min, args := #[ab 0 x, ab 1 y], argTypes }, [x, y])
     | .max, [x, y] => some (.call { callee := .builtin .max, args := #[ab 0 x, ab 1 y], argTypes }, [x, y])
     | _, _ => none)
  | _ => none
def PrimOk (P : Program) (op : Op) (ty : TypeId) (vs : List Value) (v : Value) : Prop :=
  ∀ w, (execOp (pe vs) ⟨none, op, ty, "", #[], none⟩).run P w = .ok (.value v) w
def lm (P : Program) (o : Oper) : Option (Op × List Operand × Option Nat) :=
  match o.op with
  | .load t x => (match shapeOf P t with | some sh => some (.load t (ab 0 x), [x], sh) | none => none)
  | .index t x i =>
    (match P.underlying t with
     | some .string => none
     | _ => (match shapeOf P o.type with | some sh => some (.index t (ab 0 x) (ab 1 i), [x, i], sh) | none => none))
  | _ => none
def abL (xs : List Operand) : Array Operand := (xs.zipIdx.map fun (x, i) => ab i x).toArray
def wm (D : TypeId → Bool) : Op → Option (Op × List Operand × Option (Option Nat))
  | .buildSlice t len parts => some (.buildSlice t len (parts.toList.zipIdx.map fun (p, i) => (p.1, ab i p.2)).toArray, parts.toList.map (·.2), some none)
  | .makeSlice t l c => some (.makeSlice t (ab 0 l) (ab 1 c), [l, c], some none)
  | .alloc t => if D t then some (.alloc t, [], some none) else none
  | .box t x => if D t then some (.box t (ab 0 x), [x], some none) else none
  | .store t x y => some (.store t (ab 0 x) (ab 1 y), [x, y], none)
  | .call { callee := .builtin b, args, argTypes } =>
    (match b with
     | .append => some (.call { callee := .builtin .append, args := abL args.toList, argTypes }, args.toList, some none)
     | .copy => some (.call { callee := .builtin .copy, args := abL args.toList, argTypes }, args.toList, some none)
     | _ => none)
  | _ => none
inductive Ef where
  | blk (bl : Bl) (s : SV) (grown : Bool)
  | cl (f : FuncId) (args : List V1) (sh : List (Option Nat))
def toV1 : Value → Option V1
  | .agg cs => if cs.toList.all Value.oneCell' then some (.g (cs.toList.map .k)) else none
  | .tuple _ => none
  | v => some (.s (.k v))
def mkBl (st : St) (dst : Option Tmp) (x : List A) (t : TypeId) : Option Ef :=
  match dst with
  | some d => (match st.blocks[d]? with | some none => some (.blk (st.blocks.set d (some (x, t))) (.v (.s (.p d 0))) true) | _ => none)
  | none => none
def eff (P : Program) (D : TypeId → Bool) (okS : Nat → Bool) (st : St) (dst : Option Tmp) : Op → Option Ef
  | .alloc t =>
    match (P.info? t).bind (·.zero) with
    | some z => (match toV1 z with | some x => if D t then none else mkBl st dst x.atoms t | none => none)
    | none => none
  | .box t x =>
    match st.ev x with
    | .v y => if D t || !y.atoms.all A.fine then none else mkBl st dst y.atoms t
    | _ => none
  | .store t x y =>
    match st.ev x, st.ev y, P.info? t with
    | .v (.s (.p j off)), .v z, some i =>
      (match st.blocks[j]? with
       | some (some b) => if okS j && decide (z.atoms.length = i.size) && decide (off + z.atoms.length ≤ b.1.length) && z.atoms.all A.fine then
           some (.blk (st.blocks.set j (some (b.1.take off ++ z.atoms ++ b.1.drop (off + z.atoms.length), b.2))) .u false) else none
       | _ => none)
    | _, _, _ => none
  | .call { callee := .value (.func f), args, .. } =>
    match st.args args.toList, P.funcs[f]? with
    | some ar, some fn =>
      if fn.name == "runtime.NumGoroutine" || fn.body.isNone then none
      else (match fn.resultTypes.toList.mapM (shapeOf P) with | some sh => some (.cl f ar sh) | none => none)
    | _, _ => none
  | _ => none
def wxSV (n : Nat) : Option (Option Nat) → SV
  | some s => .v (v1of n 0 s)
  | none => .u
def stp (P : Program) (D : TypeId → Bool) (okL okS : Nat → Bool) (b la nx : Bool) (st : St) (o : Oper) : Option (Option Em × St) :=
  match rd0 P (if b then okL else fun _ => true) st o.op with
  | some s => some (none, st.put o.dst s)
  | none =>
    match lm P o with
    | some (op, xs, sh) =>
      (match st.args xs with
       | some ar => if st.sc && (!b || la) then some (some (.ld op o.type ar sh), { st with nv := st.nv + 1 : St }.put o.dst (.v (v1of st.nv 0 sh))) else none
       | none => none)
    | none =>
      match pm o.op with
      | some (op, xs) =>
        (match st.args xs with
         | some ar => if st.sc then some (some (.pr op o.type ar), { st with nv := st.nv + 1 : St }.put o.dst (.v (.s (.c st.nv 0)))) else none
         | none => none)
      | none =>
        if b then none else
        match eff P D okS st o.dst o.op with
        | some (.blk bl s g) => if g && !st.sc then none else some (none, { st with blocks := bl : St }.put o.dst s)
        | some (.cl f ar sh) => if st.sc then some (some (.call f ar sh), { st with nv := st.nv + 1 : St }.put o.dst (mkSV sh st.nv)) else none
        | none =>
          if nx then none else
          match wm D o.op with
          | some (op, xs, sh) =>
            (match st.args xs with
             | some ar => if st.sc then some (some (.wx op o.type ar sh), { st with nv := st.nv + 1 : St }.put o.dst (wxSV st.nv sh)) else none
             | none => none)
          | none => none
inductive RT where
  | leaf (st : St)
  | em (e : Em) (k : RT)
  | cond (a : A) (x y : RT)
abbrev RQ := RT × List (RT × RT)
def one (e : Option Em) (r : RQ) : RQ :=
  match e with
  | none => r
  | some e => (.em e r.1, r.2)
def two (a : A) (x y : RQ) : RQ := (.cond a x.1 y.1, x.2 ++ y.2)
def gd (ops : Array Oper) (st : St) (j : Nat) : SV := match (ops[j]?).bind (·.dst) with | some d => st.tmps.getD d .any | none => .u
def gst (P : Program) (D : TypeId → Bool) (ops : Array Oper) (okL okS : Nat → Bool) (b la nx : Bool) (st : St) (i : Nat) (K : St → Option RQ) : Option RQ :=
  match ops[i]? with
  | none => none
  | some o =>
    match o.guard with
    | none => (match stp P D okL okS b la nx st o with | some (e, st') => (K st').map (one e) | none => none)
    | some (j, want) =>
      match gd ops st j with
      | .u => K (st.put o.dst .u)
      | .v (.s (.k (.bool x))) =>
        if x = want then (match stp P D okL okS b la nx st o with | some (e, st') => (K st').map (one e) | none => none)
        else K (st.put o.dst .u)
      | .v (.s (.c ci ck)) =>
        (match stp P D okL okS b la nx (st.sub ci ck want) o with
         | some (e, st') =>
           (match K st', K ((st.sub ci ck (!want)).put o.dst .u) with
            | some t1, some t2 => some (if want then two (.c ci ck) (one e t1) t2 else two (.c ci ck) t2 (one e t1))
            | _, _ => none)
         | none => none)
      | _ => none
def exL (P : Program) (D : TypeId → Bool) (ops : Array Oper) : List Nat → St → Option RQ
  | [], st => some (.leaf st, [])
  | i :: r, st => gst P D ops (fun _ => true) (fun _ => true) false false false st i (exL P D ops r)
def canTake (P : Program) (ops : Array Oper) (okL : Nat → Bool) (st : St) (i : Nat) : Bool :=
  match ops[i]? with
  | none => false
  | some o =>
    let rd := (rd0 P okL st o.op).isSome || (pm o.op).isSome
    match o.guard with
    | none => rd
    | some (j, want) =>
      match gd ops st j with
      | .u => true
      | .v (.s (.k (.bool x))) => if x = want then rd else true
      | _ => rd
def allOf (g : Nat → Option RQ) : List Nat → Option (List RQ)
  | [] => some []
  | i :: r => match g i, allOf g r with | some x, some xs => some (x :: xs) | _, _ => none
def canLd (P : Program) (ops : Array Oper) (st : St) (i : Nat) : Bool :=
  match ops[i]? with
  | none => false
  | some o => (match lm P o with | some (_, xs, _) => (st.args xs).isSome | none => false)
def isCall : Op → Bool
  | .call { callee := .value _, .. } => true
  | _ => false
def stays (ops : Array Oper) (X : List Nat) (i : Nat) : Bool := !X.contains i && (match ops[i]? with | some o => !isCall o.op | none => false)
def exT (P : Program) (D : TypeId → Bool) (ops : Array Oper) (okL : Nat → Bool) (X : List Nat) : Nat → Array Bool → Bool → St → Option RQ
  | 0, listed, _, st => if (Region.ready .any ops listed).isEmpty then some (.leaf st, []) else none
  | f + 1, listed, fr, st =>
    let rs := Region.ready .any ops listed
    if rs.isEmpty then some (.leaf st, []) else
    match rs.find? (fun i => Region.free .any ops listed i && !X.contains i && canTake P ops okL st i) with
    | some i => gst P D ops okL (fun j => !okL j) true false true st i (exT P D ops okL X f (listed.setIfInBounds i true) fr)
    | none =>
      match rs.find? (fun i => fr && Region.free .any ops listed i && !X.contains i && canLd P ops st i && (X.isEmpty || waits .any ops listed X i)) with
      | some i => gst P D ops okL (fun j => !okL j) true true true st i (exT P D ops okL X f (listed.setIfInBounds i true) fr)
      | none =>
        match allOf (fun i => gst P D ops okL (fun j => !okL j) false false (!X.contains i) st i (exT P D ops okL X f (listed.setIfInBounds i true) (fr && stays ops X i))) rs with
        | some (x :: xs) => some (x.1, x.2 ++ xs.flatMap (fun y => (x.1, y.1) :: y.2))
        | _ => none
def RT.bind (K : St → Option (Tr × List (RT × RT))) : RT → Option (Tr × List (RT × RT))
  | .leaf st => K st
  | .em e k => (match RT.bind K k with | some (t, q) => some (.em e t, q) | none => none)
  | .cond a x y => (match RT.bind K x, RT.bind K y with | some (t1, q1), some (t2, q2) => some (.cond a t1 t2, q1 ++ q2) | _, _ => none)
def RQ.bind (r : Option RQ) (K : St → Option (Tr × List (RT × RT))) : Option (Tr × List (RT × RT)) :=
  match r with
  | some (r, q) => (match r.bind K with | some (t, q') => some (t, q ++ q') | none => none)
  | none => none
def addrOf (ops : Array Oper) (st : St) : Nat → Operand → Option Nat
  | 0, _ => none
  | f + 1, x =>
    match st.ev x with
    | .v (.s (.p j _)) => some j
    | _ =>
      match x with
      | .tmp t => (match ops.toList.find? (fun o => o.dst == some t) with
        | some o => (match o.op with | .fieldAddr _ y _ => addrOf ops st f y | .nilCheck y => addrOf ops st f y | _ => none)
        | none => none)
      | _ => none
def storedIn (ops : Array Oper) (st : St) : List Nat := ops.toList.filterMap fun o => match o.op with | .store _ x _ => addrOf ops st 5 x | _ => none
def xOps (D : TypeId → Bool) (ops : Array Oper) (st : St) : List Nat :=
  (List.range ops.size).filter fun i =>
    match ops[i]? with
    | none => false
    | some o => (match o.op with | .store _ x _ => (addrOf ops st 5 x).isNone | op => (wm D op).isSome)
def resOf (P : Program) (st : St) : ResultVar → Option V1
  | .tmp t => (match st.tmps.getD t .u with | .v x => if x.atoms.all A.noPtr then some x else none | _ => none)
  | .cell a t =>
    match st.tmps.getD a .u with
    | .v (.s (.p j off)) =>
      (match st.blocks[j]? with
       | some (some b) => (match partOf P t b.1 off with | some x => if x.atoms.all A.noPtr then some x else none | none => none)
       | _ => none)
    | _ => none
def resL (P : Program) (st : St) : List ResultVar → Option (List V1)
  | [] => some []
  | x :: r =>
    match resOf P st x, resL P st r with
    | some y, some ys => some (y :: ys)
    | _, _ => none
def retT (P : Program) (fn : Func) (st : St) : Option (Tr × List (RT × RT)) :=
  match resL P st fn.results.toList with
  | some [x] => some (.ret (.v x), [])
  | some l => some (.ret (.t l), [])
  | none => none
def beqV : Value → Value → Bool
  | .bool a, .bool b => a == b
  | .int k a, .int l b => k == l && a == b
  | .slice none a b, .slice none c d => a == c && b == d
  | .string s, .string r => s.data.toList == r.data.toList
  | .map none, .map none => true
  | .pointer none, .pointer none => true
  | .pointer (some ⟨b, o, none⟩), .pointer (some ⟨b', o', none⟩) => b == b' && o == o'
  | .nilIface, .nilIface => true
  | _, _ => false
def beqA : A → A → Bool
  | .c i n, .c j m => i == j && n == m
  | .k v, .k u => beqV v u
  | .p i n, .p j m => i == j && n == m
  | _, _ => false
def mat (n : Nat) (acc : List A) : List A → List A → Option (List A)
  | [], [] => some acc
  | x :: xs, y :: ys =>
    let same := if beqA x y then mat n acc xs ys else none
    match x with
    | .c i m => if i == n then (if m == acc.length && y.noPtr && y.fine then mat n (acc ++ [y]) xs ys else none) else same
    | _ => same
  | _, _ => none
def matV (n : Nat) (acc : List A) : V1 → V1 → Option (List A)
  | .s a, .s b => mat n acc [a] [b]
  | .g l, .g l' => mat n acc l l'
  | _, _ => none
def matVs (n : Nat) (acc : List A) : List V1 → List V1 → Option (List A)
  | [], [] => some acc
  | x :: xs, y :: ys => (match matV n acc x y with | some acc => matVs n acc xs ys | none => none)
  | _, _ => none
def matS (n : Nat) (acc : List A) : SV → SV → Option (List A)
  | .any, _ => some acc
  | .v x, .v y => matV n acc x y
  | .t l, .t l' => matVs n acc l l'
  | .u, .u => some acc
  | _, _ => none
def matT (n : Nat) (acc : List A) : List SV → List SV → Option (List A)
  | [], [] => some acc
  | x :: xs, y :: ys => (match matS n acc x y with | some acc => matT n acc xs ys | none => none)
  | _, _ => none
def matB (n : Nat) (acc : List A) : Bl → Bl → Option (List A)
  | [], [] => some acc
  | none :: xs, _ :: ys => matB n acc xs ys
  | some (l, t) :: xs, some (l', t') :: ys => if t == t' then (match mat n acc l l' with | some acc => matB n acc xs ys | none => none) else none
  | _, _ => none
def matSt (n : Nat) (hd st : St) : Option (List A) :=
  match matT n [] hd.tmps st.tmps with
  | some acc => matB n acc hd.blocks st.blocks
  | none => none
def dstsOf : Code → List Tmp
  | .region _ ops _ => ops.toList.filterMap (·.dst)
  | .seq a b => dstsOf a ++ dstsOf b
  | .cond _ a b => dstsOf a ++ dstsOf b
  | .block _ a => dstsOf a
  | .loop a => dstsOf a
  | _ => []
def strsOf (st : St) : Code → List Nat
  | .region _ ops _ => storedIn ops st
  | .seq a b => strsOf st a ++ strsOf st b
  | .cond _ a b => strsOf st a ++ strsOf st b
  | .block _ a => strsOf st a
  | .loop a => strsOf st a
  | _ => []
def hvS (n i : Nat) : SV → SV × Nat
  | .v (.s a) => if a.noPtr then (.v (.s (.c n i)), i + 1) else (.any, i)
  | .v (.g l) => if l.all A.noPtr then (.v (.g ((List.range' i l.length).map (.c n))), i + l.length) else (.any, i)
  | _ => (.any, i)
def hvT (n : Nat) (T : List Tmp) : Nat → Nat → List SV → List SV × Nat
  | _, i, [] => ([], i)
  | k, i, s :: r =>
    let (s', i') := if T.contains k then hvS n i s else (s, i)
    let (r', i'') := hvT n T (k + 1) i' r
    (s' :: r', i'')
def hvB (n : Nat) (T : List Nat) : Nat → Nat → Bl → Bl
  | _, _, [] => []
  | k, i, b :: r =>
    match b with
    | some (l, t) => if T.contains k then some ((List.range' i l.length).map (.c n), t) :: hvB n T (k + 1) (i + l.length) r else some (l, t) :: hvB n T (k + 1) i r
    | none => none :: hvB n T (k + 1) i r
def havoc (st : St) (c : Code) : St :=
  let (ts, i) := hvT st.nv (dstsOf c) 0 0 st.tmps
  { tmps := ts, blocks := hvB st.nv (strsOf st c) 0 i st.blocks, nv := st.nv + 1 }
inductive KI where
  | code (c : Code)
  | blk (id : Nat)
  | back (d : Nat) (hd : St) (m : Nat)
def depth : List KI → Nat
  | [] => 0
  | .back _ _ _ :: k => depth k + 1
  | _ :: k => depth k
def exitK (id : Nat) : List KI → Option (List KI)
  | .blk i :: k => if i = id then some k else exitK id k
  | .code _ :: k => exitK id k
  | .back _ _ _ :: k => exitK id k
  | [] => none
def run (P : Program) (D : TypeId → Bool) (fn : Func) : Nat → List KI → St → Option (Tr × List (RT × RT))
  | 0, _, _ => none
  | _ + 1, [], st => retT P fn st
  | f + 1, .blk _ :: k, st => run P D fn f k st
  | _ + 1, .back d hd m :: _, st => (match matSt (hd.nv - 1) hd st with | some vs => if vs.length = m then some (.back d vs, []) else none | none => none)
  | f + 1, .code c :: k, st =>
    match c with
    | .skip => run P D fn f k st
    | .seq a b => run P D fn f (.code a :: .code b :: k) st
    | .block id a => run P D fn f (.code a :: .blk id :: k) st
    | .exit id => (match exitK id k with | some k' => run P D fn f k' st | none => none)
    | .ret => retT P fn st
    | .loop a =>
      let hd := havoc st a
      (match matSt st.nv hd st with
       | some init =>
         if st.sc && hd.sc && decide (hd.nv = st.nv + 1) && (List.range st.blocks.length).all (fun j => !st.blocks.has j || hd.blocks.has j) then
           (match run P D fn f (.code a :: .back (depth k) hd init.length :: k) hd with | some (t, q) => some (.loop (depth k) init t, q) | none => none)
         else none
       | none => none)
    | .cond c x y =>
      (match st.ev c with
       | .v (.s (.k (.bool b))) => run P D fn f (.code (if b then x else y) :: k) st
       | .v (.s (.c i j)) =>
         (match run P D fn f (.code x :: k) (st.sub i j true), run P D fn f (.code y :: k) (st.sub i j false) with
          | some (t1, q1), some (t2, q2) => some (.cond (.c i j) t1 t2, q1 ++ q2)
          | _, _ => none)
       | _ => none)
    | .region _ ops false => RQ.bind (exL P D ops (List.range ops.size) st) (run P D fn f k)
    | .region _ ops true =>
      let T := storedIn ops st
      let okL := fun j => st.blocks.has j && !T.contains j
      if Region.noSelect ops then RQ.bind (exT P D ops okL (xOps D ops st) ops.size (Array.replicate ops.size false) true st) (run P D fn f k) else none
    | _ => none
def rowQ (P : Program) (D : TypeId → Bool) (f : FuncId) : Option (Tr × List (RT × RT)) :=
  match P.funcs[f]? with
  | some fn =>
    (match fn.body, fn.params.toList.mapM (shapeOf P) with
     | some c, some sh =>
       let ps := sh.zipIdx.map (fun (s, i) => SV.v (v1of i 0 s))
       let n := fn.ntmps - ps.length
       run P D fn 300 [.code c] { tmps := ps ++ List.replicate n .u, blocks := List.replicate (ps.length + n) none, nv := ps.length }
     | _, _ => none)
  | none => none
def rowOf (P : Program) (D : TypeId → Bool) (f : FuncId) : Option Tr := (rowQ P D f).map (·.1)
def eqsOf (P : Program) (D : TypeId → Bool) (f : FuncId) : List (RT × RT) := match rowQ P D f with | some (_, q) => q | none => []
end Cin
