/- A walk that is reckoned: which functions a call calls, in which order, with what, and what it tells; laid open by the kernel's own reckoning, shown sound once. No program. -/
import Derived.Test.YthffkbbcofbceaaGreatDoorYb
import Derived.Laws.CopyRow
import Derived.Deep.MidRow
namespace Cin
open Go Go.RowKit
inductive A where
  | c (i k:Nat)
  | k (v:Value)
  | p (j o:Nat)
inductive V1 where
  | s (a:A)
  | g (l:List A)
inductive SV where
  | v (x:V1)
  | t (l:List V1)
  | u
  | any
abbrev Env:=List (List Value)
def A.den (ρ:List Nat) (E:Env):A→Value
  | .c i n=>(E.getD i []).getD n (.bool false)
  | .k v=>v
  | .p j o=>.pointer (some ⟨ρ.getD j 0,o,none⟩)
def V1.den (ρ:List Nat) (E:Env):V1→Value
  | .s a=>a.den ρ E
  | .g l=>.agg (l.map (A.den ρ E)).toArray
def SV.den (ρ:List Nat) (E:Env):SV→Value
  | .v x=>x.den ρ E
  | .t l=>.tuple (l.map (V1.den ρ E)).toArray
  | .u=>undef
  | .any=>undef
def SV.isAny:SV→Bool
  | .any=>true
  | _=>false
def SV.Rep (ρ:List Nat) (E:Env) (s:SV) (v:Value):Prop:=s.isAny=false→v=s.den ρ E
def V1.atoms:V1→List A
  | .s a=>[a]
  | .g l=>l
def SV.atoms:SV→List A
  | .v x=>x.atoms
  | .t l=>l.flatMap V1.atoms
  | _=>[]
abbrev Bl:=List (Option (List A × TypeId))
def Bl.has (bl:Bl) (j:Nat):Bool:=match bl[j]? with | some (some _)=>true | _=>false
def A.sc (nv:Nat) (bl:Bl):A→Bool
  | .c i _=>decide (i < nv)
  | .k _=>true
  | .p j _=>bl.has j
def A.fine:A→Bool
  | .k v=>v.oneCell'
  | _=>true
def A.noPtr:A→Bool
  | .p _ _=>false
  | _=>true
structure St where
  tmps:List SV
  blocks:Bl
  nv:Nat
  fo:Bool:=false
def St.sc (st:St):Bool:=
  st.tmps.all (fun s=>s.atoms.all (A.sc st.nv st.blocks)) && st.blocks.all (fun b=>match b with | some b=>b.1.all (A.sc st.nv st.blocks) | none=>true)
def St.put (st:St) (dst:Option Tmp) (s:SV):St:=
  match dst with
  | some d=>{ st with tmps:=st.tmps.set d s }
  | none=>st
def St.ev (st:St):Operand→SV
  | .tmp t=>st.tmps.getD t .u
  | .const (.agg cs)=>.v (.g (cs.toList.map .k))
  | .const (.tuple _)=>.any
  | .const v=>.v (.s (.k v))
  | .global g=>.v (.s (.k (.pointer (some ⟨g,0,none⟩))))
  | .func f=>.v (.s (.k (.func (.func f) #[] #[])))
def A.sub (i n:Nat) (b:Value):A→A
  | .c i' n'=>if i' == i && n' == n then .k b else .c i' n'
  | a=>a
def V1.sub (i n:Nat) (b:Value):V1→V1
  | .s a=>.s (a.sub i n b)
  | .g l=>.g (l.map (A.sub i n b))
def SV.sub (i n:Nat) (b:Value):SV→SV
  | .v x=>.v (x.sub i n b)
  | .t l=>.t (l.map (V1.sub i n b))
  | .u=>.u
  | .any=>.any
def St.sub (st:St) (i n:Nat) (b:Value):St:={ st with tmps:=st.tmps.map (SV.sub i n b),blocks:=st.blocks.map fun x=>x.map fun x=>(x.1.map (A.sub i n b),x.2) }
def St.arg (st:St) (x:Operand):Option V1:=
  match st.ev x with
  | .v y=>if y.atoms.all A.noPtr then some y else none
  | _=>none
inductive Em where
  | call (f:FuncId) (args:List V1) (sh:List (Option Nat))
  | pr (op:Op) (ty:TypeId) (args:List V1)
  | ld (op:Op) (ty:TypeId) (args:List V1) (sh:Option Nat)
  | wx (op:Op) (ty:TypeId) (args:List V1) (sh:Option (Option Nat))
  | lt (op:Op) (ty:TypeId) (args:List V1) (sh:List (Option Nat))
  | wt (op:Op) (ty:TypeId) (args:List V1) (sh:List (Option Nat))
  | nx (op:Op) (ty:TypeId) (args:List V1) (sh:List (Option Nat))
  | cv (g:A) (args:List V1) (sh:List (Option Nat))
inductive Tr where
  | ret (x:SV)
  | em (e:Em) (k:Tr)
  | cond (a:A) (x y:Tr)
  | both (x y:Tr)
  | loop (d:Nat) (init:List A) (body:Tr)
  | back (d:Nat) (vals:List A)
  | ifeq (a:A) (v:Value) (x y:Tr)
  | nope
def v1of (n i:Nat):Option Nat→V1
  | none=>.s (.c n i)
  | some m=>.g ((List.range' i m).map (.c n))
def svs (n i:Nat):List (Option Nat)→List V1
  | []=>[]
  | s::r=>v1of n i s::svs n (i+s.getD 1) r
def mkSV (sh:List (Option Nat)) (n:Nat):SV:=
  match sh with
  | [s]=>.v (v1of n 0 s)
  | _=>.t (svs n 0 sh)
def shapeOf (P:Program) (t:TypeId):Option (Option Nat):=
  match (P.info? t).bind (·.zero) with
  | some (.agg cs)=>some (some cs.size)
  | some (.tuple _)=>none
  | some _=>some none
  | none=>none
def partOf (P:Program) (t:TypeId) (l:List A) (off:Nat):Option V1:=
  match P.underlying t,P.info? t with
  | some d,some i=>if d.isRow then (if off+i.size≤l.length then some (.g ((l.drop off).take i.size)) else none) else (l[off]?).map .s
  | _,_=>none
def setAll (off:Nat) (l cells:List A):List A:=l.zipIdx.foldl (fun cs (c,j)=>cs.set (off+j) c) cells
def fillA (place:Nat→Option (Nat × Nat)) (cells:List A):List (Nat × V1)→Option (List A)
  | []=>some cells
  | (i,x)::r=>
    match place i with
    | none=>none
    | some (off,size)=>if x.atoms.length=size∧off+x.atoms.length≤cells.length∧x.atoms.all A.fine=true then fillA place (setAll off x.atoms cells) r else none
def builtA (P:Program) (t:TypeId) (parts:List (Nat × V1)):Option (List A):=
  match P.info? t,P.underlying t with
  | some it,some (.array _ e)=>
    match it.zero,P.info? e with
    | some z,some ie=>fillA (fun i=>some (i * ie.size,ie.size)) (z.cells.toList.map .k) parts
    | _,_=>none
  | some it,some (.struct fields)=>
    match it.zero,fields.toList.mapM (fun f=>(P.info? f.type).map fun i=>(f.offset,i.size)) with
    | some z,some places=>fillA (places.toArray[·]?) (z.cells.toList.map .k) parts
    | _,_=>none
  | _,_=>none
def St.parts (st:St):List (Nat × Operand)→Option (List (Nat × V1))
  | []=>some []
  | (i,x)::r=>
    match st.ev x,st.parts r with
    | .v y,some ys=>some ((i,y)::ys)
    | _,_=>none
def St.args (st:St):List Operand→Option (List V1)
  | []=>some []
  | x::r=>
    match st.arg x,st.args r with
    | some y,some ys=>some (y::ys)
    | _,_=>none
def foldI (op:BinOp) (k:IntKind) (a b:Int):Option Value:=
  match op with
  | .add=>if IntKind.wrap k (a+b)=a+b then some (.int k (a+b)) else none
  | .sub=>if IntKind.wrap k (a - b)=a - b then some (.int k (a - b)) else none
  | .lss=>some (.bool (a < b))
  | .leq=>some (.bool (a≤b))
  | .gtr=>some (.bool (b < a))
  | .geq=>some (.bool (b≤a))
  | .eql=>some (.bool (a=b))
  | .neq=>some (.bool (a≠b))
  | _=>none
def arrAt (P:Program) (t:TypeId) (i:Int):Option (TypeId × Nat):=
  match P.underlying t with
  | some (.array n e)=>(match P.info? e with | some ie=>if 0≤i∧i < (n:Int)∧ie.size≠0 then some (e,i.toNat * ie.size) else none | none=>none)
  | _=>none
def rd0 (P:Program) (okL:Nat→Bool) (st:St):Op→Option SV
  | .move x=>some (st.ev x)
  | .assign x=>some (st.ev x)
  | .load t x=>
    match st.ev x with
    | .v (.s (.p j off))=>if okL j then (match st.blocks[j]? with | some (some b)=>(partOf P t b.1 off).map .v | _=>none) else none
    | _=>none
  | .fieldAddr s x f=>
    match st.ev x,P.underlying s with
    | .v (.s (.p j off)),some (.struct fs)=>
      (match fs[f]? with
       | some fd=>(match P.info? fd.type with | some i=>if i.size=0 then none else some (.v (.s (.p j (off+fd.offset)))) | none=>none)
       | none=>none)
    | _,_=>none
  | .field t x f=>
    match st.ev x,P.underlying t with
    | .v (.g l),some (.struct fs)=>(match fs[f]? with | some fd=>(partOf P fd.type l fd.offset).map .v | none=>none)
    | _,_=>none
  | .extract x i=>
    match st.ev x with
    | .t l=>(l[i]?).map .v
    | _=>none
  | .build t parts=>(match st.parts parts.toList with | some ps=>(builtA P t ps).map (fun l=>.v (.g l)) | none=>none)
  | .pick c x y=>
    match st.ev c with
    | .v (.s (.k (.bool b)))=>some (st.ev (if b then x else y))
    | _=>none
  | .nilCheck x=>
    match st.ev x with
    | .v (.s (.p j off))=>some (.v (.s (.p j off)))
    | .v (.s (.k (.func (.func f) ⟨[]⟩ ⟨[]⟩)))=>some (.v (.s (.k (.func (.func f) ⟨[]⟩ ⟨[]⟩))))
    | _=>none
  | .unOp .not _ x=>
    match st.ev x with
    | .v (.s (.k (.bool b)))=>some (.v (.s (.k (.bool (!b)))))
    | _=>none
  | .binOp op _ x y _=>
    if st.fo then
      match st.ev x,st.ev y with
      | .v (.s (.k (.int k a))),.v (.s (.k (.int k' b)))=>if k=k' then (foldI op k a b).map (fun v=>.v (.s (.k v))) else none
      | _,_=>none
    else none
  | .index t x i=>
    if st.fo then
      match st.ev x,st.ev i with
      | .v (.g l),.v (.s (.k (.int _ n)))=>(match arrAt P t n with | some (e,off)=>(partOf P e l off).map .v | none=>none)
      | _,_=>none
    else none
  | .indexAddr t x i=>
    if st.fo then
      match st.ev x,st.ev i with
      | .v (.s (.p j o)),.v (.s (.k (.int _ n)))=>(match arrAt P t n with | some (_,off)=>some (.v (.s (.p j (o+off)))) | none=>none)
      | _,_=>none
    else none
  | _=>none
def ab (i:Nat):Operand→Operand
  | .const v=>.const v
  | _=>.tmp i
def pe (vs:List Value):Operand→Value
  | .tmp i=>vs.getD i undef
  | .const v=>v
  | .global g=>.pointer (some ⟨g,0,none⟩)
  | .func f=>.func (.func f) #[] #[]
def pm:Op→Option (Op × List Operand)
  | .binOp op t x y t2=>some (.binOp op t (ab 0 x) (ab 1 y) t2,[x,y])
  | .unOp op t x=>some (.unOp op t (ab 0 x),[x])
  | .convert s d x=>some (.convert s d (ab 0 x),[x])
  | .indexAddr t x i=>some (.indexAddr t (ab 0 x) (ab 1 i),[x,i])
  | .fieldAddr t x f=>some (.fieldAddr t (ab 0 x) f,[x])
  | .nilCheck x=>some (.nilCheck (ab 0 x),[x])
  | .index t x i=>some (.index t (ab 0 x) (ab 1 i),[x,i])
  | .makeFunc f ⟨[]⟩ ⟨[x]⟩=>some (.makeFunc f #[] #[ab 0 x],[x])
  | .makeFunc f ⟨[]⟩ ⟨[x,y]⟩=>some (.makeFunc f #[] #[ab 0 x,ab 1 y],[x,y])
  | .slice t x none none none=>some (.slice t (ab 0 x) none none none,[x])
  | .slice t x (some l) none none=>some (.slice t (ab 0 x) (some (ab 1 l)) none none,[x,l])
  | .slice t x none (some h) none=>some (.slice t (ab 0 x) none (some (ab 1 h)) none,[x,h])
  | .slice t x (some l) (some h) none=>some (.slice t (ab 0 x) (some (ab 1 l)) (some (ab 2 h)) none,[x,l,h])
  | .call { callee:=.builtin b,args,argTypes }=>
    (match b,args.toList with
     | .len,[x]=>some (.call { callee:=.builtin .len,args:=#[ab 0 x],argTypes },[x])
     | .min,[x,y]=>some (.call { callee:=.builtin .min,args:=#[ab 0 x,ab 1 y],argTypes },[x,y])
     | .max,[x,y]=>some (.call { callee:=.builtin .max,args:=#[ab 0 x,ab 1 y],argTypes },[x,y])
     | _,_=>none)
  | _=>none
def PrimOk (P:Program) (op:Op) (ty:TypeId) (vs:List Value) (v:Value):Prop:=
  ∀ w,(execOp (pe vs) ⟨none,op,ty,"",#[],none⟩).run P w=.ok (.value v) w
def lm (P:Program) (o:Oper):Option (Op × List Operand × Option Nat):=
  match o.op with
  | .load t x=>(match shapeOf P t with | some sh=>some (.load t (ab 0 x),[x],sh) | none=>none)
  | .index t x i=>
    (match P.underlying t with
     | some .string=>none
     | _=>(match shapeOf P o.type with | some sh=>some (.index t (ab 0 x) (ab 1 i),[x,i],sh) | none=>none))
  | .lookup t x i false=>
    (match P.underlying t with
     | some (.map _ e)=>(match shapeOf P e with | some sh=>some (.lookup t (ab 0 x) (ab 1 i) false,[x,i],sh) | none=>none)
     | _=>none)
  | .call { callee:=.builtin .len,args,argTypes }=>
    (match args.toList,argTypes.toList with
     | [x],[t]=>(match P.underlying t with | some (.map _ _)=>some (.call { callee:=.builtin .len,args:=#[ab 0 x],argTypes },[x],none) | _=>none)
     | _,_=>none)
  | _=>none
def mapSh (P:Program) (D:TypeId→Bool):Option (Option Nat × Option Nat):=
  match (List.range P.types.size).find? (fun t=>D (2000000+t)) with
  | some t=>
    (match P.underlying t with
     | some (.map k e)=>(match shapeOf P k,shapeOf P e with | some a,some b=>some (a,b) | _,_=>none)
     | _=>none)
  | none=>none
def lm2 (P:Program) (D:TypeId→Bool) (o:Oper):Option (Op × List Operand × List (Option Nat)):=
  match o.op with
  | .lookup t x i true=>
    (match P.underlying t with
     | some (.map _ e)=>(match shapeOf P e with | some sh=>some (.lookup t (ab 0 x) (ab 1 i) true,[x,i],[sh,none]) | none=>none)
     | _=>none)
  | .entry x=>(match mapSh P D with | some (a,b)=>some (.entry (ab 0 x),[x],[a,b]) | none=>none)
  | _=>none
def abL (xs:List Operand):Array Operand:=(xs.zipIdx.map fun (x,i)=>ab i x).toArray
def wm (D:TypeId→Bool):Op→Option (Op × List Operand × Option (Option Nat))
  | .buildSlice t len parts=>some (.buildSlice t len (parts.toList.zipIdx.map fun (p,i)=>(p.1,ab i p.2)).toArray,parts.toList.map (·.2),some none)
  | .makeSlice t l c=>some (.makeSlice t (ab 0 l) (ab 1 c),[l,c],some none)
  | .alloc t=>if D t then some (.alloc t,[],some none) else none
  | .box t x=>if D t then some (.box t (ab 0 x),[x],some none) else none
  | .store t x y=>some (.store t (ab 0 x) (ab 1 y),[x,y],none)
  | .call { callee:=.builtin b,args,argTypes }=>
    (match b with
     | .append=>some (.call { callee:=.builtin .append,args:=abL args.toList,argTypes },args.toList,some none)
     | .copy=>some (.call { callee:=.builtin .copy,args:=abL args.toList,argTypes },args.toList,some none)
     | _=>none)
  | .makeMap t none=>some (.makeMap t none,[],some none)
  | .makeMap t (some r)=>some (.makeMap t (some (ab 0 r)),[r],some none)
  | .mapUpdate t m k x=>some (.mapUpdate t (ab 0 m) (ab 1 k) (ab 2 x),[m,k,x],none)
  | .insert t m k x=>some (.mapUpdate t (ab 0 m) (ab 1 k) (ab 2 x),[m,k,x],none)
  | .range t x=>some (.range t (ab 0 x),[x],some none)
  | _=>none
def wm2:Op→Option (Op × List Operand × List (Option Nat))
  | .call { callee:=.builtin .delete,args,argTypes }=>some (.call { callee:=.builtin .delete,args:=abL args.toList,argTypes },args.toList,[])
  | _=>none
def wrF (D:TypeId→Bool) (f:FuncId):Bool:=D (1000000+f)
inductive Ef where
  | blk (bl:Bl) (s:SV) (grown:Bool)
  | cl (f:FuncId) (args:List V1) (sh:List (Option Nat))
  | cv (g:A) (args:List V1) (sh:List (Option Nat))
def toV1:Value→Option V1
  | .agg cs=>if cs.toList.all Value.oneCell' then some (.g (cs.toList.map .k)) else none
  | .tuple _=>none
  | v=>some (.s (.k v))
def mkBl (st:St) (dst:Option Tmp) (x:List A) (t:TypeId):Option Ef:=
  match dst with
  | some d=>(match st.blocks[d]? with | some none=>some (.blk (st.blocks.set d (some (x,t))) (.v (.s (.p d 0))) true) | _=>none)
  | none=>none
def calleeOf (st:St) (x:Operand):Option FuncId:=
  match st.ev x with
  | .v (.s (.k (.func (.func f) ⟨[]⟩ ⟨[]⟩)))=>some f
  | _=>none
def St.drop (st:St) (d:Nat):St:={ st with tmps:=st.tmps.set d .any,blocks:=st.blocks.set d none }
def St.clr (st:St) (okS:Nat→Bool) (dst:Option Tmp):St:=
  match dst with
  | some d=>if st.fo && okS d && st.blocks.has d then st.drop d else st
  | none=>st
def cellOf (st:St) (x:Operand):Option (Nat × Nat):=
  match st.ev x with
  | .v (.s (.c i k))=>some (i,k)
  | _=>none
def outOf (P:Program) (t:TypeId):Option (List (Option Nat)):=
  match P.underlying t with
  | some (.tuple l)=>l.toList.mapM (shapeOf P)
  | _=>(shapeOf P t).map fun s=>[s]
def eff (P:Program) (D:TypeId→Bool) (okS:Nat→Bool) (st:St) (dst:Option Tmp) (ty:TypeId):Op→Option Ef
  | .alloc t=>
    match (P.info? t).bind (·.zero) with
    | some z=>(match toV1 z with | some x=>if D t || !(st.clr okS dst).sc then none else mkBl (st.clr okS dst) dst x.atoms t | none=>none)
    | none=>none
  | .box t x=>
    match st.ev x with
    | .v y=>if D t || !y.atoms.all A.fine then none else mkBl st dst y.atoms t
    | _=>none
  | .store t x y=>
    match st.ev x,st.ev y,P.info? t with
    | .v (.s (.p j off)),.v z,some i=>
      (match st.blocks[j]? with
       | some (some b)=>if okS j && decide (z.atoms.length=i.size) && decide (off+z.atoms.length≤b.1.length) && z.atoms.all A.fine then
           some (.blk (st.blocks.set j (some (b.1.take off++z.atoms++b.1.drop (off+z.atoms.length),b.2))) .u false) else none
       | _=>none)
    | _,_,_=>none
  | .call { callee:=.value x,args,.. }=>
    match calleeOf st x with
    | none=>(match cellOf st x,st.args args.toList,outOf P ty with | some (i,k),some ar,some sh=>some (.cv (.c i k) ar sh) | _,_,_=>none)
    | some f=>
    match st.args args.toList,P.funcs[f]? with
    | some ar,some fn=>
      if fn.name == "runtime.NumGoroutine" || fn.body.isNone then none
      else (match fn.resultTypes.toList.mapM (shapeOf P) with | some sh=>some (.cl f ar sh) | none=>none)
    | _,_=>none
  | _=>none
def wxSV (n:Nat):Option (Option Nat)→SV
  | some s=>.v (v1of n 0 s)
  | none=>.u
def stp (P:Program) (D:TypeId→Bool) (okL okS:Nat→Bool) (b la nx:Bool) (st:St) (o:Oper):Option (Option Em × St):=
  match rd0 P (if b then okL else fun _=>true) st o.op with
  | some s=>some (none,st.put o.dst s)
  | none=>
    match lm P o with
    | some (op,xs,sh)=>
      (match st.args xs with
       | some ar=>if st.sc && (!b || la) then some (some (.ld op o.type ar sh),{ st with nv:=st.nv+1:St }.put o.dst (.v (v1of st.nv 0 sh))) else none
       | none=>none)
    | none=>
    match lm2 P D o with
    | some (op,xs,sh)=>
      (match st.args xs with
       | some ar=>if st.sc && (!b || la) then some (some (.lt op o.type ar sh),{ st with nv:=st.nv+1:St }.put o.dst (mkSV sh st.nv)) else none
       | none=>none)
    | none=>
      match pm o.op with
      | some (op,xs)=>
        (match st.args xs with
         | some ar=>if st.sc then some (some (.pr op o.type ar),{ st with nv:=st.nv+1:St }.put o.dst (.v (.s (.c st.nv 0)))) else none
         | none=>none)
      | none=>
        if b then none else
        match eff P D okS st o.dst o.type o.op with
        | some (.blk bl s g)=>if g && !st.sc then none else some (none,{ st with blocks:=bl:St }.put o.dst s)
        | some (.cl f ar sh)=>if st.sc && !(nx && wrF D f) then some (some (.call f ar sh),{ st with nv:=st.nv+1:St }.put o.dst (mkSV sh st.nv)) else none
        | some (.cv g ar sh)=>if st.sc then some (some (.cv g ar sh),{ st with nv:=st.nv+1:St }.put o.dst (mkSV sh st.nv)) else none
        | none=>
          if nx then none else
          match wm D o.op with
          | some (op,xs,sh)=>
            (match st.args xs with
             | some ar=>if st.sc then some (some (.wx op o.type ar sh),{ st with nv:=st.nv+1:St }.put o.dst (wxSV st.nv sh)) else none
             | none=>none)
          | none=>
          match wm2 o.op with
          | some (op,xs,sh)=>
            (match st.args xs with
             | some ar=>if st.sc then some (some (.wt op o.type ar sh),{ st with nv:=st.nv+1:St }.put o.dst (mkSV sh st.nv)) else none
             | none=>none)
          | none=>none
def nxt (P:Program) (D:TypeId→Bool) (b nx:Bool) (st:St) (o:Oper):Option (Em × St × St):=
  match o.op with
  | .next x false=>
    (match st.args [x],mapSh P D with
     | some ar,some (k,e)=>
       if !b && !nx && st.sc then some (.nx (.next (ab 0 x) false) o.type ar [k,e],{ st with nv:=st.nv+1:St }.put o.dst (.t (.s (.k (.bool true))::svs st.nv 1 [k,e])),{ st with nv:=st.nv+1:St }.put o.dst (.t [.s (.k (.bool false))]))
       else none
     | _,_=>none)
  | _=>none
inductive RT where
  | leaf (st:St)
  | em (e:Em) (k:RT)
  | cond (a:A) (x y:RT)
  | both (x y:RT)
abbrev RQ:=RT × List (RT × RT)
def one (e:Option Em) (r:RQ):RQ:=
  match e with
  | none=>r
  | some e=>(.em e r.1,r.2)
def A.fp:A→Nat
  | .c i n=>4 * (16 * i+n)+3
  | .k _=>1
  | .p ..=>2
def argsFp (ar:List V1):Nat:=ar.foldl (fun h x=>x.atoms.foldl (fun h a=>(1009 * h+a.fp) % 1000000007) (h+1)) 0
def Em.fp:Em→Nat
  | .call f ar _=>8 * (f+65536 * argsFp ar)+1
  | .pr _ _ ar=>8 * argsFp ar+2
  | .ld _ _ ar _=>8 * argsFp ar+3
  | .wx (.alloc t) _ ar _=>8 * (t+65536 * argsFp ar)+5
  | .wx _ ty ar _=>8 * (ty+65536 * argsFp ar)+4
  | .lt _ _ ar _=>8 * argsFp ar+6
  | .wt _ ty ar _=>8 * (ty+65536 * argsFp ar)+7
  | .nx _ ty ar _=>8 * (ty+65536 * argsFp ar)
  | .cv g ar _=>8 * (g.fp+65536 * argsFp ar)+1
def RT.fp:RT→List Nat
  | .leaf _=>[0]
  | .em e k=>e.fp::k.fp
  | .cond _ x y=>6::(x.fp++y.fp)
  | .both x y=>7::(x.fp++y.fp)
def eqN:List Nat→List Nat→Bool
  | [],[]=>true
  | a::r,b::s=>Nat.beq a b && eqN r s
  | _,_=>false
def joinQ:Nat→RQ→List RQ→RQ
  | 0,x,ys=>(x.1,x.2++ys.flatMap (fun y=>(x.1,y.1)::y.2))
  | n+1,x,ys=>
    match ys.filter (fun y=>!eqN x.1.fp y.1.fp) with
    | []=>(x.1,x.2++ys.flatMap (fun y=>(x.1,y.1)::y.2))
    | d::ds=>
      let s:=ys.filter (fun y=>eqN x.1.fp y.1.fp)
      let r:=joinQ n d ds
      (.both x.1 r.1,(x.2++s.flatMap (fun y=>(x.1,y.1)::y.2))++r.2)
def two (a:A) (x y:RQ):RQ:=(.cond a x.1 y.1,x.2++y.2)
def gd (ops:Array Oper) (st:St) (j:Nat):SV:=match (ops[j]?).bind (·.dst) with | some d=>st.tmps.getD d .any | none=>.u
def gst (P:Program) (D:TypeId→Bool) (ops:Array Oper) (okL okS:Nat→Bool) (b la nx:Bool) (st:St) (i:Nat) (K:St→Option RQ):Option RQ:=
  match ops[i]? with
  | none=>none
  | some o=>
    match o.guard with
    | none=>
      (match stp P D okL okS b la nx st o with
       | some (e,st')=>(K st').map (one e)
       | none=>
         (match nxt P D b nx st o with
          | some (e,s1,s2)=>(match K s1,K s2 with | some t1,some t2=>some (one (some e) (two (.c st.nv 0) t1 t2)) | _,_=>none)
          | none=>none))
    | some (j,want)=>
      match gd ops st j with
      | .u=>K (st.put o.dst .u)
      | .v (.s (.k (.bool x)))=>
        if x=want then (match stp P D okL okS b la nx st o with | some (e,st')=>(K st').map (one e) | none=>none)
        else K (st.put o.dst .u)
      | .v (.s (.c ci ck))=>
        (match stp P D okL okS b la nx (st.sub ci ck (.bool want)) o with
         | some (e,st')=>
           (match K st',K ((st.sub ci ck (.bool !want)).put o.dst .u) with
            | some t1,some t2=>some (if want then two (.c ci ck) (one e t1) t2 else two (.c ci ck) t2 (one e t1))
            | _,_=>none)
         | none=>none)
      | _=>none
def exL (P:Program) (D:TypeId→Bool) (ops:Array Oper):List Nat→St→Option RQ
  | [],st=>some (.leaf st,[])
  | i::r,st=>gst P D ops (fun _=>true) (fun _=>true) false false false st i (exL P D ops r)
def canTake (P:Program) (ops:Array Oper) (okL:Nat→Bool) (st:St) (i:Nat):Bool:=
  match ops[i]? with
  | none=>false
  | some o=>
    let rd:=(rd0 P okL st o.op).isSome || (pm o.op).isSome
    match o.guard with
    | none=>rd
    | some (j,want)=>
      match gd ops st j with
      | .u=>true
      | .v (.s (.k (.bool x)))=>if x=want then rd else true
      | _=>rd
def allOf (g:Nat→Option RQ):List Nat→Option (List RQ)
  | []=>some []
  | i::r=>match g i,allOf g r with | some x,some xs=>some (x::xs) | _,_=>none
def canLd (P:Program) (D:TypeId→Bool) (ops:Array Oper) (st:St) (i:Nat):Bool:=
  match ops[i]? with
  | none=>false
  | some o=>(match lm P o with | some (_,xs,_)=>(st.args xs).isSome | none=>(match lm2 P D o with | some (_,xs,_)=>(st.args xs).isSome | none=>false))
def isCall:Op→Bool
  | .call { callee:=.value _,.. }=>true
  | _=>false
def stays (ops:Array Oper) (X:List Nat) (i:Nat):Bool:=!X.contains i && (match ops[i]? with | some o=>!isCall o.op | none=>false)
def exT (P:Program) (D:TypeId→Bool) (ops:Array Oper) (okL:Nat→Bool) (X:List Nat):Nat→Array Bool→Bool→St→Option RQ
  | 0,listed,_,st=>if (Region.ready .any ops listed).isEmpty then some (.leaf st,[]) else none
  | f+1,listed,fr,st=>
    let rs:=Region.ready .any ops listed
    if rs.isEmpty then some (.leaf st,[]) else
    match rs.find? (fun i=>Region.free .any ops listed i && !X.contains i && canTake P ops okL st i) with
    | some i=>gst P D ops okL (fun j=>!okL j) true false true st i (exT P D ops okL X f (listed.setIfInBounds i true) fr)
    | none=>
      match rs.find? (fun i=>fr && Region.free .any ops listed i && !X.contains i && canLd P D ops st i && (X.isEmpty || waits .any ops listed X i)) with
      | some i=>gst P D ops okL (fun j=>!okL j) true true true st i (exT P D ops okL X f (listed.setIfInBounds i true) fr)
      | none=>
        match allOf (fun i=>gst P D ops okL (fun j=>!okL j) false false (!X.contains i) st i (exT P D ops okL X f (listed.setIfInBounds i true) (fr && stays ops X i))) rs with
        | some (x::xs)=>some (joinQ xs.length x xs)
        | _=>none
def maskOf (p:Nat→Bool):List Nat→Nat
  | []=>0
  | j::r=>if p j then Nat.lor (2 ^ j) (maskOf p r) else maskOf p r
theorem testBit_maskOf (p:Nat→Bool):∀ (l:List Nat) (k:Nat),(maskOf p l).testBit k=(l.contains k && p k)
  | [],k=>by simp [maskOf]
  | j::r,k=>by
    unfold maskOf
    by_cases h:p j=true
    · rw [if_pos h]
      show (2 ^ j ||| maskOf p r).testBit k=_
      rw [Nat.testBit_or,Nat.testBit_two_pow,testBit_maskOf p r k]
      by_cases e:j=k
      · subst e; simp [h]
      · have e':¬ k=j:=fun h=>e h.symm
        simp [e,e']
    · rw [if_neg h,testBit_maskOf p r k]
      by_cases e:j=k
      · subst e; simp [h]
      · have e':¬ k=j:=fun h=>e h.symm
        simp [e']
def subM (a m:Nat):Bool:=Nat.beq (Nat.land a m) a
theorem subM_iff (a m:Nat):subM a m=true↔∀ k,a.testBit k=true→m.testBit k=true:=by
  unfold subM
  rw [Nat.beq_eq]
  show a &&& m=a↔_
  constructor
  · intro h k hk
    rw [← h,Nat.testBit_and] at hk
    simp at hk
    exact hk.2
  · intro h
    apply Nat.eq_of_testBit_eq
    intro k
    rw [Nat.testBit_and]
    by_cases hk:a.testBit k=true
    · rw [hk,h k hk]; rfl
    · simp at hk; rw [hk]; rfl
def bitM (m i:Nat):Bool:=Nat.beq (Nat.land (Nat.shiftRight m i) 1) 1
theorem bitM_eq (m i:Nat):bitM m i=m.testBit i:=by
  unfold bitM
  show Nat.beq ((m >>> i) &&& 1) 1=_
  rw [Nat.testBit,Nat.and_comm]
  rcases Nat.mod_two_eq_zero_or_one (m >>> i) with h | h <;> rw [Nat.one_and_eq_mod_two,h] <;> rfl
def needOf (ops:Array Oper) (i:Nat):Nat:=
  match ops[i]? with
  | some o=>maskOf (fun _=>true) ((o.after.toList.filter (Region.binds .any)).map (·.on))
  | none=>0
def confOf (ops:Array Oper) (i:Nat):Nat:=
  match ops[i]? with
  | some oi=>maskOf (fun j=>match ops[j]? with | some oj=>!(j == i || (oj.after.any (fun e=>Region.binds .any e && e.on == i) || oi.apart ops oj)) | none=>false) (List.range ops.size)
  | none=>0
def bnd (ops:Array Oper) (i:Nat) (T:List Nat) (k:Nat):Bool:=match ops[k]? with | some o=>bindsOn .any o (fun m=>m == i || T.contains m) | none=>false
theorem waits_eq (ops:Array Oper) (listed:Array Bool) (X:List Nat) (i:Nat):waits .any ops listed X i=(X.all (depsOf .any ops i).contains && (depsOf .any ops i).all fun k=>!listed.getD k true && bnd ops i (depsOf .any ops i) k):=rfl
def waitOf (ops:Array Oper) (X:List Nat) (i:Nat):Option Nat:=
  let T:=depsOf .any ops i
  if X.all T.contains && T.all (bnd ops i T) then some (maskOf (fun _=>true) T) else none
def Rel (n:Nat) (listed:Array Bool) (m:Nat):Prop:=listed.size=n∧∀ i,m.testBit i=listed.getD i false
theorem Rel.lt {n m i:Nat} {listed:Array Bool} (h:Rel n listed m) (hi:i < n):listed.getD i true=m.testBit i:=by
  rw [h.2 i]
  have:i < listed.size:=by rw [h.1]; exact hi
  simp [Array.getD,this]
theorem Rel.set {n m i:Nat} {listed:Array Bool} (h:Rel n listed m) (hi:i < n):Rel n (listed.setIfInBounds i true) (Nat.lor m (2 ^ i)):=by
  refine ⟨by simp [h.1],fun k=>?_⟩
  show (m ||| 2 ^ i).testBit k=_
  rw [Nat.testBit_or,Nat.testBit_two_pow,h.2 k]
  have hs:i < listed.size:=by rw [h.1]; exact hi
  by_cases e:i=k
  · subst e; simp [Array.getD,hs]
  · rw [getD_set_ne false e]
    simp [e]
theorem Rel.zero (n:Nat):Rel n (Array.replicate n false) 0:=by
  refine ⟨by simp,fun k=>?_⟩
  simp [Array.getD]
def readyM (tn:List Nat) (n m:Nat):List Nat:=(List.range n).filter fun i=>!bitM m i && subM (tn.getD i 0) m
theorem tab_getD {n i:Nat} (f:Nat→Nat) (hi:i < n):((List.range n).map f).getD i 0=f i:=by
  simp [List.getD,hi]
theorem readyM_eq {ops:Array Oper} {listed:Array Bool} {m:Nat} (h:Rel ops.size listed m):readyM ((List.range ops.size).map (needOf ops)) ops.size m=Region.ready .any ops listed:=by
  unfold readyM Region.ready
  refine List.filter_congr fun i hi=>?_
  have hi':i < ops.size:=by simpa using hi
  rw [bitM_eq,← h.lt hi',tab_getD _ hi']
  congr 1
  unfold needOf
  have ho:ops[i]?=some ops[i]:=Array.getElem?_eq_getElem hi'
  rw [ho]
  simp only [Option.map_some,Option.getD_some]
  rw [Bool.eq_iff_iff,subM_iff,Array.all_eq_true_iff_forall_mem]
  constructor
  · intro h1 e he
    by_cases hb:Region.binds .any e=true
    · have:=h1 e.on (by
        rw [testBit_maskOf]
        simp only [Bool.and_true,List.contains_eq_mem,decide_eq_true_eq]
        exact List.mem_map.2 ⟨e,List.mem_filter.2 ⟨Array.mem_toList_iff.2 he,hb⟩,rfl⟩)
      rw [h.2] at this
      simp [hb,this]
    · simp at hb; simp [hb]
  · intro h1 k hk
    rw [testBit_maskOf] at hk
    simp only [Bool.and_true,List.contains_eq_mem,decide_eq_true_eq] at hk
    obtain ⟨e,he,rfl⟩:=List.mem_map.1 hk
    obtain ⟨he,hb⟩:=List.mem_filter.1 he
    have:=h1 e (Array.mem_toList_iff.1 he)
    rw [h.2]
    simpa [hb] using this
theorem freeM_eq {ops:Array Oper} {listed:Array Bool} {m i:Nat} (h:Rel ops.size listed m) (hi:i < ops.size):subM (((List.range ops.size).map (confOf ops)).getD i 0) m=Region.free .any ops listed i:=by
  rw [tab_getD _ hi]
  unfold confOf Region.free
  have ho:ops[i]?=some ops[i]:=Array.getElem?_eq_getElem hi
  rw [ho]
  simp only
  rw [Bool.eq_iff_iff,subM_iff,List.all_eq_true]
  constructor
  · intro h1 j hj
    have hj':j < ops.size:=by simpa using hj
    have hoj:ops[j]?=some ops[j]:=Array.getElem?_eq_getElem hj'
    have h2:=h1 j
    rw [testBit_maskOf,← h.lt hj',hoj] at h2
    rw [hoj]
    simp only at h2 ⊢
    have hc:(List.range ops.size).contains j=true:=by simp [hj']
    rw [hc,Bool.true_and] at h2
    generalize (j == i)=b1 at *
    generalize (ops[j].after.any fun e=>Region.binds .any e && e.on == i)=b2 at *
    generalize (ops[i].apart ops ops[j])=b3 at *
    generalize listed.getD j true=b4 at *
    revert h2; cases b1 <;> cases b2 <;> cases b3 <;> cases b4 <;> simp
  · intro h1 k hk
    rw [testBit_maskOf] at hk
    simp only [Bool.and_eq_true,List.contains_eq_mem,decide_eq_true_eq,List.mem_range] at hk
    obtain ⟨hk',hk⟩:=hk
    have hok:ops[k]?=some ops[k]:=Array.getElem?_eq_getElem hk'
    have h2:=h1 k (by simpa using hk')
    rw [hok] at hk h2
    rw [← h.lt hk']
    simp only at hk h2
    generalize (k == i)=b1 at *
    generalize (ops[k].after.any fun e=>Region.binds .any e && e.on == i)=b2 at *
    generalize (ops[i].apart ops ops[k])=b3 at *
    generalize listed.getD k true=b4 at *
    revert hk h2; cases b1 <;> cases b2 <;> cases b3 <;> cases b4 <;> simp
def waitM (ops:Array Oper) (X:List Nat) (m i:Nat):Bool:=match waitOf ops X i with | some t=>Nat.beq (Nat.land t m) 0 | none=>false
theorem mem_deps {md:Region.Mode} {ops:Array Oper} {i k:Nat} (h:k∈depsOf md ops i):k < ops.size:=by
  unfold depsOf at h
  have key:∀ (l T:List Nat),(∀ x∈T,x < ops.size)→∀ x∈l.foldl (fun T k=>match ops[k]? with | some o=>if bindsOn md o (fun m=>m == i || T.contains m) then k::T else T | none=>T) T,x < ops.size:=by
    intro l
    induction l with
    | nil=>intro T hT x hx; exact hT x hx
    | cons a r ih=>
      intro T hT x hx
      rw [List.foldl_cons] at hx
      refine ih _ ?_ x hx
      intro y hy
      cases ha:ops[a]? with
      | none=>rw [ha] at hy; exact hT y hy
      | some o=>
        rw [ha] at hy
        simp only at hy
        split at hy
        · rcases List.mem_cons.1 hy with rfl | hy
          · exact (Array.getElem?_eq_some_iff.1 ha).1
          · exact hT y hy
        · exact hT y hy
  exact key _ _ (fun x hx=>by cases hx) k h
theorem waitM_eq {ops:Array Oper} {listed:Array Bool} {m i:Nat} {X:List Nat} (h:Rel ops.size listed m):waitM ops X m i=waits .any ops listed X i:=by
  rw [waits_eq]
  unfold waitM waitOf
  simp only
  have hT:=fun k=>@mem_deps .any ops i k
  generalize depsOf .any ops i=T at hT
  generalize X.all T.contains=b0
  cases b0
  · simp
  simp only [Bool.true_and]
  generalize bnd ops i T=g
  by_cases hs:T.all g=true
  · rw [if_pos hs]
    simp only
    rw [Bool.eq_iff_iff,Nat.beq_eq,List.all_eq_true]
    rw [List.all_eq_true] at hs
    show (maskOf (fun _=>true) T &&& m=0)↔_
    constructor
    · intro h0 k hk
      have:(maskOf (fun _=>true) T &&& m).testBit k=false:=by rw [h0]; simp
      rw [Nat.testBit_and,testBit_maskOf,← h.lt (hT k hk)] at this
      rw [hs k hk,Bool.and_true]
      simpa [hk] using this
    · intro h1
      apply Nat.eq_of_testBit_eq
      intro k
      rw [Nat.testBit_and,testBit_maskOf,Nat.zero_testBit]
      by_cases hk:k∈T
      · have:=h1 k hk
        rw [h.lt (hT k hk)] at this
        simp only [Bool.and_eq_true,Bool.not_eq_true'] at this
        rw [this.1]; simp
      · simp [hk]
  · rw [if_neg hs]
    simp only
    symm
    rw [Bool.eq_false_iff]
    intro h1
    refine hs ?_
    rw [List.all_eq_true] at h1 ⊢
    intro k hk
    have:=h1 k hk
    simp only [Bool.and_eq_true] at this
    exact this.2
theorem allOf_congr {g g':Nat→Option RQ}:∀ {l:List Nat},(∀ i∈l,g i=g' i)→allOf g l=allOf g' l
  | [],_=>rfl
  | i::r,h=>by
    unfold allOf
    rw [h i List.mem_cons_self,allOf_congr (fun j hj=>h j (List.mem_cons_of_mem _ hj))]
theorem find_congr {p q:Nat→Bool}:∀ {l:List Nat},(∀ i∈l,p i=q i)→l.find? p=l.find? q
  | [],_=>rfl
  | i::r,h=>by
    rw [List.find?_cons,List.find?_cons,h i List.mem_cons_self,find_congr (fun j hj=>h j (List.mem_cons_of_mem _ hj))]
abbrev Tab:=List (Nat × Nat × Nat)
def tabM (ops:Array Oper):Tab:=(List.range ops.size).map fun i=>(i,needOf ops i,confOf ops i)
def rdy (m:Nat) (x:Nat × Nat × Nat):Bool:=!bitM m x.1 && subM x.2.1 m
theorem find_filter {α:Type} (p q:α→Bool):∀ l:List α,(l.filter p).find? q=l.find? fun x=>p x && q x
  | []=>rfl
  | a::r=>by
    rw [List.filter_cons,List.find?_cons]
    by_cases h:p a=true
    · rw [if_pos h,List.find?_cons,h,Bool.true_and,find_filter p q r]
    · have h':p a=false:=by simpa using h
      rw [if_neg h,h',Bool.false_and,find_filter p q r]
theorem find_map {α β:Type} (g:α→β) (p:β→Bool):∀ l:List α,(l.map g).find? p=(l.find? fun x=>p (g x)).map g
  | []=>rfl
  | a::r=>by
    rw [List.map_cons,List.find?_cons,List.find?_cons]
    cases p (g a)
    · exact find_map g p r
    · rfl
theorem filter_map {α β:Type} (g:α→β) (p:β→Bool):∀ l:List α,(l.map g).filter p=(l.filter fun x=>p (g x)).map g
  | []=>rfl
  | a::r=>by
    rw [List.map_cons,List.filter_cons,List.filter_cons]
    by_cases h:p (g a)=true
    · rw [if_pos h,if_pos h,List.map_cons,filter_map g p r]
    · rw [if_neg h,if_neg h,filter_map g p r]
theorem tab_filter {ops:Array Oper} {listed:Array Bool} {m:Nat} (h:Rel ops.size listed m):(tabM ops).filter (rdy m)=(Region.ready .any ops listed).map fun i=>(i,needOf ops i,confOf ops i):=by
  rw [← readyM_eq h]
  unfold tabM readyM rdy
  rw [filter_map]
  congr 1
  refine List.filter_congr fun i hi=>?_
  rw [tab_getD _ (by simpa using hi)]
def exM (P:Program) (D:TypeId→Bool) (ops:Array Oper) (okL:Nat→Bool) (X:List Nat) (tab:Tab):Nat→Nat→Bool→St→Option RQ
  | 0,m,_,st=>if (tab.filter (rdy m)).isEmpty then some (.leaf st,[]) else none
  | f+1,m,fr,st=>
    match tab.find? (fun x=>rdy m x && (canTake P ops okL st x.1 && !X.contains x.1 && subM x.2.2 m)) with
    | some x=>gst P D ops okL (fun j=>!okL j) true false true st x.1 (exM P D ops okL X tab f (Nat.lor m (2 ^ x.1)) fr)
    | none=>
      let rs:=tab.filter (rdy m)
      if rs.isEmpty then some (.leaf st,[]) else
      match rs.find? (fun x=>fr && canLd P D ops st x.1 && !X.contains x.1 && subM x.2.2 m && (X.isEmpty || waitM ops X m x.1)) with
      | some x=>gst P D ops okL (fun j=>!okL j) true true true st x.1 (exM P D ops okL X tab f (Nat.lor m (2 ^ x.1)) fr)
      | none=>
        match allOf (fun i=>gst P D ops okL (fun j=>!okL j) false false (!X.contains i) st i (exM P D ops okL X tab f (Nat.lor m (2 ^ i)) (fr && stays ops X i))) (rs.map (·.1)) with
        | some (x::xs)=>some (joinQ xs.length x xs)
        | _=>none
theorem exM_eq {P:Program} {D:TypeId→Bool} {ops:Array Oper} {okL:Nat→Bool} {X:List Nat}:∀ (f m:Nat) (listed:Array Bool) (fr:Bool),Rel ops.size listed m→∀ st:St,
    exM P D ops okL X (tabM ops) f m fr st=exT P D ops okL X f listed fr st
  | 0,m,listed,fr,h,st=>by
    unfold exM exT
    rw [tab_filter h,List.isEmpty_map]
  | f+1,m,listed,fr,h,st=>by
    have hlt:∀ i∈Region.ready .any ops listed,i < ops.size:=fun i hi=>by
      unfold Region.ready at hi
      simpa using (List.mem_filter.1 hi).1
    have hk:∀ i∈Region.ready .any ops listed,∀ fr',exM P D ops okL X (tabM ops) f (Nat.lor m (2 ^ i)) fr'=exT P D ops okL X f (listed.setIfInBounds i true) fr':=
      fun i hi fr'=>funext fun st'=>exM_eq f _ _ fr' (h.set (hlt i hi)) st'
    have hc:∀ i∈Region.ready .any ops listed,subM (confOf ops i) m=Region.free .any ops listed i:=fun i hi=>by rw [← freeM_eq h (hlt i hi),tab_getD _ (hlt i hi)]
    have e1:(tabM ops).find? (fun x=>rdy m x && (canTake P ops okL st x.1 && !X.contains x.1 && subM x.2.2 m))=((Region.ready .any ops listed).find? (fun i=>Region.free .any ops listed i && !X.contains i && canTake P ops okL st i)).map fun i=>(i,needOf ops i,confOf ops i):=by
      rw [← find_filter,tab_filter h,find_map]
      congr 1
      refine find_congr fun i hi=>?_
      rw [hc i hi]
      generalize Region.free .any ops listed i=b1
      generalize canTake P ops okL st i=b2
      generalize X.contains i=b3
      cases b1 <;> cases b2 <;> cases b3 <;> rfl
    have e2:((tabM ops).filter (rdy m)).find? (fun x=>fr && canLd P D ops st x.1 && !X.contains x.1 && subM x.2.2 m && (X.isEmpty || waitM ops X m x.1))=((Region.ready .any ops listed).find? (fun i=>fr && Region.free .any ops listed i && !X.contains i && canLd P D ops st i && (X.isEmpty || waits .any ops listed X i))).map fun i=>(i,needOf ops i,confOf ops i):=by
      rw [tab_filter h,find_map]
      congr 1
      refine find_congr fun i hi=>?_
      rw [hc i hi,waitM_eq h]
      generalize Region.free .any ops listed i=b1
      generalize canLd P D ops st i=b2
      generalize X.contains i=b3
      cases fr <;> cases b1 <;> cases b2 <;> cases b3 <;> rfl
    have e3:((tabM ops).filter (rdy m)).map (·.1)=Region.ready .any ops listed:=by
      rw [tab_filter h,List.map_map]
      exact List.map_id _
    have e4:((tabM ops).filter (rdy m)).isEmpty=(Region.ready .any ops listed).isEmpty:=by rw [tab_filter h,List.isEmpty_map]
    unfold exM exT
    simp only
    rw [e1,e2,e3,e4]
    cases hf:(Region.ready .any ops listed).find? (fun i=>Region.free .any ops listed i && !X.contains i && canTake P ops okL st i) with
    | some i=>
      have hne:(Region.ready .any ops listed).isEmpty=false:=by
        have:=List.mem_of_find?_eq_some hf
        cases hr:Region.ready .any ops listed with
        | nil=>rw [hr] at this; cases this
        | cons _ _=>rfl
      rw [hne]
      simp only [Option.map_some,Bool.false_eq_true,if_false]
      rw [hk i (List.mem_of_find?_eq_some hf)]
    | none=>
      simp only [Option.map_none]
      split
      · rfl
      cases hg:(Region.ready .any ops listed).find? (fun i=>fr && Region.free .any ops listed i && !X.contains i && canLd P D ops st i && (X.isEmpty || waits .any ops listed X i)) with
      | some i=>simp only [Option.map_some]; rw [hk i (List.mem_of_find?_eq_some hg)]
      | none=>
        simp only [Option.map_none]
        rw [allOf_congr (fun i hi=>by rw [hk i hi])]
def RT.bind (K:St→Option (Tr × List (RT × RT))):RT→Option (Tr × List (RT × RT))
  | .leaf st=>K st
  | .em e k=>(match RT.bind K k with | some (t,q)=>some (.em e t,q) | none=>none)
  | .cond a x y=>(match RT.bind K x,RT.bind K y with | some (t1,q1),some (t2,q2)=>some (.cond a t1 t2,q1++q2) | _,_=>none)
  | .both x y=>(match RT.bind K x,RT.bind K y with | some (t1,q1),some (t2,q2)=>some (.both t1 t2,q1++q2) | _,_=>none)
def RQ.bind (r:Option RQ) (K:St→Option (Tr × List (RT × RT))):Option (Tr × List (RT × RT)):=
  match r with
  | some (r,q)=>(match r.bind K with | some (t,q')=>some (t,q++q') | none=>none)
  | none=>none
def addrOf (ops:Array Oper) (st:St):Nat→Operand→Option Nat
  | 0,_=>none
  | f+1,x=>
    match st.ev x with
    | .v (.s (.p j _))=>some j
    | _=>
      match x with
      | .tmp t=>(match ops.toList.find? (fun o=>o.dst == some t) with
        | some o=>(match o.op with | .fieldAddr _ y _=>addrOf ops st f y | .nilCheck y=>addrOf ops st f y | .indexAddr _ y _=>addrOf ops st f y | _=>none)
        | none=>none)
      | _=>none
def storedIn (ops:Array Oper) (st:St):List Nat:=ops.toList.filterMap fun o=>match o.op with | .store _ x _=>addrOf ops st 5 x | _=>none
def xOps (D:TypeId→Bool) (ops:Array Oper) (st:St):List Nat:=
  (List.range ops.size).filter fun i=>
    match ops[i]? with
    | none=>false
    | some o=>
      (match o.op with
       | .store _ x _=>(addrOf ops st 5 x).isNone
       | .next _ _=>true
       | .call { callee:=.value x,.. }=>(match calleeOf st x with | some f=>wrF D f | none=>false)
       | op=>(wm D op).isSome || (wm2 op).isSome)
def resOf (P:Program) (st:St):ResultVar→Option V1
  | .tmp t=>(match st.tmps.getD t .u with | .v x=>if x.atoms.all A.noPtr then some x else none | _=>none)
  | .cell a t=>
    match st.tmps.getD a .u with
    | .v (.s (.p j off))=>
      (match st.blocks[j]? with
       | some (some b)=>(match partOf P t b.1 off with | some x=>if x.atoms.all A.noPtr then some x else none | none=>none)
       | _=>none)
    | _=>none
def resL (P:Program) (st:St):List ResultVar→Option (List V1)
  | []=>some []
  | x::r=>
    match resOf P st x,resL P st r with
    | some y,some ys=>some (y::ys)
    | _,_=>none
def retT (P:Program) (fn:Func) (st:St):Option (Tr × List (RT × RT)):=
  match resL P st fn.results.toList with
  | some [x]=>some (.ret (.v x),[])
  | some l=>some (.ret (.t l),[])
  | none=>none
def beqV:Value→Value→Bool
  | .bool a,.bool b=>a == b
  | .int k a,.int l b=>k == l && a == b
  | .slice none a b,.slice none c d=>a == c && b == d
  | .string s,.string r=>s.data.toList == r.data.toList
  | .map none,.map none=>true
  | .pointer none,.pointer none=>true
  | .pointer (some ⟨b,o,none⟩),.pointer (some ⟨b',o',none⟩)=>b == b' && o == o'
  | .nilIface,.nilIface=>true
  | .func (.func f) ⟨[]⟩ ⟨[]⟩,.func (.func g) ⟨[]⟩ ⟨[]⟩=>f == g
  | _,_=>false
def beqA:A→A→Bool
  | .c i n,.c j m=>i == j && n == m
  | .k v,.k u=>beqV v u
  | .p i n,.p j m=>i == j && n == m
  | _,_=>false
def mat (n:Nat) (acc:List A):List A→List A→Option (List A)
  | [],[]=>some acc
  | x::xs,y::ys=>
    let same:=if beqA x y then mat n acc xs ys else none
    match x with
    | .c i m=>if i == n then (if m == acc.length && y.noPtr && y.fine then mat n (acc++[y]) xs ys else none) else same
    | _=>same
  | _,_=>none
def matV (n:Nat) (acc:List A):V1→V1→Option (List A)
  | .s a,.s b=>mat n acc [a] [b]
  | .g l,.g l'=>mat n acc l l'
  | _,_=>none
def matVs (n:Nat) (acc:List A):List V1→List V1→Option (List A)
  | [],[]=>some acc
  | x::xs,y::ys=>(match matV n acc x y with | some acc=>matVs n acc xs ys | none=>none)
  | _,_=>none
def matS (n:Nat) (acc:List A):SV→SV→Option (List A)
  | .any,_=>some acc
  | .v x,.v y=>matV n acc x y
  | .t l,.t l'=>matVs n acc l l'
  | .u,.u=>some acc
  | _,_=>none
def matT (n:Nat) (acc:List A):List SV→List SV→Option (List A)
  | [],[]=>some acc
  | x::xs,y::ys=>(match matS n acc x y with | some acc=>matT n acc xs ys | none=>none)
  | _,_=>none
def matB (n:Nat) (acc:List A):Bl→Bl→Option (List A)
  | [],[]=>some acc
  | none::xs,_::ys=>matB n acc xs ys
  | some (l,t)::xs,some (l',t')::ys=>if t == t' then (match mat n acc l l' with | some acc=>matB n acc xs ys | none=>none) else none
  | _,_=>none
def matSt (n:Nat) (hd st:St):Option (List A):=
  match matT n [] hd.tmps st.tmps with
  | some acc=>matB n acc hd.blocks st.blocks
  | none=>none
def dstsOf:Code→List Tmp
  | .region _ ops _=>ops.toList.filterMap (·.dst)
  | .seq a b=>dstsOf a++dstsOf b
  | .cond _ a b=>dstsOf a++dstsOf b
  | .block _ a=>dstsOf a
  | .loop a=>dstsOf a
  | _=>[]
def strsOf (st:St):Code→List Nat
  | .region _ ops _=>storedIn ops st
  | .seq a b=>strsOf st a++strsOf st b
  | .cond _ a b=>strsOf st a++strsOf st b
  | .block _ a=>strsOf st a
  | .loop a=>strsOf st a
  | _=>[]
def hvS (n i:Nat):SV→SV × Nat
  | .v (.s a)=>if a.noPtr then (.v (.s (.c n i)),i+1) else (.any,i)
  | .v (.g l)=>if l.all A.noPtr then (.v (.g ((List.range' i l.length).map (.c n))),i+l.length) else (.any,i)
  | _=>(.any,i)
def ownP (k:Nat):SV→Bool
  | .v (.s (.p j _))=>j == k
  | _=>false
def hvT (fo:Bool) (loc:Nat→Bool) (n:Nat) (T:List Tmp):Nat→Nat→List SV→List SV × Nat
  | _,i,[]=>([],i)
  | k,i,s::r=>
    let (s',i'):=if T.contains k && !(fo && ownP k s) then (if fo && loc k then (.any,i) else hvS n i s) else (s,i)
    let (r',i''):=hvT fo loc n T (k+1) i' r
    (s'::r',i'')
def opnd (t:Tmp):Operand→Bool
  | .tmp u=>u == t
  | _=>false
def opSpeaks (t:Tmp):Op→Bool
  | .move x | .assign x | .box _ x | .load _ x | .nilCheck x | .unOp _ _ x | .convert _ _ x | .fieldAddr _ x _ | .field _ x _ | .extract x _=>opnd t x
  | .range _ x | .next x _ | .entry x=>opnd t x
  | .makeMap _ r=>r.any (opnd t)
  | .makeFunc _ xs ys=>xs.toList.any (opnd t) || ys.toList.any (opnd t)
  | .mapUpdate _ m k x | .insert _ m k x=>opnd t m || opnd t k || opnd t x
  | .lookup _ x i _=>opnd t x || opnd t i
  | .store _ x y | .binOp _ _ x y _ | .indexAddr _ x y | .index _ x y | .makeSlice _ x y=>opnd t x || opnd t y
  | .pick c x y=>opnd t c || opnd t x || opnd t y
  | .build _ ps=>ps.toList.any fun p=>opnd t p.2
  | .buildSlice _ _ ps=>ps.toList.any fun p=>opnd t p.2
  | .slice _ x lo hi mx=>opnd t x || lo.any (opnd t) || hi.any (opnd t) || mx.any (opnd t)
  | .call c=>(match c.callee with | .value f=>opnd t f | .builtin _=>false | .invoke _ _=>true) || c.args.toList.any (opnd t)
  | .alloc _=>false
  | _=>true
def speaks (t:Tmp):Code→Nat
  | .region _ ops _=>if ops.toList.any (fun o=>o.dst == some t || opSpeaks t o.op) then 1 else 0
  | .seq a b=>speaks t a+speaks t b
  | .cond c a b=>(if opnd t c then 2 else 0)+speaks t a+speaks t b
  | .block _ a=>speaks t a
  | .loop a=>speaks t a
  | .skip=>0
  | .exit _=>0
  | .ret=>0
  | _=>2
def localT (fn:Func) (t:Tmp):Bool:=
  match fn.body with
  | some c=>speaks t c == 1 && fn.results.toList.all (fun r=>match r with | .tmp u=>!(u == t) | .cell a _=>!(a == t)) && decide (fn.params.size≤t)
  | none=>false
def hvB (n:Nat) (T:List Nat):Nat→Nat→Bl→Bl
  | _,_,[]=>[]
  | k,i,b::r=>
    match b with
    | some (l,t)=>if T.contains k then some ((List.range' i l.length).map (.c n),t)::hvB n T (k+1) (i+l.length) r else some (l,t)::hvB n T (k+1) i r
    | none=>none::hvB n T (k+1) i r
def havoc (fn:Func) (st:St) (c:Code):St:=
  let (ts,i):=hvT st.fo (localT fn) st.nv (dstsOf c) 0 0 st.tmps
  { tmps:=ts,blocks:=hvB st.nv (strsOf st c) 0 i st.blocks,nv:=st.nv+1,fo:=st.fo }
def unrL (P:Program):List Oper→St→Bool
  | [],_=>false
  | o::r,st=>
    match rd0 P (fun _=>true) st o.op with
    | some s=>
      (match o.op,s with
       | .binOp _ _ _ _ _,.v (.s (.k (.bool _)))=>true
       | _,_=>unrL P r (st.put o.dst s))
    | none=>false
def unr (P:Program) (st:St):Code→Bool
  | .seq a _=>unr P st a
  | .block _ a=>unr P st a
  | .region _ ops _=>unrL P ops.toList st
  | _=>false
def affOf (ops:Array Oper) (st:St):Nat→Operand→Option (Nat × Nat × Int)
  | 0,_=>none
  | f+1,x=>
    match x with
    | .tmp t=>
      (match ops.toList.find? (fun o=>o.dst == some t) with
       | some o=>
         (match o.op with
          | .move y=>affOf ops st f y
          | .assign y=>affOf ops st f y
          | .binOp .add _ y (.const (.int _ c)) _=>(affOf ops st f y).map fun (i,k,d)=>(i,k,d+c)
          | .binOp .sub _ y (.const (.int _ c)) _=>(affOf ops st f y).map fun (i,k,d)=>(i,k,d - c)
          | _=>none)
       | none=>(match st.ev x with | .v (.s (.c i k))=>some (i,k,0) | _=>none))
    | _=>none
def swOf (P:Program) (ops:Array Oper) (st:St) (o:Oper):Option (Nat × Nat × List Value):=
  let go (t:TypeId) (i:Operand):=
    match P.underlying t,affOf ops st 8 i with
    | some (.array n _),some (ci,ck,d)=>if n≤8 then some (ci,ck,(List.range n).map fun (j:Nat)=>Value.int .i64 ((j:Int) - d)) else none
    | _,_=>none
  match o.guard,o.op with
  | none,.indexAddr t x i=>if (addrOf ops st 5 x).isSome then go t i else none
  | none,.index t _ i=>go t i
  | _,_=>none
def swAll (P:Program) (ops:Array Oper) (st:St):Option (Nat × Nat × List Value):=if st.fo then ops.toList.findSome? (swOf P ops st) else none
def swRun (a:A) (g:Value→Option (Tr × List (RT × RT))):List Value→Option (Tr × List (RT × RT))
  | []=>some (.nope,[])
  | v::r=>
    match g v with
    | none=>swRun a g r
    | some (t1,q1)=>(match swRun a g r with | some (t2,q2)=>some (.ifeq a v t1 t2,q1++q2) | none=>none)
inductive KI where
  | code (c:Code)
  | blk (id:Nat)
  | back (d:Nat) (hd:St) (m:Nat)
  | again (c:Code) (m:Nat)
def depth:List KI→Nat
  | []=>0
  | .back _ _ _::k=>depth k+1
  | _::k=>depth k
def subK (i j:Nat) (v:Value):List KI→List KI
  | []=>[]
  | .back d hd m::k=>.back d (if i+1 < hd.nv then hd.sub i j v else hd) m::subK i j v k
  | x::k=>x::subK i j v k
def exitK (id:Nat):List KI→Option (List KI)
  | .blk i::k=>if i=id then some k else exitK id k
  | .code _::k=>exitK id k
  | .back _ _ _::k=>exitK id k
  | .again _ _::k=>exitK id k
  | []=>none
def run (P:Program) (D:TypeId→Bool) (fn:Func):Nat→List KI→St→Option (Tr × List (RT × RT))
  | 0,_,_=>none
  | _+1,[],st=>retT P fn st
  | f+1,.blk _::k,st=>run P D fn f k st
  | _+1,.back d hd m::_,st=>(match matSt (hd.nv - 1) hd st with | some vs=>if vs.length=m then some (.back d vs,[]) else none | none=>none)
  | _+1,.again _ 0::_,_=>none
  | f+1,.again a (m+1)::k,st=>if unr P st a then run P D fn f (.code a::.again a m::k) st else none
  | f+1,.code c::k,st=>
    match c with
    | .skip=>run P D fn f k st
    | .seq a b=>run P D fn f (.code a::.code b::k) st
    | .block id a=>run P D fn f (.code a::.blk id::k) st
    | .exit id=>(match exitK id k with | some k'=>run P D fn f k' st | none=>none)
    | .ret=>retT P fn st
    | .loop a=>
      if st.fo && unr P st a then run P D fn f (.code a::.again a 8::k) st else
      let hd:=havoc fn st a
      (match matSt st.nv hd st with
       | some init=>
         if st.sc && hd.sc && decide (hd.nv=st.nv+1) && (List.range st.blocks.length).all (fun j=>!st.blocks.has j || hd.blocks.has j) then
           (match run P D fn f (.code a::.back (depth k) hd init.length::k) hd with | some (t,q)=>some (.loop (depth k) init t,q) | none=>none)
         else none
       | none=>none)
    | .cond c x y=>
      (match st.ev c with
       | .v (.s (.k (.bool b)))=>run P D fn f (.code (if b then x else y)::k) st
       | .v (.s (.c i j))=>
         (match run P D fn f (.code x::subK i j (.bool true) k) (st.sub i j (.bool true)),run P D fn f (.code y::subK i j (.bool false) k) (st.sub i j (.bool false)) with
          | some (t1,q1),some (t2,q2)=>some (.cond (.c i j) t1 t2,q1++q2)
          | _,_=>none)
       | _=>none)
    | .region id ops b=>
      match swAll P ops st with
      | some (i,j,vs)=>swRun (.c i j) (fun v=>run P D fn f (.code (.region id ops b)::subK i j v k) (st.sub i j v)) vs
      | none=>
      match b with
      | false=>RQ.bind (exL P D ops (List.range ops.size) st) (run P D fn f k)
      | true=>
      let T:=storedIn ops st
      let okL:=fun j=>st.blocks.has j && !T.contains j
      if Region.noSelect ops then RQ.bind (exM P D ops okL (xOps D ops st) (tabM ops) ops.size 0 true st) (run P D fn f k) else none
    | _=>none
structure Opt where
  fo:Bool:=false
  pre:List (Nat × Value):=[]
def Opt.at (o:Opt) (i:Nat):Option Value:=(o.pre.find? fun x=>x.1 == i && decide (i < 1000)).map (·.2)
def Opt.caps (o:Opt):List (Option Nat):=(o.pre.filter fun x=>decide (1000≤x.1)).map fun _=>none
def par0 (o:Opt) (i:Nat) (s:Option Nat):SV:=
  match o.at i,s with
  | some v,none=>.v (.s (.k v))
  | _,_=>.v (v1of i 0 s)
def rowQ (P:Program) (D:TypeId→Bool) (f:FuncId) (o:Opt:={}):Option (Tr × List (RT × RT)):=
  match P.funcs[f]? with
  | some fn=>
    (match fn.body,fn.params.toList.mapM (shapeOf P) with
     | some c,some sh0=>
       let sh:=sh0++o.caps
       let ps:=sh.zipIdx.map (fun (s,i)=>par0 o i s)
       let n:=fn.ntmps - ps.length
       run P D fn 300 [.code c] { tmps:=ps++List.replicate n .u,blocks:=List.replicate (ps.length+n) none,nv:=ps.length,fo:=o.fo }
     | _,_=>none)
  | none=>none
def rowOf (P:Program) (D:TypeId→Bool) (f:FuncId) (o:Opt:={}):Option Tr:=(rowQ P D f o).map (·.1)
def eqsOf (P:Program) (D:TypeId→Bool) (f:FuncId) (o:Opt:={}):List (RT × RT):=match rowQ P D f o with | some (_,q)=>q | none=>[]
end Cin
