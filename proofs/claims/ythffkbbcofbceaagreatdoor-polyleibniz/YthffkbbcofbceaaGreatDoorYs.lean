/- Rules for rows: slices of structs. No program. -/
import Derived.Test.YthffkbbcofbceaaGreatDoorYg
import Derived.Great.BuildSlice
import Derived.Maps.AppendAt
import Derived.Laws.CopyOwn
namespace Cin
open Go Go.RowKit
def RowO (B:Nat) (t:TypeId) (n:Nat) (w:World) (v:Value) (xs:List (List Value)):Prop:=(∀ x∈xs,x.length=n)∧w.ownsRow B t n v xs.length xs.flatten
section
variable {D Z:TypeId→Bool} {B n:Nat} {t:TypeId} {u w:World} {v:Value} {xs:List (List Value)}
theorem RowO.weak {B':Nat} (h:RowO B t n w v xs) (hB:B'≤B):RowO B' t n w v xs:=by
  refine ⟨h.1,h.2.1,?_⟩
  rcases h.2.2 with h' | ⟨g,cap,cur,e,hb,r⟩
  · exact .inl h'
  · exact .inr ⟨g,cap,cur,e,by omega,r⟩
theorem RowO.ext (h:RowO B t n u v xs) (e:Ext D u w) (ht:D t=true):RowO B t n w v xs:=by
  refine ⟨h.1,h.2.1,?_⟩
  rcases h.2.2 with h' | ⟨g,cap,cur,e1,hb,hg,r⟩
  · exact .inl h'
  · exact .inr ⟨g,cap,cur,e1,hb,e.block g _ _ _ hg ht,r⟩
theorem RowO.below {w':World} (h:RowO B t n w v xs) (hb:Below w.heap.size w w'):RowO B t n w' v xs:=h.ext (D:=fun _=>true) (Ext.of_below hb) rfl
theorem RowO.pl (h:RowO B t n w v xs):[v].all Value.oneCell'=true:=by
  rcases h.2.2 with ⟨rfl,_⟩ | ⟨g,cap,cur,rfl,_⟩ <;> rfl
theorem RowO.shape (h:RowO B t n w v xs) (hx:xs≠[]):∃ g cap,v=.slice (some ⟨g,0,none⟩) xs.length cap:=by
  rcases h.2.2 with ⟨_,h0⟩ | ⟨g,cap,cur,rfl,_⟩
  · exact absurd (List.eq_nil_of_length_eq_zero h0) hx
  · exact ⟨g,cap,rfl⟩
theorem flat_at:∀ {xs:List (List Value)} {i j:Nat} {x:List Value} {y:Value},(∀ x∈xs,x.length=n)→xs[i]?=some x→x[j]?=some y→xs.flatten[i * n+j]?=some y
  | [],i,_,_,_,_,h,_=>by cases i <;> simp at h
  | a::r,0,j,x,y,hl,h,hy=>by
    simp only [List.getElem?_cons_zero,Option.some.injEq] at h
    subst h
    have:=(List.getElem?_eq_some_iff.1 hy).1
    rw [List.flatten_cons,Nat.zero_mul,Nat.zero_add,List.getElem?_append_left this]; exact hy
  | a::r,i+1,j,x,y,hl,h,hy=>by
    have ha:=hl a List.mem_cons_self
    rw [List.flatten_cons,List.getElem?_append_right (by rw [ha,Nat.succ_mul]; omega),ha,show (i+1) * n+j - n=i * n+j by rw [Nat.succ_mul]; omega]
    exact flat_at (fun x hx=>hl x (List.mem_cons_of_mem _ hx)) (by simpa using h) hy
theorem RowO.at {g cap len i:Nat} {x:List Value} (h:RowO B t n w (.slice (some ⟨g,0,none⟩) len cap) xs) (hx:xs[i]?=some x):w.rangeAt g (i * n) x:=by
  intro j y hy
  have hf:=flat_at h.1 hx hy
  rcases h.2.2 with ⟨h0,_⟩ | ⟨g',cap',cur,e,hb,hg,h1,h2,h3,h4⟩
  · cases h0
  · injection e with e1 e2 e3
    injection e1 with e1
    injection e1 with e1
    subst e1
    have:cur[i * n+j]?=some y:=by
      rw [← Array.getElem?_toList]
      rw [← h4] at hf
      rw [List.getElem?_take] at hf
      split at hf
      · exact hf
      · cases hf
    simp [World.cell?,hg,this]
theorem RowO.len {g cap len:Nat} (h:RowO B t n w (.slice (some ⟨g,0,none⟩) len cap) xs):len=xs.length:=by
  rcases h.2.2 with ⟨h0,_⟩ | ⟨g',cap',cur,e,_⟩
  · cases h0
  · injection e
end
section prims
variable {P:Program} {T e ty:TypeId} {vs:List Value} {p q:Operand} {κ:IntKind} {i:Int}
end prims
section rules
variable {P:Program} {w0:World} {D Z:TypeId→Bool} {Post:Ending→World→Prop} {F:World→Prop} {E:Env} {k:Tr} {L:LC}
def VarV (B:Nat) (t:TypeId) (w:World) (g:Nat) (cs:List Value):Prop:=B≤g∧w.heap[g]?=some (.cells cs.toArray t (0,0))
theorem VarV.range {B g:Nat} {t:TypeId} {w:World} {cs:List Value} (h:VarV B t w g cs):w.rangeAt g 0 cs:=by
  intro j v hj
  simp [World.cell?,h.2,hj]
theorem flat_len {n:Nat}:∀ {xs:List (List Value)},(∀ x∈xs,x.length=n)→xs.flatten.length=xs.length * n
  | [],_=>by simp
  | a::r,h=>by rw [List.flatten_cons,List.length_append,h a List.mem_cons_self,flat_len (fun x hx=>h x (List.mem_cons_of_mem _ hx)),List.length_cons,Nat.succ_mul]; omega
end rules
end Cin

namespace Cin
open Go Go.RowKit
def Keeps (t:TypeId) (g:Nat) (G:World→Prop):Prop:=∀ (w:World) (cs cs':List Value),w.heap[g]?=some (.cells cs.toArray t (0,0))→G w→G (w.setRow g cs'.toArray)
section keeps
variable {Z:TypeId→Bool} {t t':TypeId} {g g' B n len cap:Nat} {G H:World→Prop} {xs:List (List Value)} {ds:List Value}
theorem Keeps.and (h:Keeps t g G) (h':Keeps t g H):Keeps t g fun w=>G w∧H w:=fun w cs cs' hv ⟨a,b⟩=>⟨h w cs cs' hv a,h' w cs cs' hv b⟩
theorem Keeps.mono (hG:Mono Z G) (hZ:Z t=false):Keeps t g G:=fun w cs cs' hv hg=>hG w _ ⟨by simp,fun b c tt f hb ht=>by
  by_cases hne:b=g
  · subst hne
    rw [hv] at hb
    injection hb with hb
    injection hb with _ h2 _
    subst h2
    rw [hZ] at ht; cases ht
  · rw [setRow_other w g b _ hne]; exact hb⟩ hg
theorem Keeps.var (h:g'≠g):Keeps t g fun w=>VarV B t' w g' ds:=fun w _ cs' _ ⟨h1,h2⟩=>⟨h1,by rw [setRow_other w g g' _ h]; exact h2⟩
theorem Keeps.row (h:g'≠g):Keeps t g fun w=>RowO B t' n w (.slice (some ⟨g',0,none⟩) len cap) xs:=fun w _ cs' _ ⟨h1,h2,h3⟩=>by
  refine ⟨h1,h2,?_⟩
  rcases h3 with ⟨h0,_⟩ | ⟨k,cp,cur,e,hb,hg,r⟩
  · cases h0
  · have hk:k=g':=by
      injection e with e1 _ _
      injection e1 with e1
      injection e1 with e1
      exact e1.symm
    subst hk
    exact .inr ⟨k,cp,cur,e,hb,by rw [setRow_other w g k _ h]; exact hg,r⟩
theorem RowO.lt {w:World} (h:RowO B t n w (.slice (some ⟨g,0,none⟩) len cap) xs):g < w.heap.size:=by
  rcases h.2.2 with ⟨h0,_⟩ | ⟨k,cp,cur,e,hb,hg,r⟩
  · cases h0
  · have hk:k=g:=by
      injection e with e1 _ _
      injection e1 with e1
      injection e1 with e1
      exact e1.symm
    subst hk
    exact lt_of_heap hg
theorem VarV.lt {w:World} (h:VarV B t w g ds):g < w.heap.size:=lt_of_heap h.2
end keeps
section rules
variable {P:Program} {w0:World} {D Z:TypeId→Bool} {Post:Ending→World→Prop} {F:World→Prop} {E:Env} {k:Tr} {L:LC}
end rules
end Cin

namespace Cin
open Go Go.RowKit
def RowR (n:Nat) (w:World) (v:Value) (xs:List (List Value)):Prop:=
  (∀ x∈xs,x.length=n)∧((∃ ad cap,v=.slice ad 0 cap∧(ad=none→cap=0)∧xs=[])∨∃ b o cap,v=.slice (some ⟨b,o,none⟩) xs.length cap∧b < w.heap.size∧(xs.length≤cap∧cap≤maxLen)∧∀ i x,xs[i]?=some x→w.rangeAt b (o+i * n) x)
section
variable {n:Nat} {w w':World} {v:Value} {xs:List (List Value)}
theorem RowR.below (h:RowR n w v xs) (hb:Below w.heap.size w w'):RowR n w' v xs:=by
  refine ⟨h.1,?_⟩
  rcases h.2 with h' | ⟨b,o,cap,e,hs,hm,hr⟩
  · exact .inl h'
  · exact .inr ⟨b,o,cap,e,Nat.lt_of_lt_of_le hs hb.size,hm,fun i x hx j y hy=>by
      rw [hb.cell (p:=⟨b,o+i * n+j,none⟩) hs]; exact hr i x hx j y hy⟩
theorem RowR.nil (ad:Option Addr) (cap:Nat) (hc:ad=none→cap=0):RowR n w (.slice ad 0 cap) []:=⟨fun _ h=>(by cases h),.inl ⟨ad,cap,rfl,hc,rfl⟩⟩
theorem RowR.shape (h:RowR n w v xs):∃ ad cap,v=.slice ad xs.length cap∧xs.length≤maxLen∧(xs≠[]→∃ b o,ad=some ⟨b,o,none⟩∧∀ i x,xs[i]?=some x→w.rangeAt b (o+i * n) x):=by
  rcases h.2 with ⟨ad,cap,e,_,h0⟩ | ⟨b,o,cap,e,hs,hm,hr⟩
  · subst h0; exact ⟨ad,cap,e,Nat.zero_le _,fun h=>absurd rfl h⟩
  · exact ⟨_,cap,e,Nat.le_trans hm.1 hm.2,fun _=>⟨b,o,rfl,hr⟩⟩
theorem RowR.len {ad:Option Addr} {len cap:Nat} (h:RowR n w (.slice ad len cap) xs):len=xs.length:=by
  obtain ⟨_,_,e,_⟩:=h.shape
  injection e
theorem RowR.at {b o len cap i:Nat} {x:List Value} (h:RowR n w (.slice (some ⟨b,o,none⟩) len cap) xs) (hx:xs[i]?=some x):w.rangeAt b (o+i * n) x:=by
  obtain ⟨ad,c,e,_,hr⟩:=h.shape
  obtain ⟨b',o',e2,hr⟩:=hr (fun e0=>by rw [e0] at hx; simp at hx)
  injection e with e1 _ _
  rw [e2] at e1
  injection e1 with e1
  injection e1 with e3 e4
  subst e3 e4
  exact hr i x hx
end
section prims
variable {P:Program} {T e ty:TypeId} {vs:List Value} {p q:Operand} {κ:IntKind} {i:Int}
theorem prIdxR {b o len cap n:Nat} {ie:TypeInfo} (hu:P.underlying T=some (.slice e)) (hi:P.info? e=some ie) (hn:ie.size=n) (hp:pe vs p=.slice (some ⟨b,o,none⟩) len cap) (hq:pe vs q=.int κ i) (h0:0≤i) (h1:i < len) :
    PrimOk P (.indexAddr T p q) ty vs (.pointer (some ⟨b,o+i.toNat * n,none⟩)):=fun w=>by
  simp only [execOp,hp,hq]
  simp [Instr.indexAt,asIntOf,run_underlying hu,h0,h1,Go.sizeOf,typeInfo,hi,hn,Addr.add_mid]
end prims
end Cin

namespace Cin
open Go Go.RowKit
structure Lm where
  b0:Nat
  o:Option (Nat→Prop)
  S:Nat→Prop
def Kept (nu sl:List TypeId) (lim:Lm) (u w:World):Prop:=
  u.heap.size≤w.heap.size∧∀ b o,u.heap[b]?=some o→((∃ c t f,o=Obj.cells c t f∧(nu.contains t=true∨(lim.o=none∧lim.S b∧sl.contains t=true)))∨b < lim.b0∨(∃ B,lim.o=some B∧B b)∨(NotCells o∧lim.o=none∧lim.S b))→w.heap[b]?=some o
def Sub (l l':List TypeId):Prop:=∀ t,l.contains t=true→l'.contains t=true
theorem Kept.sub {nu sl nu' sl':List TypeId} {lim:Lm} {u w:World} (h:Kept nu sl lim u w) (h1:Sub nu' nu) (h2:Sub sl' sl):Kept nu' sl' lim u w:=
  ⟨h.1,fun b o hb hc=>h.2 b o hb (hc.imp (fun ⟨c,t,f,e,k⟩=>⟨c,t,f,e,k.imp (h1 t) (fun ⟨a,s,b⟩=>⟨a,s,h2 t b⟩)⟩) id)⟩
def Within (w:World) (X:Nat→Prop):Nat→Prop:=fun b=>b < w.heap.size∧¬ X b
structure Avoids (nu sl:List TypeId) (b0:Nat) (S X:Nat→Prop) (w:World):Prop where
  cells:∀ b c t f,X b→w.heap[b]?=some (Obj.cells c t f)→nu.contains t=false∧sl.contains t=false
  obj:∀ b o,X b→w.heap[b]?=some o→NotCells o→¬ S b
  low:∀ b,X b→b0≤b
theorem Avoids.none {nu sl:List TypeId} {b0:Nat} {S:Nat→Prop} {w:World}:Avoids nu sl b0 S (fun _=>False) w:=⟨fun _ _ _ _ h=>h.elim,fun _ _ h=>h.elim,fun _ h=>h.elim⟩
theorem Avoids.sub {nu sl nu' sl':List TypeId} {b0:Nat} {S X:Nat→Prop} {w:World} (h:Avoids nu sl b0 S X w) (h1:Sub nu' nu) (h2:Sub sl' sl):Avoids nu' sl' b0 S X w:=
  ⟨fun b c t f hx hb=>⟨by
    cases e:nu'.contains t with
    | false=>rfl
    | true=>rw [← (h.cells b c t f hx hb).1,h1 t e],by
    cases e:sl'.contains t with
    | false=>rfl
    | true=>rw [← (h.cells b c t f hx hb).2,h2 t e]⟩,h.obj,h.low⟩
structure Pd where
  n:Nat
  nu:List TypeId
  sl:List TypeId
  kv:Option Value
  R:Lm→World→List Value→Prop
  len:∀ {l w cs},R l w cs→cs.length=n
  one:∀ {l w cs},R l w cs→cs.all Value.oneCell'=true
  mono:∀ {b0 o S S' u w cs},(∀ b,S b→S' b)→Kept nu sl ⟨b0,o,S⟩ u w→R ⟨b0,o,S⟩ u cs→R ⟨b0,o,S'⟩ w cs
  lim:∀ {b0 B S w cs},R ⟨b0,some B,S⟩ w cs→R ⟨b0,none,S⟩ w cs
  up:∀ {b0 B B' S w cs},(∀ b,B b→B' b)→R ⟨b0,some B,S⟩ w cs→R ⟨b0,some B',S⟩ w cs
  all:∀ {b0 S w cs X},Avoids nu sl b0 S X w→R ⟨b0,none,S⟩ w cs→R ⟨b0,some (Within w X),S⟩ w cs
  kv_ok:∀ {v l w cs},kv=some v→R l w cs→cs=[v]
def pV (v:Value):Pd where
  n:=1
  nu:=[]
  sl:=[]
  kv:=some v
  R _ _ cs:=cs=[v]∧v.oneCell'=true
  len h:=by rw [h.1]; rfl
  one h:=by rw [h.1]; simp [h.2]
  mono _ _ h:=h
  lim h:=h
  up _ h:=h
  all _ h:=h
  kv_ok e h:=by cases e; exact h.1
def pdOf (U:TypeId) (n:Nat) (R:World→List Value→Prop) (hl:∀ w cs,R w cs→cs.length=n) (ho:∀ w cs,R w cs→cs.all Value.oneCell'=true) (hm:∀ u w cs,Ext (fun t=>t == U) u w→R u cs→R w cs):Pd where
  n:=n
  nu:=[U]
  sl:=[]
  kv:=none
  R _ w cs:=R w cs
  len h:=hl _ _ h
  one h:=ho _ _ h
  mono _ hk h:=hm _ _ _ ⟨hk.1,fun b c t f hb ht=>hk.2 b _ hb (.inl ⟨c,t,f,rfl,.inl (by simpa using ht)⟩)⟩ h
  lim h:=h
  up _ h:=h
  all _ h:=h
  kv_ok e:=by cases e
def RL (l:Lm) (w:World):List Pd→List Value→Prop
  | [],cs=>cs=[]
  | p::ps,cs=>∃ c1 c2,cs=c1++c2∧p.R l w c1∧RL l w ps c2
def szL:List Pd→Nat
  | []=>0
  | p::ps=>p.n+szL ps
section RL
variable {l:Lm} {b0:Nat} {u w:World}
theorem RL.len:∀ {ps:List Pd} {cs:List Value},RL l w ps cs→cs.length=szL ps
  | [],_,h=>by rw [h]; rfl
  | p::_,_,⟨c1,c2,e,h1,h2⟩=>by rw [e,List.length_append,p.len h1,h2.len]; rfl
theorem RL.one:∀ {ps:List Pd} {cs:List Value},RL l w ps cs→cs.all Value.oneCell'=true
  | [],_,h=>by rw [h]; rfl
  | p::_,_,⟨c1,c2,e,h1,h2⟩=>by rw [e,List.all_append,p.one h1,h2.one]; rfl
theorem RL.mono {o:Option (Nat→Prop)} {S S':Nat→Prop} {nu sl:List TypeId} (hS:∀ b,S b→S' b) (hk:Kept nu sl ⟨b0,o,S⟩ u w):∀ {ps:List Pd} {cs:List Value},(∀ p∈ps,Sub p.nu nu∧Sub p.sl sl)→RL ⟨b0,o,S⟩ u ps cs→RL ⟨b0,o,S'⟩ w ps cs
  | [],_,_,h=>h
  | p::_,_,hs,⟨c1,c2,e,h1,h2⟩=>⟨c1,c2,e,p.mono hS (hk.sub (hs p List.mem_cons_self).1 (hs p List.mem_cons_self).2) h1,RL.mono hS hk (fun q hq=>hs q (List.mem_cons_of_mem _ hq)) h2⟩
theorem RL.lim {B:Nat→Prop} {S:Nat→Prop}:∀ {ps:List Pd} {cs:List Value},RL ⟨b0,some B,S⟩ w ps cs→RL ⟨b0,none,S⟩ w ps cs
  | [],_,h=>h
  | p::_,_,⟨c1,c2,e,h1,h2⟩=>⟨c1,c2,e,p.lim h1,h2.lim⟩
theorem RL.up {B B':Nat→Prop} {S:Nat→Prop} (hB:∀ b,B b→B' b):∀ {ps:List Pd} {cs:List Value},RL ⟨b0,some B,S⟩ w ps cs→RL ⟨b0,some B',S⟩ w ps cs
  | [],_,h=>h
  | p::_,_,⟨c1,c2,e,h1,h2⟩=>⟨c1,c2,e,p.up hB h1,h2.up hB⟩
theorem RL.all' {S X:Nat→Prop} {nu sl:List TypeId} (ha:Avoids nu sl b0 S X w):∀ {ps:List Pd} {cs:List Value},(∀ p∈ps,Sub p.nu nu∧Sub p.sl sl)→RL ⟨b0,none,S⟩ w ps cs→RL ⟨b0,some (Within w X),S⟩ w ps cs
  | [],_,_,h=>h
  | p::_,_,hs,⟨c1,c2,e,h1,h2⟩=>⟨c1,c2,e,p.all (ha.sub (hs p List.mem_cons_self).1 (hs p List.mem_cons_self).2) h1,RL.all' ha (fun q hq=>hs q (List.mem_cons_of_mem _ hq)) h2⟩
theorem RL.split:∀ {ps qs:List Pd} {cs:List Value},RL l w (ps++qs) cs→∃ c1 c2,cs=c1++c2∧RL l w ps c1∧RL l w qs c2
  | [],_,cs,h=>⟨[],cs,rfl,rfl,h⟩
  | p::_,qs,_,⟨c1,c2,e,h1,h2⟩=>by
    obtain ⟨d1,d2,e2,h3,h4⟩:=RL.split h2
    exact ⟨c1++d1,d2,by rw [e,e2,List.append_assoc],⟨c1,d1,rfl,h1,h3⟩,h4⟩
theorem RL.app:∀ {ps qs:List Pd} {c1 c2:List Value},RL l w ps c1→RL l w qs c2→RL l w (ps++qs) (c1++c2)
  | [],_,_,_,h1,h2=>by rw [h1]; exact h2
  | p::ps,qs,_,c2,⟨d1,d2,e,h1,h3⟩,h2=>⟨d1,d2++c2,by rw [e,List.append_assoc],h1,h3.app h2⟩
end RL
structure Rty where
  t:TypeId
  n:Nat
  nu:List TypeId
  sl:List TypeId
def Rty.Fit (r:Rty) (row:List Pd):Prop:=∀ p∈row,Sub p.nu r.nu∧Sub p.sl r.sl
def RowsAt (r:Rty) (l:Lm) (w:World) (c:Array Value) (o:Nat) (rows:List (List Pd)):Prop:=
  ∀ i row,rows[i]?=some row→∃ x:List Value,x.length=r.n∧RL l w row x∧∀ (j:Nat) (y:Value),x[j]?=some y→c[o+i * r.n+j]?=some y
theorem RowsAt.imp {r:Rty} {l l':Lm} {w w':World} {c:Array Value} {o:Nat} {rows:List (List Pd)} (h:RowsAt r l w c o rows) (hi:∀ row∈rows,∀ x,RL l w row x→RL l' w' row x):RowsAt r l' w' c o rows:=
  fun i row hr=>let ⟨x,h1,h2,h3⟩:=h i row hr; ⟨x,h1,hi row (List.mem_of_getElem? hr) x h2,h3⟩
theorem kept_of {r:Rty} {l:Lm} {b:Nat} {c:Array Value} {t:TypeId} {f:Nat × Nat} (hl:(b < l.b0∨(t=r.t∧l.S b))∧∀ B,l.o=some B→B b) :
    (∃ c' t' f',Obj.cells c t f=Obj.cells c' t' f'∧(r.nu.contains t'=true∨(l.o=none∧l.S b∧(r.t::r.sl).contains t'=true)))∨b < l.b0∨(∃ B,l.o=some B∧B b)∨(NotCells (Obj.cells c t f)∧l.o=none∧l.S b):=by
  cases ho:l.o with
  | some B=>exact .inr (.inr (.inl ⟨B,rfl,hl.2 B ho⟩))
  | none=>
    rcases hl.1 with h | h
    · exact .inr (.inl h)
    · exact .inl ⟨c,t,f,rfl,.inr ⟨rfl,h.2,by simp [h.1]⟩⟩
theorem not_in {r:Rty} {b0 b:Nat} {S X:Nat→Prop} {w:World} {c:Array Value} {t:TypeId} {f:Nat × Nat} (ha:Avoids r.nu (r.t::r.sl) b0 S X w) (hb:w.heap[b]?=some (.cells c t f)) (hl:b < b0∨(t=r.t∧S b)):¬ X b:=fun hx=>by
  rcases hl with hl | ⟨rfl,_⟩
  · have:=ha.low b hx; omega
  · have:=(ha.cells b c _ f hx hb).2
    simp at this
def RowsR (r:Rty) (rows:List (List Pd)) (l:Lm) (w:World) (cs:List Value):Prop:=
  (∀ row∈rows,r.Fit row)∧((∃ ad cap,cs=[.slice ad 0 cap]∧(ad=none→cap=0)∧rows=[]) ∨
    ∃ b o cap c t f,cs=[.slice (some ⟨b,o,none⟩) rows.length cap]∧w.heap[b]?=some (.cells c t f)∧((b < l.b0∨(t=r.t∧l.S b))∧∀ B,l.o=some B→B b)∧(rows.length≤cap∧cap≤maxLen)∧RowsAt r l w c o rows)
def pRows (r:Rty) (rows:List (List Pd)):Pd where
  n:=1
  nu:=r.nu
  sl:=r.t::r.sl
  kv:=none
  R:=RowsR r rows
  kv_ok e:=by cases e
  len h:=by rcases h.2 with ⟨_,_,rfl,_,_⟩ | ⟨_,_,_,_,_,_,rfl,_⟩ <;> rfl
  one h:=by rcases h.2 with ⟨_,_,rfl,_,_⟩ | ⟨_,_,_,_,_,_,rfl,_⟩ <;> rfl
  mono {b0 o S S' u w cs} hS hk h:=by
    refine ⟨h.1,?_⟩
    rcases h.2 with h' | ⟨b,o,cap,c,t,f,e,hb,hl,hm,hr⟩
    · exact .inl h'
    · refine .inr ⟨b,o,cap,c,t,f,e,hk.2 b _ hb ?_,⟨hl.1.imp id (fun h=>⟨h.1,hS b h.2⟩),hl.2⟩,hm,hr.imp fun row hrow x hx=>hx.mono hS hk (fun p hp=>⟨(h.1 row hrow p hp).1,fun t ht=>?_⟩)⟩
      · exact kept_of hl
      · have:=(h.1 row hrow p hp).2 t ht
        simp at this ⊢; exact .inr this
  lim h:=by
    refine ⟨h.1,?_⟩
    rcases h.2 with h' | ⟨b,o,cap,c,t,f,e,hb,hl,hm,hr⟩
    · exact .inl h'
    · exact .inr ⟨b,o,cap,c,t,f,e,hb,⟨hl.1,fun B hB=>(by cases hB)⟩,hm,hr.imp fun row hrow x hx=>hx.lim⟩
  up hB h:=by
    refine ⟨h.1,?_⟩
    rcases h.2 with h' | ⟨b,o,cap,c,t,f,e,hb,hl,hm,hr⟩
    · exact .inl h'
    · exact .inr ⟨b,o,cap,c,t,f,e,hb,⟨hl.1,fun B' hB'=>(by cases hB'; exact hB _ (hl.2 _ rfl))⟩,hm,hr.imp fun row hrow x hx=>hx.up hB⟩
  all ha h:=by
    refine ⟨h.1,?_⟩
    rcases h.2 with h' | ⟨b,o,cap,c,t,f,e,hb,hl,hm,hr⟩
    · exact .inl h'
    · exact .inr ⟨b,o,cap,c,t,f,e,hb,⟨hl.1,fun B' hB'=>(by cases hB'; exact ⟨lt_of_heap hb,not_in ha hb hl.1⟩)⟩,hm,hr.imp fun row hrow x hx=>hx.all' ha (fun p hp=>⟨(h.1 row hrow p hp).1,fun t ht=>by
        have:=(h.1 row hrow p hp).2 t ht
        simp at this ⊢; exact .inr this⟩)⟩
def ElemR (r:Rty) (row:List Pd) (l:Lm) (w:World) (cs:List Value):Prop:=
  r.Fit row∧∃ b o c t f,cs=[.pointer (some ⟨b,o,none⟩)]∧w.heap[b]?=some (.cells c t f)∧((b < l.b0∨(t=r.t∧l.S b))∧∀ B,l.o=some B→B b)∧∃ x:List Value,RL l w row x∧∀ (j:Nat) (y:Value),x[j]?=some y→c[o+j]?=some y
def pElem (r:Rty) (row:List Pd):Pd where
  n:=1
  nu:=r.nu
  sl:=r.t::r.sl
  kv:=none
  R:=ElemR r row
  kv_ok e:=by cases e
  len h:=by obtain ⟨_,_,_,_,_,_,rfl,_⟩:=h; rfl
  one h:=by obtain ⟨_,_,_,_,_,_,rfl,_⟩:=h; rfl
  mono {b0 o S S' u w cs} hS hk h:=by
    obtain ⟨h1,b,o,c,t,f,e,hb,hl,x,hx,hc⟩:=h
    refine ⟨h1,b,o,c,t,f,e,hk.2 b _ hb ?_,⟨hl.1.imp id (fun h=>⟨h.1,hS b h.2⟩),hl.2⟩,x,hx.mono hS hk (fun p hp=>⟨(h1 p hp).1,fun t ht=>?_⟩),hc⟩
    · exact kept_of hl
    · have:=(h1 p hp).2 t ht
      simp at this ⊢; exact .inr this
  lim h:=by
    obtain ⟨h1,b,o,c,t,f,e,hb,hl,x,hx,hc⟩:=h
    exact ⟨h1,b,o,c,t,f,e,hb,⟨hl.1,fun B hB=>(by cases hB)⟩,x,hx.lim,hc⟩
  up hB h:=by
    obtain ⟨h1,b,o,c,t,f,e,hb,hl,x,hx,hc⟩:=h
    exact ⟨h1,b,o,c,t,f,e,hb,⟨hl.1,fun B' hB'=>(by cases hB'; exact hB _ (hl.2 _ rfl))⟩,x,hx.up hB,hc⟩
  all ha h:=by
    obtain ⟨h1,b,o,c,t,f,e,hb,hl,x,hx,hc⟩:=h
    exact ⟨h1,b,o,c,t,f,e,hb,⟨hl.1,fun B' hB'=>(by cases hB'; exact ⟨lt_of_heap hb,not_in ha hb hl.1⟩)⟩,x,hx.all' ha (fun p hp=>⟨(h1 p hp).1,fun t ht=>by
        have:=(h1 p hp).2 t ht
        simp at this ⊢; exact .inr this⟩),hc⟩
structure Mty where
  ks:Option Nat
  sh:Option Nat
  nu:List TypeId
  sl:List TypeId
  kp:Value→Prop
abbrev Ents:=List (Value × List Pd)
def Mty.Fit (m:Mty) (es:Ents):Prop:=∀ e∈es,∀ p∈e.2,Sub p.nu m.nu∧Sub p.sl m.sl
structure EntsAt (m:Mty) (l:Lm) (w:World) (es:Array MapEntry) (clock:Nat) (en:Ents):Prop where
  len:es.size=en.length
  born:∀ e∈es.toList,e.born < clock
  nodup:(es.toList.map (·.born)).Nodup
  keys:(en.map (·.1)).Nodup
  at_:∀ (i:Nat) (k:Value) (row:List Pd),en[i]?=some (k,row)→m.kp k∧∃ (e:MapEntry) (x:List Value),es[i]?=some e∧e.key=k∧e.val=(v1of 0 0 m.sh).den [] [x]∧x.length=m.sh.getD 1∧RL l w row x
theorem EntsAt.imp {m:Mty} {l l':Lm} {w w':World} {es:Array MapEntry} {clock:Nat} {en:Ents} (h:EntsAt m l w es clock en) (hi:∀ e∈en,∀ x,RL l w e.2 x→RL l' w' e.2 x):EntsAt m l' w' es clock en:=
  ⟨h.len,h.born,h.nodup,h.keys,fun i k row hr=>let ⟨h1,e,x,h2,h3,h4,h5,h6⟩:=h.at_ i k row hr; ⟨h1,e,x,h2,h3,h4,h5,hi (k,row) (List.mem_of_getElem? hr) x h6⟩⟩
theorem kept_obj {l:Lm} {b:Nat} {o:Obj} {A:Prop} (hn:NotCells o) (hl:(b < l.b0∨l.S b)∧∀ B,l.o=some B→B b):A∨b < l.b0∨(∃ B,l.o=some B∧B b)∨(NotCells o∧l.o=none∧l.S b):=by
  cases ho:l.o with
  | some B=>exact .inr (.inr (.inl ⟨B,rfl,hl.2 B ho⟩))
  | none=>
    rcases hl.1 with h | h
    · exact .inr (.inl h)
    · exact .inr (.inr (.inr ⟨hn,rfl,h⟩))
theorem notCells_map (es:Array MapEntry) (clock:Nat):NotCells (.map es clock):=fun _ _ _ h=>by cases h
theorem notCells_iter (m:Option Nat) (s:Nat) (seen:Array Nat) (c:Nat):NotCells (.mapIter m s seen c):=fun _ _ _ h=>by cases h
def MapR (m:Mty) (en:Ents) (l:Lm) (w:World) (cs:List Value):Prop:=
  m.Fit en∧((cs=[.map none]∧en=[])∨∃ b es clock,cs=[.map (some b)]∧w.heap[b]?=some (.map es clock)∧((b < l.b0∨l.S b)∧∀ B,l.o=some B→B b)∧EntsAt m l w es clock en)
def pMap (m:Mty) (en:Ents):Pd where
  n:=1
  nu:=m.nu
  sl:=m.sl
  kv:=none
  R:=MapR m en
  kv_ok e:=by cases e
  len h:=by rcases h.2 with ⟨rfl,_⟩ | ⟨_,_,_,rfl,_⟩ <;> rfl
  one h:=by rcases h.2 with ⟨rfl,_⟩ | ⟨_,_,_,rfl,_⟩ <;> rfl
  mono {b0 o S S' u w cs} hS hk h:=by
    refine ⟨h.1,?_⟩
    rcases h.2 with h' | ⟨b,es,clock,e,hb,hl,hr⟩
    · exact .inl h'
    · exact .inr ⟨b,es,clock,e,hk.2 b _ hb (kept_obj (notCells_map _ _) hl),⟨hl.1.imp id (hS b),hl.2⟩,hr.imp fun e he x hx=>hx.mono hS hk (fun p hp=>h.1 e he p hp)⟩
  lim h:=by
    refine ⟨h.1,?_⟩
    rcases h.2 with h' | ⟨b,es,clock,e,hb,hl,hr⟩
    · exact .inl h'
    · exact .inr ⟨b,es,clock,e,hb,⟨hl.1,fun B hB=>(by cases hB)⟩,hr.imp fun e he x hx=>hx.lim⟩
  up hB h:=by
    refine ⟨h.1,?_⟩
    rcases h.2 with h' | ⟨b,es,clock,e,hb,hl,hr⟩
    · exact .inl h'
    · exact .inr ⟨b,es,clock,e,hb,⟨hl.1,fun B' hB'=>(by cases hB'; exact hB _ (hl.2 _ rfl))⟩,hr.imp fun e he x hx=>hx.up hB⟩
  all {b0 S w cs X} ha h:=by
    refine ⟨h.1,?_⟩
    rcases h.2 with h' | ⟨b,es,clock,e,hb,hl,hr⟩
    · exact .inl h'
    · have hx:¬ X b:=fun hx=>by
        rcases hl.1 with h1 | h1
        · have:=ha.low b hx
          have h1:b < b0:=h1
          omega
        · exact ha.obj b _ hx hb (notCells_map _ _) h1
      exact .inr ⟨b,es,clock,e,hb,⟨hl.1,fun B' hB'=>(by cases hB'; exact ⟨(Array.getElem?_eq_some_iff.1 hb).1,hx⟩)⟩,hr.imp fun e he x hx=>hx.all' ha (fun p hp=>h.1 e he p hp)⟩
inductive AV where
  | ro (old:Bool) (p:Pd)
  | own (g:Nat) (r:Rty) (rows:List (List Pd))
  | var (g:Nat) (r:Rty) (row:List Pd)
  | junk (n:Nat)
  | map (g:Nat) (m:Mty) (en:Ents)
  | iter (g:Nat) (m:Mty) (cur:Option (Value × List Pd)) (left:Ents)
  | blk (g:Nat) (r:Rty) (cap:Nat) (rows:List (List Pd))
def AV.n:AV→Nat
  | .ro _ p=>p.n
  | .own _ _ _=>1
  | .var _ _ _=>1
  | .junk n=>n
  | .map _ _ _=>0
  | .iter _ _ _ _=>0
  | .blk _ _ _ _=>0
structure Bd where
  b0:Nat
  b:Nat
  le:b0≤b
  S:Nat→Prop
  X:Nat→Prop
  xs:∀ g,X g→b0≤g
def Bd.nn (B:Bd):Lm:=⟨B.b0,none,B.S⟩
def Bd.old (B:Bd):Nat→Prop:=fun b=>b < B.b∧¬ B.X b
def limOf (B:Bd) (old:Bool):Lm:=⟨B.b0,bif old then some B.old else none,B.S⟩
def Bd.sh (B:Bd) (S:Nat→Prop):Bd:=⟨B.b0,B.b,B.le,S,B.X,B.xs⟩
def Bd.ow (B:Bd) (g:Nat):Prop:=B.b≤g∨B.X g
def OwnR (B:Bd) (g:Nat) (r:Rty) (rows:List (List Pd)) (w:World) (cs:List Value) (os:List Nat):Prop:=
  (∀ row∈rows,r.Fit row)∧((cs=[.slice none 0 0]∧rows=[]∧os=[]) ∨
    ∃ cap cur,cs=[.slice (some ⟨g,0,none⟩) rows.length cap]∧os=[g]∧(B.ow g∧B.S g)∧w.heap[g]?=some (.cells cur r.t (0,0))∧rows.length≤cap∧cap≤maxLen∧cur.size=cap * r.n∧RowsAt r B.nn w cur 0 rows)
def VarR (B:Bd) (g:Nat) (r:Rty) (row:List Pd) (w:World) (cs:List Value) (os:List Nat):Prop:=
  r.Fit row∧cs=[.pointer (some ⟨g,0,none⟩)]∧os=[g]∧(B.ow g∧B.S g)∧∃ cur,w.heap[g]?=some (.cells cur r.t (0,0))∧cur.size=r.n∧RowsAt r B.nn w cur 0 [row]
def OwnM (B:Bd) (g:Nat) (m:Mty) (en:Ents) (w:World) (cs:List Value) (os:List Nat):Prop:=
  m.Fit en∧cs=[]∧os=[g]∧(B.ow g∧¬ B.S g)∧∃ es clock,w.heap[g]?=some (.map es clock)∧EntsAt m B.nn w es clock en
def leftE (es:Array MapEntry) (en:Ents) (seen:Array Nat):Ents:=((es.toList.zip en).filter fun x=>!seen.contains x.1.born).map (·.2)
def IterR (B:Bd) (g:Nat) (m:Mty) (cur:Option (Value × List Pd)) (left:Ents) (w:World) (cs:List Value) (os:List Nat):Prop:=
  m.Fit left∧(∀ c,cur=some c→m.Fit [c])∧cs=[]∧os=[g]∧(B.ow g∧¬ B.S g) ∧
    ((left=[]∧cur=none∧∃ s seen c,w.heap[g]?=some (.mapIter none s seen c)) ∨
     ∃ b es clock en seen,w.heap[g]?=some (.mapIter (some b) clock seen clock)∧(b < B.b0∨B.S b)∧w.heap[b]?=some (.map es clock)∧m.Fit en∧EntsAt m B.nn w es clock en∧left=leftE es en seen ∧
      ∀ c,cur=some c→∃ (i:Nat) (e:MapEntry),es[i]?=some e∧en[i]?=some c∧seen.back?=some e.born)
def BlkR (B:Bd) (g:Nat) (r:Rty) (cap:Nat) (rows:List (List Pd)) (w:World) (cs:List Value) (os:List Nat):Prop:=
  (∀ row∈rows,r.Fit row)∧cs=[]∧os=[g]∧(B.ow g∧B.S g)∧(rows.length≤cap∧cap≤maxLen)∧∃ cur,w.heap[g]?=some (.cells cur r.t (0,0))∧cur.size=cap * r.n∧RowsAt r B.nn w cur 0 rows
def RepV (B:Bd) (w:World):AV→List Value→List Nat→Prop
  | .ro old p,cs,os=>p.R (limOf B old) w cs∧os=[]
  | .own g r rows,cs,os=>OwnR B g r rows w cs os
  | .var g r row,cs,os=>VarR B g r row w cs os
  | .junk n,cs,os=>cs.length=n∧cs.all Value.oneCell'=true∧os=[]
  | .map g m en,cs,os=>OwnM B g m en w cs os
  | .iter g m cur left,cs,os=>IterR B g m cur left w cs os
  | .blk g r cap rows,cs,os=>BlkR B g r cap rows w cs os
theorem RepV.len {B:Bd} {w:World} {a:AV} {cs:List Value} {os:List Nat} (h:RepV B w a cs os):cs.length=a.n:=by
  cases a with
  | ro old p=>exact p.len h.1
  | own g r rows=>rcases h.2 with ⟨rfl,_⟩ | ⟨_,_,rfl,_⟩ <;> rfl
  | var g r row=>obtain ⟨_,rfl,_⟩:=h; rfl
  | junk n=>exact h.1
  | map g m en=>obtain ⟨_,rfl,_⟩:=h; rfl
  | iter g m c l=>obtain ⟨_,_,rfl,_⟩:=h; rfl
  | blk g r cap rows=>obtain ⟨_,rfl,_⟩:=h; rfl
theorem RepV.one {B:Bd} {w:World} {a:AV} {cs:List Value} {os:List Nat} (h:RepV B w a cs os):cs.all Value.oneCell'=true:=by
  cases a with
  | ro old p=>exact p.one h.1
  | own g r rows=>rcases h.2 with ⟨rfl,_⟩ | ⟨_,_,rfl,_⟩ <;> rfl
  | var g r row=>obtain ⟨_,rfl,_⟩:=h; rfl
  | junk n=>exact h.2.1
  | map g m en=>obtain ⟨_,rfl,_⟩:=h; rfl
  | iter g m c l=>obtain ⟨_,_,rfl,_⟩:=h; rfl
  | blk g r cap rows=>obtain ⟨_,rfl,_⟩:=h; rfl
theorem RepV.junk {B:Bd} {w:World} {a:AV} {cs:List Value} {os:List Nat} (h:RepV B w a cs os):RepV B w (.junk a.n) cs []:=⟨h.len,h.one,rfl⟩
theorem RepV.ge {B:Bd} {w:World} {a:AV} {cs:List Value} {os:List Nat} (h:RepV B w a cs os):∀ g∈os,B.ow g∧g < w.heap.size:=by
  cases a with
  | ro old p=>rw [h.2]; intro g hg; cases hg
  | own g r rows=>
    rcases h.2 with ⟨_,_,rfl⟩ | ⟨_,_,_,rfl,h1,h2,_⟩
    · intro g hg; cases hg
    · intro g hg; simp at hg; subst hg; exact ⟨h1.1,lt_of_heap h2⟩
  | var g r row=>obtain ⟨_,_,rfl,h1,x,h2,_⟩:=h; intro g hg; simp at hg; subst hg; exact ⟨h1.1,lt_of_heap h2⟩
  | junk n=>rw [h.2.2]; intro g hg; cases hg
  | map g m en=>obtain ⟨_,_,rfl,h1,es,clock,h2,_⟩:=h; intro g hg; simp at hg; subst hg; exact ⟨h1.1,(Array.getElem?_eq_some_iff.1 h2).1⟩
  | iter g m c l=>
    obtain ⟨_,_,_,rfl,h1,h2⟩:=h
    intro g hg; simp at hg; subst hg
    rcases h2 with ⟨_,_,_,_,_,h2⟩ | ⟨_,_,_,_,_,h2,_⟩ <;> exact ⟨h1.1,(Array.getElem?_eq_some_iff.1 h2).1⟩
  | blk g r cap rows=>obtain ⟨_,_,rfl,h1,_,cur,h2,_⟩:=h; intro g hg; simp at hg; subst hg; exact ⟨h1.1,lt_of_heap h2⟩
def RepS (B:Bd) (w:World):List AV→List Value→List Nat→Prop
  | [],cs,os=>cs=[]∧os=[]
  | a::r,cs,os=>∃ c1 c2 o1 o2,cs=c1++c2∧os=o1++o2∧RepV B w a c1 o1∧RepS B w r c2 o2
def RepE (B:Bd) (w:World):List (List AV)→Env→List Nat→Prop
  | [],E,os=>E=[]∧os=[]
  | s::Γ,E,os=>∃ cs E' o1 o2,E=cs::E'∧os=o1++o2∧RepS B w s cs o1∧RepE B w Γ E' o2
def szA:List AV→Nat
  | []=>0
  | a::r=>a.n+szA r
section rep
variable {B:Bd} {w u:World}
theorem RepS.len:∀ {s:List AV} {cs:List Value} {os:List Nat},RepS B w s cs os→cs.length=szA s
  | [],_,_,h=>by rw [h.1]; rfl
  | a::r,_,_,⟨c1,c2,o1,o2,e,_,h1,h2⟩=>by rw [e,List.length_append,h1.len,h2.len]; rfl
theorem RepS.one:∀ {s:List AV} {cs:List Value} {os:List Nat},RepS B w s cs os→cs.all Value.oneCell'=true
  | [],_,_,h=>by rw [h.1]; rfl
  | a::r,_,_,⟨c1,c2,o1,o2,e,_,h1,h2⟩=>by rw [e,List.all_append,h1.one,h2.one]; rfl
theorem RepS.ge:∀ {s:List AV} {cs:List Value} {os:List Nat},RepS B w s cs os→∀ g∈os,B.ow g∧g < w.heap.size
  | [],_,_,h=>by rw [h.2]; intro g hg; cases hg
  | a::r,_,_,⟨c1,c2,o1,o2,_,e,h1,h2⟩=>by
    intro g hg
    rw [e] at hg
    rcases List.mem_append.1 hg with hg | hg
    · exact h1.ge g hg
    · exact h2.ge g hg
theorem RepS.app:∀ {s s':List AV} {c c':List Value} {o o':List Nat},RepS B w s c o→RepS B w s' c' o'→RepS B w (s++s') (c++c') (o++o')
  | [],_,_,_,_,_,h,h'=>by rw [h.1,h.2]; exact h'
  | a::r,s',_,c',_,o',⟨c1,c2,o1,o2,e,e2,h1,h2⟩,h'=>⟨c1,c2++c',o1,o2++o',by rw [e,List.append_assoc],by rw [e2,List.append_assoc],h1,h2.app h'⟩
theorem RepE.len:∀ {Γ:List (List AV)} {E:Env} {os:List Nat},RepE B w Γ E os→E.length=Γ.length
  | [],_,_,h=>by rw [h.1]; rfl
  | s::Γ,_,_,⟨cs,E',o1,o2,e,_,h1,h2⟩=>by rw [e,List.length_cons,h2.len]; rfl
theorem RepE.ge:∀ {Γ:List (List AV)} {E:Env} {os:List Nat},RepE B w Γ E os→∀ g∈os,B.ow g∧g < w.heap.size
  | [],_,_,h=>by rw [h.2]; intro g hg; cases hg
  | s::Γ,_,_,⟨cs,E',o1,o2,_,e,h1,h2⟩=>by
    intro g hg
    rw [e] at hg
    rcases List.mem_append.1 hg with hg | hg
    · exact h1.ge g hg
    · exact h2.ge g hg
theorem RepE.app:∀ {Γ Γ':List (List AV)} {E E':Env} {o o':List Nat},RepE B w Γ E o→RepE B w Γ' E' o'→RepE B w (Γ++Γ') (E++E') (o++o')
  | [],_,_,_,_,_,h,h'=>by rw [h.1,h.2]; exact h'
  | s::Γ,Γ',_,E',_,o',⟨cs,E2,o1,o2,e,e2,h1,h2⟩,h'=>⟨cs,E2++E',o1,o2++o',by rw [e]; rfl,by rw [e2,List.append_assoc],h1,h2.app h'⟩
theorem RepE.snoc {Γ:List (List AV)} {s:List AV} {E:Env} {cs:List Value} {o o':List Nat} (h:RepE B w Γ E o) (h':RepS B w s cs o'):RepE B w (Γ++[s]) (E++[cs]) (o++o'):=
  h.app ⟨cs,[],o',[],rfl,by simp,h',rfl,rfl⟩
theorem RepE.split:∀ {Γ Γ':List (List AV)} {E:Env} {os:List Nat},RepE B w (Γ++Γ') E os→∃ E1 E2 o1 o2,E=E1++E2∧os=o1++o2∧RepE B w Γ E1 o1∧RepE B w Γ' E2 o2
  | [],_,E,os,h=>⟨[],E,[],os,rfl,rfl,⟨rfl,rfl⟩,h⟩
  | s::Γ,Γ',_,_,⟨cs,E',o1,o2,e,e2,h1,h2⟩=>by
    obtain ⟨E1,E2,p1,p2,e3,e4,h3,h4⟩:=RepE.split (Γ:=Γ) h2
    exact ⟨cs::E1,E2,o1++p1,p2,by rw [e,e3]; rfl,by rw [e2,e4,List.append_assoc],⟨cs,E1,o1,p1,rfl,rfl,h1,h3⟩,h4⟩
end rep
def AV.okD (D:TypeId→Bool):AV→Bool
  | .ro _ p=>p.nu.all D
  | .own _ r _=>r.nu.all D
  | .var _ r _=>r.nu.all D
  | .junk _=>true
  | .map _ m _=>m.nu.all D
  | .iter _ m _ _=>m.nu.all D
  | .blk _ r _ _=>r.nu.all D
def AV.safe (t:TypeId):AV→Bool
  | .ro old p=>!p.nu.contains t && (old || !p.sl.contains t)
  | .own _ r _=>!r.nu.contains t && !r.sl.contains t
  | .var _ r _=>!r.nu.contains t && !r.sl.contains t
  | .junk _=>true
  | .map _ m _=>!m.nu.contains t && !m.sl.contains t
  | .iter _ m _ _=>!m.nu.contains t && !m.sl.contains t
  | .blk _ r _ _=>!r.nu.contains t && !r.sl.contains t
structure Goes (B:Bd) (X:Nat→Prop) (D:TypeId→Bool) (u w:World):Prop where
  size:u.heap.size≤w.heap.size
  old:∀ b,B.old b→w.heap[b]?=u.heap[b]?
  new:∀ b c t f,u.heap[b]?=some (Obj.cells c t f)→(D t=true∨B.S b)→¬ X b→w.heap[b]?=some (Obj.cells c t f)
  obj:∀ b o,u.heap[b]?=some o→NotCells o→¬ X b→w.heap[b]?=some o
theorem Bd.low (B:Bd) {b:Nat} (h:b < B.b0):B.old b:=⟨Nat.lt_of_lt_of_le h B.le,fun hx=>by have:=B.xs b hx; omega⟩
def Gr (u:World) (S S':Nat→Prop):Prop:=(∀ b,S b→S' b)∧∀ b,b < u.heap.size→S' b→S b
theorem Gr.refl (u:World) (S:Nat→Prop):Gr u S S:=⟨fun _ h=>h,fun _ _ h=>h⟩
theorem Gr.more {u w w':World} {S:Nat→Prop} (h:u.heap.size≤w.heap.size):Gr u S (Gh.more ⟨w,S⟩ w w').S:=⟨fun _ h=>.inl h,fun b hb h'=>h'.elim id (fun h2=>by have:=h2.1; omega)⟩
theorem Goes.kept {B:Bd} {X:Nat→Prop} {D:TypeId→Bool} {u w:World} (h:Goes B X D u w) {nu sl:List TypeId} {old:Bool} (h1:nu.all D=true)
    (hX:∀ b c t f,u.heap[b]?=some (Obj.cells c t f)→X b→nu.contains t=false∧(old=true∨sl.contains t=false)) (hM:∀ b o,u.heap[b]?=some o→NotCells o→X b→¬ B.S b):Kept nu sl (limOf B old) u w:=by
  refine ⟨h.size,?_⟩
  intro b o hb hc
  rcases hc with ⟨c,t,f,rfl,hc⟩ | hlt | ⟨B',hB,hlt⟩ | ⟨hn,_,hs⟩
  · refine h.new b c t f hb ?_ (fun hx=>?_)
    · rcases hc with hc | ⟨hl,hs,hc⟩
      · exact .inl (List.all_eq_true.1 h1 t (by simpa using hc))
      · exact .inr hs
    · obtain ⟨k1,k2⟩:=hX b c t f hb hx
      rcases hc with hc | ⟨hl,_,hc⟩
      · rw [k1] at hc; cases hc
      · rcases k2 with k2 | k2
        · subst k2; simp [limOf] at hl
        · rw [k2] at hc; cases hc
  · rw [h.old b (B.low hlt)]; exact hb
  · cases old with
    | true=>simp only [limOf,cond_true,Option.some.injEq] at hB; subst hB; rw [h.old b hlt]; exact hb
    | false=>simp [limOf] at hB
  · exact h.obj b o hb hn (fun hx=>hM b o hb hn hx hs)
theorem Goes.rl {B:Bd} {X:Nat→Prop} {D:TypeId→Bool} {u w:World} (h:Goes B X D u w) {S':Nat→Prop} (hS:∀ b,B.S b→S' b) {nu sl:List TypeId} (h1:nu.all D=true)
    (hX:∀ b c t f,u.heap[b]?=some (Obj.cells c t f)→X b→nu.contains t=false∧sl.contains t=false) (hM:∀ b o,u.heap[b]?=some o→NotCells o→X b→¬ B.S b) {row:List Pd} (hf:∀ p∈row,Sub p.nu nu∧Sub p.sl sl) {x:List Value} (hx:RL B.nn u row x):RL (B.sh S').nn w row x:=
  RL.mono hS (h.kept (old:=false) h1 (fun b c t f hb hx=>⟨(hX b c t f hb hx).1,.inr (hX b c t f hb hx).2⟩) hM) hf hx
theorem RepV.goes {B:Bd} {X S':Nat→Prop} {D:TypeId→Bool} {u w:World} (h:Goes B X D u w) (hS:Gr u B.S S') {a:AV} {cs:List Value} {os:List Nat} (hr:RepV B u a cs os) (hD:a.okD D=true)
    (hX:∀ b c t f,u.heap[b]?=some (Obj.cells c t f)→X b→a.safe t=true) (hM:∀ b o,u.heap[b]?=some o→NotCells o→X b→¬ B.S b) (hO:∀ g∈os,¬ X g):RepV (B.sh S') w a cs os:=by
  cases a with
  | ro old p=>
    simp only [AV.okD] at hD
    refine ⟨p.mono hS.1 (h.kept (B:=B) (old:=old) hD (fun b c t f hb hx=>?_) hM) hr.1,hr.2⟩
    have:=hX b c t f hb hx
    simp only [AV.safe,Bool.and_eq_true,Bool.not_eq_true',Bool.or_eq_true] at this
    exact this
  | own g r rows=>
    simp only [AV.okD] at hD
    refine ⟨hr.1,?_⟩
    rcases hr.2 with h' | ⟨cap,cur,e,ho,hB,hg,i1,i2,i3,hrow⟩
    · exact .inl h'
    · refine .inr ⟨cap,cur,e,ho,⟨hB.1,hS.1 _ hB.2⟩,h.new g _ _ _ hg (.inr hB.2) (hO g (by rw [ho]; simp)),i1,i2,i3,hrow.imp fun row hm x hx=>h.rl hS.1 hD (fun b c t f hb hx=>?_) hM (hr.1 row hm) hx⟩
      have:=hX b c t f hb hx
      simpa only [AV.safe,Bool.and_eq_true,Bool.not_eq_true'] using this
  | var g r row=>
    simp only [AV.okD] at hD
    obtain ⟨hf,e,ho,hB,x,hg,hs,hrow⟩:=hr
    refine ⟨hf,e,ho,⟨hB.1,hS.1 _ hB.2⟩,x,h.new g _ _ _ hg (.inr hB.2) (hO g (by rw [ho]; simp)),hs,hrow.imp fun row hm x hx=>h.rl (nu:=r.nu) (sl:=r.sl) hS.1 hD (fun b c t f hb hx=>?_) hM (by simp at hm; rw [hm]; exact hf) hx⟩
    have:=hX b c t f hb hx
    simpa only [AV.safe,Bool.and_eq_true,Bool.not_eq_true'] using this
  | junk n=>exact hr
  | map g m en=>
    simp only [AV.okD] at hD
    obtain ⟨hf,e,ho,hB,es,clock,hg,hat⟩:=hr
    refine ⟨hf,e,ho,⟨hB.1,fun hs=>hB.2 (hS.2 g (Array.getElem?_eq_some_iff.1 hg).1 hs)⟩,es,clock,h.obj g _ hg (notCells_map _ _) (hO g (by rw [ho]; simp)),hat.imp fun en' he x hx=>h.rl hS.1 hD (fun b c t f hb hx=>?_) hM (fun p hp=>hf en' he p hp) hx⟩
    have:=hX b c t f hb hx
    simpa only [AV.safe,Bool.and_eq_true,Bool.not_eq_true'] using this
  | iter g m cur left=>
    simp only [AV.okD] at hD
    obtain ⟨hf,hc,e,ho,hB,h2⟩:=hr
    have hgx:¬ X g:=hO g (by rw [ho]; simp)
    rcases h2 with ⟨e1,e2,s,seen,c,hg⟩ | ⟨b,es,clock,en,seen,hg,hb,hbm,hfe,hat,hl,hcur⟩
    · exact ⟨hf,hc,e,ho,⟨hB.1,fun hs=>hB.2 (hS.2 g (Array.getElem?_eq_some_iff.1 hg).1 hs)⟩,.inl ⟨e1,e2,s,seen,c,h.obj g _ hg (notCells_iter _ _ _ _) hgx⟩⟩
    · refine ⟨hf,hc,e,ho,⟨hB.1,fun hs=>hB.2 (hS.2 g (Array.getElem?_eq_some_iff.1 hg).1 hs)⟩,.inr ⟨b,es,clock,en,seen,h.obj g _ hg (notCells_iter _ _ _ _) hgx,hb.imp id (hS.1 b),?_,hfe,hat.imp fun en' he x hx=>h.rl hS.1 hD (fun b c t f hb hx=>?_) hM (fun p hp=>hfe en' he p hp) hx,hl,hcur⟩⟩
      · rcases hb with hb | hb
        · rw [h.old b (B.low hb)]; exact hbm
        · exact h.obj b _ hbm (notCells_map _ _) (fun hx=>hM b _ hbm (notCells_map _ _) hx hb)
      · have:=hX b c t f hb hx
        simpa only [AV.safe,Bool.and_eq_true,Bool.not_eq_true'] using this
  | blk g r cap rows=>
    simp only [AV.okD] at hD
    obtain ⟨hf,e,ho,hB,hc,cur,hg,hs,hrow⟩:=hr
    refine ⟨hf,e,ho,⟨hB.1,hS.1 _ hB.2⟩,hc,cur,h.new g _ _ _ hg (.inr hB.2) (hO g (by rw [ho]; simp)),hs,hrow.imp fun row hm x hx=>h.rl (nu:=r.nu) (sl:=r.sl) hS.1 hD (fun b c t f hb hx=>?_) hM (hf row hm) hx⟩
    have:=hX b c t f hb hx
    simpa only [AV.safe,Bool.and_eq_true,Bool.not_eq_true'] using this
def okE (D:TypeId→Bool) (Γ:List (List AV)):Bool:=Γ.all fun s=>s.all (AV.okD D)
theorem RepS.goes {B:Bd} {X S':Nat→Prop} {D:TypeId→Bool} {u w:World} (h:Goes B X D u w) (hS:Gr u B.S S') (hM:∀ b o,u.heap[b]?=some o→NotCells o→X b→¬ B.S b):∀ {s:List AV} {cs:List Value} {os:List Nat},RepS B u s cs os→s.all (AV.okD D)=true →
    (∀ b c t f,u.heap[b]?=some (Obj.cells c t f)→X b→s.all (AV.safe t)=true)→(∀ g∈os,¬ X g)→RepS (B.sh S') w s cs os
  | [],_,_,hr,_,_,_=>hr
  | a::s,_,_,⟨c1,c2,o1,o2,e,e2,h1,h2⟩,hD,hX,hO=>by
    simp only [List.all_cons,Bool.and_eq_true] at hD hX
    exact ⟨c1,c2,o1,o2,e,e2,h1.goes h hS hD.1 (fun b c t f hb hx=>(hX b c t f hb hx).1) hM (fun g hg=>hO g (by rw [e2]; simp [hg])),
      h2.goes h hS hM hD.2 (fun b c t f hb hx=>(hX b c t f hb hx).2) (fun g hg=>hO g (by rw [e2]; simp [hg]))⟩
theorem RepE.goes {B:Bd} {X S':Nat→Prop} {D:TypeId→Bool} {u w:World} (h:Goes B X D u w) (hS:Gr u B.S S') (hM:∀ b o,u.heap[b]?=some o→NotCells o→X b→¬ B.S b):∀ {Γ:List (List AV)} {E:Env} {os:List Nat},RepE B u Γ E os→okE D Γ=true →
    (∀ b c t f,u.heap[b]?=some (Obj.cells c t f)→X b→Γ.all (fun s=>s.all (AV.safe t))=true)→(∀ g∈os,¬ X g)→RepE (B.sh S') w Γ E os
  | [],_,_,hr,_,_,_=>hr
  | s::Γ,_,_,⟨cs,E',o1,o2,e,e2,h1,h2⟩,hD,hX,hO=>by
    simp only [okE,List.all_cons,Bool.and_eq_true] at hD hX
    exact ⟨cs,E',o1,o2,e,e2,h1.goes h hS hM hD.1 (fun b c t f hb hx=>(hX b c t f hb hx).1) (fun g hg=>hO g (by rw [e2]; simp [hg])),
      h2.goes h hS hM hD.2 (fun b c t f hb hx=>(hX b c t f hb hx).2) (fun g hg=>hO g (by rw [e2]; simp [hg]))⟩
structure W0 where
  w:World
  b0:Nat
  le:b0≤w.heap.size
  S:Nat→Prop
  sh:∀ b,S b→b < w.heap.size
  X:Nat→Prop
  xs:∀ g,X g→b0≤g
def W0.bd (w0:W0) (S:Nat→Prop):Bd:=⟨w0.b0,w0.w.heap.size,w0.le,S,w0.X,w0.xs⟩
def W0.gh (w0:W0):Gh:=⟨w0.w,w0.S⟩
def W0.bs (w0:W0):Bs:=⟨w0.w,w0.X⟩
def W0.fin (w0:W0) (w:World):Nat→Prop:=fun b=>w0.S b∨(w0.w.heap.size≤b∧b < w.heap.size)
structure SOk (w0:W0) (S:Nat→Prop) (u:Gh):Prop where
  base:∀ b,w0.S b→S b
  at_:∀ b,S b→(w0.S b∨w0.w.heap.size≤b)∧b < u.w.heap.size∧∀ c t f,u.w.heap[b]?=some (Obj.cells c t f)→u.S b
def Knows (w0:W0) (D:TypeId→Bool) (Γ:List (List AV)) (E:Env) (u:Gh):Prop:=
  Bx w0.bs u.w∧okE D Γ=true∧∃ os S,os.Nodup∧SOk w0 S u∧RepE (w0.bd S) u.w Γ E os
theorem Goes.of_ext {D:TypeId→Bool} {w0:W0} {S:Nat→Prop} {w:World} {u:Gh} (hS:SOk w0 S u) (hu:Bx w0.bs u.w) (hw:Bx w0.bs w) (he:ExtS D u w):Goes (w0.bd S) (fun _=>False) D u.w w:=
  ⟨he.size,fun b hb=>(hw.block b hb.1 hb.2).trans (hu.block b hb.1 hb.2).symm,fun b c t f hb hD _=>he.block b c t f hb (hD.imp id (fun h=>(hS.at_ b h).2.2 c t f hb)),fun b o hb hn _=>he.obj b o hb hn⟩
theorem SOk.ext {w0:W0} {S:Nat→Prop} {u:Gh} {D:TypeId→Bool} {w:World} (h:SOk w0 S u) (he:ExtS D u w):SOk w0 S ⟨w,u.S⟩:=⟨h.base,fun b hb=>by
  obtain ⟨h1,h2,h3⟩:=h.at_ b hb
  refine ⟨h1,Nat.lt_of_lt_of_le h2 he.size,fun c t f hc=>?_⟩
  cases ho:u.w.heap[b]'h2 with
  | cells c' t' f'=>exact h3 c' t' f' (by rw [Array.getElem?_eq_getElem h2,ho])
  | _=>
    have:=he.obj b _ (by rw [Array.getElem?_eq_getElem h2]) (by rw [ho]; intro c t f e; cases e)
    rw [ho] at this
    have hc:w.heap[b]?=some (Obj.cells c t f):=hc
    rw [this] at hc; cases hc⟩
theorem SOk.more {w0:W0} {S:Nat→Prop} {u:Gh} {w w':World} (h:SOk w0 S ⟨w,u.S⟩) (h0:w0.w.heap.size≤w.heap.size) (hs:w.heap.size≤w'.heap.size) (hc:∀ b c t f,S b→w'.heap[b]?=some (Obj.cells c t f)→b < w.heap.size→∃ c' t' f',w.heap[b]?=some (Obj.cells c' t' f')) :
    SOk w0 (Gh.more ⟨w,S⟩ w w').S (u.more w w'):=⟨fun b hb=>.inl (h.base b hb),fun b hb=>by
  rcases hb with hb | ⟨hb1,hb2⟩
  · obtain ⟨h1,h2,h3⟩:=h.at_ b hb
    refine ⟨h1,Nat.lt_of_lt_of_le h2 hs,fun c t f hcc=>.inl ?_⟩
    obtain ⟨c',t',f',hcc'⟩:=hc b c t f hb hcc h2
    exact h3 c' t' f' hcc'
  · exact ⟨.inr (by omega),hb2,fun _ _ _ _=>.inr ⟨hb1,hb2⟩⟩⟩
theorem SOk.below {w0:W0} {S:Nat→Prop} {u:Gh} {w w':World} (h:SOk w0 S ⟨w,u.S⟩) (h0:w0.w.heap.size≤w.heap.size) (hb:Below w.heap.size w w'):SOk w0 (Gh.more ⟨w,S⟩ w w').S (u.more w w'):=
  h.more h0 hb.size (fun b c t f _ hc hlt=>⟨c,t,f,by rw [← hb.block b hlt]; exact hc⟩)
theorem Knows.ext {w0:W0} {D:TypeId→Bool} {Γ:List (List AV)} {E:Env} {u:Gh} {w:World} (h:Knows w0 D Γ E u) (he:ExtS D u w) (hb:Bx w0.bs w):Knows w0 D Γ E ⟨w,u.S⟩:=by
  obtain ⟨h1,h2,os,S,h3,h5,h4⟩:=h
  exact ⟨hb,h2,os,S,h3,h5.ext he,RepE.goes (B:=w0.bd S) (Goes.of_ext h5 h1 hb he) (Gr.refl _ _) (fun _ _ _ _ h=>h.elim) h4 h2 (fun _ _ _ _ _ h=>h.elim) (fun _ _ h=>h)⟩
abbrev LK:=List (Nat × (List (List AV)→List AV→Prop))
def LOk (w0:W0) (D:TypeId→Bool) (K:LK) (L:LC) (E:Env):Prop:=
  ∀ d n Q,K[d]?=some (n,Q)→n≤E.length∧∀ cs u G avs,Q G avs→Knows w0 D (G++[avs]) (E.take n++[cs]) u→L d cs u
theorem LOk.ext {w0:W0} {D:TypeId→Bool} {K:LK} {L:LC} {E E':Env} (h:LOk w0 D K L E):LOk w0 D K L (E++E'):=fun d n Q hK=>by
  obtain ⟨h1,h2⟩:=h d n Q hK
  refine ⟨by rw [List.length_append]; omega,fun cs u G avs hQ hk=>h2 cs u G avs hQ ?_⟩
  rwa [List.take_append_of_le_length h1] at hk
structure Jd where
  J:World→Prop
  below:∀ {w w'},Below w.heap.size w w'→J w→J w'
def JJ (J:Jd) (w0:W0):Prop:=∀ w,Bx w0.bs w→J.J w
theorem JJ.of {J:Jd} {w0:W0} (hX:∀ b,¬ w0.X b) (h:J.J w0.w):JJ J w0:=fun _ hb=>J.below ⟨hb.os,hb.tape,hb.output,hb.size,fun k hk=>hb.block k hk (hX k)⟩ h
def AW (P:Program) (J:Jd) (w0:W0) (D:TypeId→Bool) (Post:Ending→World→Prop) (K:LK) (Γ:List (List AV)) (tr:Tr):Prop:=
  JJ J w0→∀ L E u,LOk w0 D K L E→Knows w0 D Γ E u→interp P w0.bs D (fun _=>false) Post tr L E u
def argV (sh:List (Option Nat)) (E:Env):List Value:=sh.zipIdx.map (fun (s,i)=>(v1of i 0 s).den [] E)
def ArgsR (l:Lm) (w:World):List (Option Nat)→List (List Pd)→Env→Prop
  | [],[],E=>E=[]
  | s::sh,ps::asx,E=>∃ cs E',E=cs::E'∧(s.getD 1=cs.length)∧RL l w ps cs∧ArgsR l w sh asx E'
  | _,_,_=>False
def TellsA (w0:W0) (sh:List (Option Nat)) (rs:(Nat→Nat)→List AV) (e:Ending) (w:World):Prop:=
  ∃ cs os γ S,e=.returned ((mkSV sh 0).den [] [cs])∧os.Nodup∧(∀ b,S b→w0.fin w b)∧RepS (w0.bd S) w (rs γ) cs os∧Bx w0.bs w
def W0.lim (w0:W0):Lm:=⟨w0.b0,some (Within w0.w w0.X),w0.S⟩
def Ct (P:Program) (J:Jd) (f:FuncId) (shI:List (Option Nat)) (asx:List (List Pd)) (sh:List (Option Nat)) (rs:(Nat→Nat)→List AV):Prop:=
  ∀ (w0:W0) E,(∀ b,¬ w0.X b)→J.J w0.w→ArgsR w0.lim w0.w shI asx E→Calls P f (argV shI E).toArray w0.w (TellsA w0 sh rs)
def TellsM (w0:W0) (A':(Nat→Nat)→AV) (sh:List (Option Nat)) (rs:(Nat→Nat)→List AV) (e:Ending) (w:World):Prop:=
  ∃ cs os γ S o,e=.returned ((mkSV sh 0).den [] [cs])∧os.Nodup∧(∀ b,S b→w0.fin w b)∧(∀ b,w0.S b→S b)∧RepS (w0.bd S) w (rs γ) cs os∧(∀ x∈os,¬ w0.X x)∧Bx w0.bs w ∧
    RepV (w0.bd S) w (A' γ) [] o∧(∀ x∈o,w0.X x)∧o.Nodup
def CtM (P:Program) (J:Jd) (f:FuncId) (shI:List (Option Nat)) (asx:List (List Pd)) (av:AV) (sh:List (Option Nat)) (A':(Nat→Nat)→AV) (rs:(Nat→Nat)→List AV):Prop:=
  ∀ (w0:W0) E o,JJ J w0→ArgsR w0.lim w0.w shI asx E→RepV (w0.bd w0.S) w0.w av [] o→o.Nodup→(∀ x,w0.X x↔x∈o)→Calls P f (argV shI E).toArray w0.w (TellsM w0 A' sh rs)
end Cin
