/- The walk that is reckoned is sound. No program. -/
import Derived.Test.YthffkbbcofbceaaGreatDoorYc
namespace Cin
open Go Go.RowKit
section den
variable {ρ ρ':List Nat} {E e:Env} {bl:Bl}
theorem A.den_ext {a:A} (h:a.sc E.length bl=true) (hρ:∀ j,bl.has j=true→ρ'.getD j 0=ρ.getD j 0):a.den ρ' (E++e)=a.den ρ E:=by
  cases a with
  | c i n=>simp only [A.sc,decide_eq_true_eq] at h; simp [A.den,List.getD_eq_getElem?_getD,List.getElem?_append_left h]
  | k v=>rfl
  | p j o=>simp only [A.sc] at h; simp only [A.den,hρ j h]
theorem den_list_ext {l:List A} (h:l.all (A.sc E.length bl)=true) (hρ:∀ j,bl.has j=true→ρ'.getD j 0=ρ.getD j 0):l.map (A.den ρ' (E++e))=l.map (A.den ρ E):=
  List.map_congr_left fun a ha=>A.den_ext (List.all_eq_true.1 h a ha) hρ
theorem V1.den_ext {x:V1} (h:x.atoms.all (A.sc E.length bl)=true) (hρ:∀ j,bl.has j=true→ρ'.getD j 0=ρ.getD j 0):x.den ρ' (E++e)=x.den ρ E:=by
  cases x with
  | s a=>exact A.den_ext (by simpa [V1.atoms] using h) hρ
  | g l=>simp only [V1.den]; rw [den_list_ext (by simpa [V1.atoms] using h) hρ]
theorem SV.den_ext {x:SV} (h:x.atoms.all (A.sc E.length bl)=true) (hρ:∀ j,bl.has j=true→ρ'.getD j 0=ρ.getD j 0):x.den ρ' (E++e)=x.den ρ E:=by
  cases x with
  | v x=>exact V1.den_ext h hρ
  | t l=>
    simp only [SV.den]
    congr 2
    refine List.map_congr_left fun x hx=>V1.den_ext ?_ hρ
    simp only [SV.atoms,List.all_eq_true,List.mem_flatMap] at h ⊢
    exact fun a ha=>h a ⟨x,hx,ha⟩
  | u=>rfl
  | any=>rfl
theorem A.den_noPtr {a:A} (h:a.noPtr=true):a.den ρ E=a.den [] E:=by
  cases a with
  | p j o=>simp [A.noPtr] at h
  | _=>rfl
theorem V1.den_noPtr {x:V1} (h:x.atoms.all A.noPtr=true):x.den ρ E=x.den [] E:=by
  cases x with
  | s a=>exact A.den_noPtr (by simpa [V1.atoms] using h)
  | g l=>
    have e:l.map (A.den ρ E)=l.map (A.den [] E):=List.map_congr_left fun a ha=>A.den_noPtr (List.all_eq_true.1 h a ha)
    simp only [V1.den,e]
theorem A.den_fine {a:A} (hE:∀ cs∈E,∀ v∈cs,v.oneCell'=true) (h:a.fine=true):(a.den ρ E).oneCell'=true:=by
  cases a with
  | c i n=>
    simp only [A.den,List.getD_eq_getElem?_getD]
    cases hi:E[i]? with
    | none=>simp; rfl
    | some cs=>
      simp only [Option.getD_some]
      cases hn:cs[n]? with
      | none=>rfl
      | some v=>exact hE cs (List.mem_of_getElem? hi) v (List.mem_of_getElem? hn)
  | k v=>exact h
  | p j o=>rfl
theorem cells_one {v:Value} (h:v.oneCell'=true):v.cells=#[v]:=by cases v <;> first | rfl | simp [Value.oneCell'] at h
theorem V1.den_cells {x:V1} (hE:∀ cs∈E,∀ v∈cs,v.oneCell'=true) (h:x.atoms.all A.fine=true):(x.den ρ E).cells=(x.atoms.map (A.den ρ E)).toArray:=by
  cases x with
  | s a=>simp only [V1.den,V1.atoms]; rw [cells_one (A.den_fine hE (by simpa [V1.atoms] using h))]; rfl
  | g l=>rfl
end den
structure Ext (D:TypeId→Bool) (u w:World):Prop where
  size:u.heap.size≤w.heap.size
  block:∀ (b:Nat) (c:Array Value) (t:TypeId) (f:Nat × Nat),u.heap[b]?=some (Obj.cells c t f)→D t=true→w.heap[b]?=some (Obj.cells c t f)
section
variable {D:TypeId→Bool} {u w w':World}
theorem Ext.refl (D:TypeId→Bool) (w:World):Ext D w w:=⟨Nat.le_refl _,fun _ _ _ _ h _=>h⟩
theorem Ext.trans (h:Ext D u w) (h':Ext D w w'):Ext D u w':=⟨Nat.le_trans h.size h'.size,fun b c t f hb ht=>h'.block b c t f (h.block b c t f hb ht) ht⟩
theorem Ext.of_below (h:Below w.heap.size w w'):Ext D w w':=⟨h.size,fun b _ _ _ hb _=>(h.block b (lt_of_heap hb)).trans hb⟩
theorem Ext.below (h:Ext D u w) (h':Below w.heap.size w w'):Ext D u w':=h.trans (Ext.of_below h')
theorem Ext.weak {Z:TypeId→Bool} (hZ:∀ t,Z t=true→D t=true) (h:Ext D u w):Ext Z u w:=⟨h.size,fun b c t f hb ht=>h.block b c t f hb (hZ t ht)⟩
structure Chg (D Z:TypeId→Bool) (w w':World):Prop where
  size:w.heap.size≤w'.heap.size
  block:∀ (b:Nat) (c:Array Value) (t:TypeId) (f:Nat × Nat),w.heap[b]?=some (Obj.cells c t f)→(D t=false∨Z t=true)→w'.heap[b]?=some (Obj.cells c t f)
theorem Chg.ext {Z:TypeId→Bool} (h:Chg D Z w w'):Ext Z w w':=⟨h.size,fun b c t f hb ht=>h.block b c t f hb (.inr ht)⟩
theorem Chg.of_below {Z:TypeId→Bool} (h:Below w.heap.size w w'):Chg D Z w w':=⟨h.size,fun b _ _ _ hb _=>(h.block b (lt_of_heap hb)).trans hb⟩
theorem Ext.drew (h:Ext D u w):Ext D u w.drew:=⟨h.size,h.block⟩
end
structure Bs where
  w:World
  X:Nat→Prop
structure Bx (B:Bs) (w:World):Prop where
  os:w.os=B.w.os
  tape:w.tape=B.w.tape
  output:w.output=B.w.output
  size:B.w.heap.size≤w.heap.size
  block:∀ k,k < B.w.heap.size→¬ B.X k→w.heap[k]?=B.w.heap[k]?
abbrev Bs.of (w:World):Bs:=⟨w,fun _=>False⟩
section
variable {B:Bs} {w0 w w':World}
theorem Bx.refl (B:Bs):Bx B B.w:=⟨rfl,rfl,rfl,Nat.le_refl _,fun _ _ _=>rfl⟩
theorem Bx.on (h:Bx B w) (h':Below w.heap.size w w'):Bx B w':=⟨h'.os.trans h.os,h'.tape.trans h.tape,h'.output.trans h.output,Nat.le_trans h.size h'.size,fun k hk hx=>(h'.block k (Nat.lt_of_lt_of_le hk h.size)).trans (h.block k hk hx)⟩
theorem Bx.drew (h:Bx B w):Bx B w.drew:=⟨h.os,h.tape,h.output,h.size,h.block⟩
theorem Bx.bel (h:Bx (Bs.of w0) w):Below w0.heap.size w0 w:=⟨h.os,h.tape,h.output,h.size,fun k hk=>h.block k hk (fun e=>e)⟩
theorem Bx.weak {X:Nat→Prop} (h:Bx ⟨w0,X⟩ w) {X':Nat→Prop} (hx:∀ b,X b→X' b):Bx ⟨w0,X'⟩ w:=⟨h.os,h.tape,h.output,h.size,fun k hk hn=>h.block k hk (fun e=>hn (hx k e))⟩
theorem Bx.setRow (h:Bx B w) {g:Nat} (hg:B.w.heap.size≤g∨B.X g) (c:Array Value):Bx B (w.setRow g c):=⟨h.os,h.tape,h.output,by simpa [World.setRow] using h.size,fun k hk hx=>by
  have:(w.setRow g c).heap[k]?=w.heap[k]?:=by
    unfold World.setRow
    simp only [Array.getElem?_modify]
    rw [if_neg]
    intro e
    subst e
    rcases hg with hg | hg
    · omega
    · exact hx hg
  rw [this]; exact h.block k hk hx⟩
end
def NotCells (o:Obj):Prop:=∀ c t f,o≠Obj.cells c t f
structure Gh where
  w:World
  S:Nat→Prop
def Gh.more (u:Gh) (w w':World):Gh:=⟨w',fun b=>u.S b∨(w.heap.size≤b∧b < w'.heap.size)⟩
structure ExtS (D:TypeId→Bool) (u:Gh) (w:World):Prop where
  size:u.w.heap.size≤w.heap.size
  block:∀ (b:Nat) (c:Array Value) (t:TypeId) (f:Nat × Nat),u.w.heap[b]?=some (Obj.cells c t f)→(D t=true∨u.S b)→w.heap[b]?=some (Obj.cells c t f)
  obj:∀ (b:Nat) (o:Obj),u.w.heap[b]?=some o→NotCells o→w.heap[b]?=some o
structure ExtG (D:TypeId→Bool) (u u':Gh):Prop where
  s:ExtS D u u'.w
  sh:∀ b,u.S b→u'.S b
structure ChgS (D Z:TypeId→Bool) (S:Nat→Prop) (w w':World):Prop where
  size:w.heap.size≤w'.heap.size
  block:∀ (b:Nat) (c:Array Value) (t:TypeId) (f:Nat × Nat),w.heap[b]?=some (Obj.cells c t f)→((D t=false∧¬ S b)∨Z t=true)→w'.heap[b]?=some (Obj.cells c t f)
section
variable {D Z:TypeId→Bool} {S:Nat→Prop} {u u' u2:Gh} {w w':World}
theorem Chg.s (h:Chg D Z w w'):ChgS D Z S w w':=⟨h.size,fun b c t f hb hc=>h.block b c t f hb (hc.imp And.left id)⟩
theorem ChgS.ext (h:ChgS D Z S w w'):Ext Z w w':=⟨h.size,fun b c t f hb ht=>h.block b c t f hb (.inr ht)⟩
theorem ChgS.of_below (h:Below w.heap.size w w'):ChgS D Z S w w':=(Chg.of_below h).s
theorem ExtS.refl (D:TypeId→Bool) (u:Gh):ExtS D u u.w:=⟨Nat.le_refl _,fun _ _ _ _ h _=>h,fun _ _ h _=>h⟩
theorem ExtS.below (h:ExtS D u w) (hb:Below w.heap.size w w'):ExtS D u w':=⟨Nat.le_trans h.size hb.size,fun b c t f h1 h2=>by
  have:=h.block b c t f h1 h2
  rw [hb.block b (lt_of_heap this)]; exact this,fun b o h1 h2=>by
  have:=h.obj b o h1 h2
  rw [hb.block b (Array.getElem?_eq_some_iff.1 this).1]; exact this⟩
theorem ExtS.ext (h:ExtS D u w):Ext D u.w w:=⟨h.size,fun b c t f h1 h2=>h.block b c t f h1 (.inl h2)⟩
theorem ExtS.drew (h:ExtS D u w):ExtS D u w.drew:=⟨h.size,h.block,h.obj⟩
theorem ExtG.refl (D:TypeId→Bool) (u:Gh):ExtG D u u:=⟨ExtS.refl D u,fun _ h=>h⟩
theorem ExtG.ext (h:ExtG D u u') (h':ExtS D u' w):ExtS D u w:=⟨Nat.le_trans h.s.size h'.size,fun b c t f h1 h2=>h'.block b c t f (h.s.block b c t f h1 h2) (h2.imp id (h.sh b)),fun b o h1 h2=>h'.obj b o (h.s.obj b o h1 h2) h2⟩
theorem ExtG.trans (h:ExtG D u u') (h':ExtG D u' u2):ExtG D u u2:=⟨h.ext h'.s,fun b hb=>h'.sh b (h.sh b hb)⟩
theorem ExtS.more (h:ExtS D u w) (hb:Below w.heap.size w w'):ExtG D u (u.more w w'):=⟨h.below hb,fun _ h=>.inl h⟩
end
def St.at (st:St) (ρ:List Nat) (E:Env) (j:Nat):Option (Nat × Array Value × TypeId):=
  match st.blocks[j]? with
  | some (some b)=>some (ρ.getD j 0,(b.1.map (A.den ρ E)).toArray,b.2)
  | _=>none
theorem St.at_of {st:St} {ρ:List Nat} {E:Env} {j:Nat} {b:List A × TypeId} (h:st.blocks[j]?=some (some b)):st.at ρ E j=some (ρ.getD j 0,(b.1.map (A.den ρ E)).toArray,b.2):=by unfold St.at; rw [h]
theorem St.of_at {st:St} {ρ:List Nat} {E:Env} {j:Nat} {x:Nat × Array Value × TypeId} (h:st.at ρ E j=some x):∃ b,st.blocks[j]?=some (some b)∧x=(ρ.getD j 0,(b.1.map (A.den ρ E)).toArray,b.2):=by
  unfold St.at at h
  split at h
  · rename_i b hb; exact ⟨b,hb,(Option.some.inj h).symm⟩
  · cases h
theorem Bl.has_iff {bl:Bl} {j:Nat}:bl.has j=true↔∃ b,bl[j]?=some (some b):=by
  unfold Bl.has
  split
  · rename_i b hb; exact ⟨fun _=>⟨b,hb⟩,fun _=>rfl⟩
  · rename_i hb; exact ⟨fun h=>(by cases h),fun ⟨b,h⟩=>absurd h (hb b)⟩
structure Inv (D:TypeId→Bool) (w0:Bs) (st:St) (ρ:List Nat) (E:Env) (u:Gh) (a:Act) (w:World):Prop where
  nb:ρ.length=st.blocks.length
  nv:E.length=st.nv
  plain:∀ cs∈E,∀ v∈cs,v.oneCell'=true
  size:a.tmps.size=st.tmps.length
  tmps:∀ i,(st.tmps.getD i .u).Rep ρ E (a.tmps.getD i undef)
  defers:a.defers=[]
  blk:∀ j b c t,st.at ρ E j=some (b,c,t)→w.heap[b]?=some (Obj.cells c t (0,0))∧w0.w.heap.size≤b∧D t=false∧¬ u.S b
  inj:∀ i j,st.blocks.has i=true→st.blocks.has j=true→ρ.getD i 0=ρ.getD j 0→i=j
  below:Bx w0 w
  ext:ExtS D u w
  sh:∀ b,u.S b→b < u.w.heap.size
section inv
variable {D:TypeId→Bool} {w0:Bs} {w w':World} {u:Gh} {st:St} {ρ:List Nat} {E:Env} {a:Act} {P:Program}
theorem Inv.ev (h:Inv D w0 st ρ E u a w) (x:Operand):(st.ev x).Rep ρ E (a.eval x):=by
  cases x with
  | tmp t=>exact h.tmps t
  | const v=>
    intro hA
    cases v <;> first | rfl | (simp [St.ev,SV.isAny] at hA; done) | (simp [St.ev,SV.den,V1.den,Act.eval,Function.comp_def,A.den])
  | global g=>exact fun _=>rfl
  | func f=>exact fun _=>rfl
theorem Inv.ev_v (h:Inv D w0 st ρ E u a w) {x:Operand} {y:V1} (e:st.ev x=.v y):a.eval x=y.den ρ E:=by
  have:=h.ev x; rw [e] at this; exact this rfl
theorem Inv.ev_t (h:Inv D w0 st ρ E u a w) {x:Operand} {l:List V1} (e:st.ev x=.t l):a.eval x=.tuple (l.map (V1.den ρ E)).toArray:=by
  have:=h.ev x; rw [e] at this; exact this rfl
theorem Inv.arg (h:Inv D w0 st ρ E u a w) {x:Operand} {y:V1} (e:st.arg x=some y):a.eval x=y.den [] E:=by
  unfold St.arg at e
  split at e
  · rename_i z hz
    split at e
    · rename_i hn; cases e; rw [h.ev_v hz,V1.den_noPtr hn]
    · cases e
  · cases e
theorem Inv.args (h:Inv D w0 st ρ E u a w):∀ {xs:List Operand} {ys:List V1},st.args xs=some ys→xs.map a.eval=ys.map (V1.den [] E)
  | [],ys,e=>by cases e; rfl
  | x::xs,ys,e=>by
    unfold St.args at e
    split at e
    · rename_i y ys' h1 h2
      cases e
      simp only [List.map_cons,h.arg h1,h.args h2]
    · cases e
theorem Inv.put (h:Inv D w0 st ρ E u a w) {s:SV} {v:Value} (hs:s.Rep ρ E v) (dst:Option Tmp):Inv D w0 (st.put dst s) ρ E u (a.put dst v) w:=by
  cases dst with
  | none=>exact h
  | some d=>
    refine ⟨h.nb,h.nv,h.plain,?_,?_,h.defers,h.blk,h.inj,h.below,h.ext,h.sh⟩
    · simp [St.put,Act.put,h.size]
    · intro i
      have hi:=h.tmps i
      simp only [St.put,Act.put,List.getD_eq_getElem?_getD,Array.getD_eq_getD_getElem?,List.getElem?_set,Array.getElem?_setIfInBounds] at hi ⊢
      by_cases hd:d=i
      · subst hd
        by_cases hl:d < st.tmps.length
        · rw [if_pos rfl,if_pos rfl,if_pos hl,if_pos (by rw [h.size]; exact hl)]; exact hs
        · rw [if_pos rfl,if_pos rfl,if_neg hl,if_neg (by rw [h.size]; exact hl)]; exact fun _=>rfl
      · rw [if_neg hd,if_neg hd]; exact hi
theorem St.at_put (st:St) (dst:Option Tmp) (s:SV) (j:Nat):(st.put dst s).at ρ E j=st.at ρ E j:=by cases dst <;> rfl
theorem St.sc_tmps (h:st.sc=true) (i:Nat):(st.tmps.getD i .u).atoms.all (A.sc st.nv st.blocks)=true:=by
  simp only [St.sc,Bool.and_eq_true,List.all_eq_true] at h
  rw [List.getD_eq_getElem?_getD]
  cases hi:st.tmps[i]? with
  | none=>rfl
  | some s=>exact List.all_eq_true.2 (h.1 s (List.mem_of_getElem? hi))
theorem St.sc_blk (h:st.sc=true) {j:Nat} {b:List A × TypeId} (hj:st.blocks[j]?=some (some b)):b.1.all (A.sc st.nv st.blocks)=true:=by
  simp only [St.sc,Bool.and_eq_true] at h
  exact List.all_eq_true.1 h.2 (some b) (List.mem_of_getElem? hj)
theorem Rep_ext {s:SV} {v:Value} {ρ':List Nat} {e:Env} {bl:Bl} (h:s.Rep ρ E v) (hs:s.atoms.all (A.sc E.length bl)=true) (hρ:∀ j,bl.has j=true→ρ'.getD j 0=ρ.getD j 0):s.Rep ρ' (E++e) v:=by
  intro hA; rw [SV.den_ext hs hρ]; exact h hA
theorem St.at_ext (hs:st.sc=true) (hv:E.length=st.nv) (ρ':List Nat) (hρ:∀ j,st.blocks.has j=true→ρ'.getD j 0=ρ.getD j 0) (e:Env) (j:Nat):st.at ρ' (E++e) j=st.at ρ E j:=by
  unfold St.at
  split
  · rename_i b hb
    rw [den_list_ext (by rw [hv]; exact St.sc_blk hs hb) hρ,hρ j (Bl.has_iff.2 ⟨b,hb⟩)]
  · rfl
section sub
variable {i n:Nat} {b:Value}
theorem A.den_sub (h:A.den [] E (.c i n)=b) (x:A):(x.sub i n b).den ρ E=x.den ρ E:=by
  cases x with
  | c i' n'=>
    simp only [A.sub]
    split
    · rename_i e
      simp only [Bool.and_eq_true,beq_iff_eq] at e
      obtain ⟨rfl,rfl⟩:=e
      exact h.symm
    · rfl
  | k v=>rfl
  | p j o=>rfl
theorem den_list_sub (h:A.den [] E (.c i n)=b) (l:List A):(l.map (A.sub i n b)).map (A.den ρ E)=l.map (A.den ρ E):=by
  rw [List.map_map]; exact List.map_congr_left fun x _=>A.den_sub h x
theorem V1.den_sub (h:A.den [] E (.c i n)=b) (x:V1):(x.sub i n b).den ρ E=x.den ρ E:=by
  cases x with
  | s a=>exact A.den_sub h a
  | g l=>simp only [V1.sub,V1.den,den_list_sub h]
theorem Rep_sub (h:A.den [] E (.c i n)=b) {s:SV} {v:Value} (hs:s.Rep ρ E v):(s.sub i n b).Rep ρ E v:=by
  intro _
  cases s with
  | v x=>simp only [SV.sub,SV.den,V1.den_sub h]; exact hs rfl
  | t l=>
    have e:(l.map (V1.sub i n b)).map (V1.den ρ E)=l.map (V1.den ρ E):=by rw [List.map_map]; exact List.map_congr_left fun x _=>V1.den_sub h x
    simp only [SV.sub,SV.den,e]; exact hs rfl
  | u=>exact hs rfl
  | any=>rename_i hA; simp [SV.sub,SV.isAny] at hA
theorem St.at_sub (h:A.den [] E (.c i n)=b) (j:Nat):(st.sub i n b).at ρ E j=st.at ρ E j:=by
  unfold St.at St.sub
  simp only [List.getElem?_map]
  cases st.blocks[j]? with
  | none=>rfl
  | some x=>
    cases x with
    | none=>rfl
    | some x=>simp only [Option.map_some,den_list_sub h]
theorem Bl.has_map (f:List A × TypeId→List A × TypeId) (bl:Bl) (j:Nat):Bl.has (bl.map fun x=>x.map f) j=bl.has j:=by
  unfold Bl.has
  rw [List.getElem?_map]
  cases bl[j]? with
  | none=>rfl
  | some x=>cases x <;> rfl
theorem Inv.sub (hI:Inv D w0 st ρ E u a w) (h:A.den [] E (.c i n)=b):Inv D w0 (st.sub i n b) ρ E u a w:=by
  refine ⟨by simp [St.sub,hI.nb],hI.nv,hI.plain,by simp [St.sub,hI.size],fun k=>?_,hI.defers,fun j b' c t hj=>hI.blk j b' c t (by rw [← St.at_sub h]; exact hj),fun i j hi hj=>hI.inj i j (by rw [← Bl.has_map]; exact hi) (by rw [← Bl.has_map]; exact hj),hI.below,hI.ext,hI.sh⟩
  have:=Rep_sub h (hI.tmps k)
  simp only [St.sub,List.getD_eq_getElem?_getD,List.getElem?_map] at this ⊢
  cases hk:st.tmps[k]? with
  | none=>rw [hk] at this; exact this
  | some s=>rw [hk] at this; exact this
theorem SV.sub_any (s:SV):(s.sub i n b).isAny=s.isAny:=by cases s <;> rfl
theorem Rep_unsub (h:A.den [] E (.c i n)=b) {s:SV} {v:Value} (hs:(s.sub i n b).Rep ρ E v):s.Rep ρ E v:=by
  intro hA
  have hs:=hs (by rw [SV.sub_any]; exact hA)
  cases s with
  | v x=>simpa only [SV.sub,SV.den,V1.den_sub h] using hs
  | t l=>
    have e:(l.map (V1.sub i n b)).map (V1.den ρ E)=l.map (V1.den ρ E):=by rw [List.map_map]; exact List.map_congr_left fun x _=>V1.den_sub h x
    simpa only [SV.sub,SV.den,e] using hs
  | u=>exact hs
  | any=>simp [SV.isAny] at hA
theorem Inv.unsub (hI:Inv D w0 (st.sub i n b) ρ E u a w) (h:A.den [] E (.c i n)=b):Inv D w0 st ρ E u a w:=by
  refine ⟨by have:=hI.nb; simpa [St.sub] using this,hI.nv,hI.plain,by have:=hI.size; simpa [St.sub] using this,fun k=>?_,hI.defers,fun j b' c t hj=>hI.blk j b' c t (by rw [St.at_sub h]; exact hj),fun i' j hi hj=>hI.inj i' j (by unfold St.sub; rw [Bl.has_map]; exact hi) (by unfold St.sub; rw [Bl.has_map]; exact hj),hI.below,hI.ext,hI.sh⟩
  have:=hI.tmps k
  refine Rep_unsub h ?_
  simp only [St.sub,List.getD_eq_getElem?_getD,List.getElem?_map] at this ⊢
  cases hk:st.tmps[k]? with
  | none=>rw [hk] at this; exact this
  | some s=>rw [hk] at this; exact this
theorem A.sc_sub {nv:Nat} {bl:Bl} {x:A} (h:x.sc nv bl=true):(x.sub i n b).sc nv bl=true:=by
  cases x with
  | c i' n'=>
    show A.sc nv bl (if i' == i && n' == n then .k b else .c i' n')=true
    split
    · rfl
    · exact h
  | k v=>rfl
  | p j o=>exact h
theorem A.sc_bl {nv:Nat} {bl bl':Bl} (hb:∀ j,bl'.has j=bl.has j) (x:A):x.sc nv bl'=x.sc nv bl:=by
  cases x <;> simp [A.sc,hb]
theorem St.sc_sub (h:st.sc=true):(st.sub i n b).sc=true:=by
  have hb:∀ j,(st.sub i n b).blocks.has j=st.blocks.has j:=fun j=>by unfold St.sub; rw [Bl.has_map]
  have hl:∀ l:List A,l.all (A.sc st.nv st.blocks)=true→(l.map (A.sub i n b)).all (A.sc st.nv (st.sub i n b).blocks)=true:=fun l hl=>by
    rw [List.all_eq_true] at hl ⊢
    intro x hx
    obtain ⟨y,hy,rfl⟩:=List.mem_map.1 hx
    rw [A.sc_bl hb]; exact A.sc_sub (hl y hy)
  have hv:∀ x:V1,x.atoms.all (A.sc st.nv st.blocks)=true→(x.sub i n b).atoms.all (A.sc st.nv (st.sub i n b).blocks)=true:=fun x hx=>by
    cases x with
    | s a=>simpa [V1.sub,V1.atoms] using hl [a] (by simpa [V1.atoms] using hx)
    | g l=>exact hl l hx
  unfold St.sc at h
  rw [Bool.and_eq_true,List.all_eq_true,List.all_eq_true] at h
  show (_ && _)=true
  rw [Bool.and_eq_true,List.all_eq_true,List.all_eq_true]
  constructor
  · intro s hs
    obtain ⟨t,ht,rfl⟩:=List.mem_map.1 (show s∈st.tmps.map (SV.sub i n b) from hs)
    have:=h.1 t ht
    cases t with
    | v x=>exact hv x this
    | t l=>
      show ((l.map (V1.sub i n b)).flatMap V1.atoms).all _=true
      rw [List.all_eq_true]
      intro y hy
      obtain ⟨x,hx,hy⟩:=List.mem_flatMap.1 hy
      obtain ⟨z,hz,rfl⟩:=List.mem_map.1 hx
      have hz':z.atoms.all (A.sc st.nv st.blocks)=true:=by
        rw [List.all_eq_true] at this ⊢
        exact fun q hq=>this q (List.mem_flatMap.2 ⟨z,hz,hq⟩)
      exact List.all_eq_true.1 (hv z hz') y hy
    | u=>rfl
    | any=>rfl
  · intro x hx
    obtain ⟨y,hy,rfl⟩:=List.mem_map.1 (show x∈st.blocks.map (fun x=>x.map fun x=>(x.1.map (A.sub i n b),x.2)) from hx)
    cases y with
    | none=>rfl
    | some y=>exact hl y.1 (h.2 _ hy)
end sub
theorem Inv.more (h:Inv D w0 st ρ E u a w) (hs:st.sc=true) {cs:List Value} (hc:∀ v∈cs,v.oneCell'=true):Inv D w0 { st with nv:=st.nv+1:St } ρ (E++[cs]) u a w:=by
  have hat:∀ j,({ st with nv:=st.nv+1:St }).at ρ (E++[cs]) j=st.at ρ E j:=fun j=>St.at_ext hs h.nv ρ (fun _ _=>rfl) [cs] j
  refine ⟨h.nb,by simp [h.nv],?_,h.size,?_,h.defers,fun j b c t hj=>h.blk j b c t (by rw [← hat]; exact hj),h.inj,h.below,h.ext,h.sh⟩
  · intro cs' hm v hv
    rcases List.mem_append.1 hm with hm | hm
    · exact h.plain cs' hm v hv
    · rw [List.mem_singleton.1 hm] at hv; exact hc v hv
  · intro i
    exact Rep_ext (bl:=st.blocks) (h.tmps i) (by rw [h.nv]; exact St.sc_tmps hs i) (fun _ _=>rfl)
theorem not_more {b:Nat} (hb:b < w.heap.size) (h:¬ u.S b):¬ (u.more w w').S b:=fun h'=>h'.elim h (fun h1=>by have:=h1.1; omega)
theorem Inv.more_sh (h:Inv D w0 st ρ E u a w) (hs:w.heap.size≤w'.heap.size):∀ b,(u.more w w').S b→b < (u.more w w').w.heap.size:=fun b hb=>hb.elim (fun h1=>Nat.lt_of_lt_of_le (h.sh b h1) (Nat.le_trans h.ext.size hs)) And.right
theorem Inv.called (h:Inv D w0 st ρ E u a w) (hb:Below w.heap.size w w'):Inv D w0 st ρ E (u.more w w') a w':=by
  refine ⟨h.nb,h.nv,h.plain,h.size,h.tmps,h.defers,fun j b c t hj=>?_,h.inj,h.below.on hb,ExtS.refl _ _,h.more_sh hb.size⟩
  obtain ⟨h1,h2,h3,h4⟩:=h.blk j b c t hj
  exact ⟨(hb.block b (lt_of_heap h1)).trans h1,h2,h3,not_more (lt_of_heap h1) h4⟩
theorem Inv.chg {Z:TypeId→Bool} (h:Inv D w0 st ρ E u a w) (hc:ChgS D Z u.S w w') (hb:Bx w0 w'):Inv D w0 st ρ E (u.more w w') a w':=by
  refine ⟨h.nb,h.nv,h.plain,h.size,h.tmps,h.defers,fun j b c t hj=>?_,h.inj,hb,ExtS.refl _ _,h.more_sh hc.size⟩
  obtain ⟨h1,h2,h3,h4⟩:=h.blk j b c t hj
  exact ⟨hc.block b c t _ h1 (.inl ⟨h3,h4⟩),h2,h3,not_more (lt_of_heap h1) h4⟩
theorem Inv.drew (h:Inv D w0 st ρ E u a w):Inv D w0 st ρ E u a w.drew:=
  ⟨h.nb,h.nv,h.plain,h.size,h.tmps,h.defers,fun j b c t hj=>h.blk j b c t hj,h.inj,h.below.drew,h.ext.drew,h.sh⟩
theorem getD_set {ρ:List Nat} {d x:Nat} (j:Nat):(ρ.set d x).getD j 0=if d=j∧d < ρ.length then x else ρ.getD j 0:=by
  simp only [List.getD_eq_getElem?_getD,List.getElem?_set]
  by_cases h:d=j
  · subst h
    by_cases hl:d < ρ.length
    · simp [hl]
    · simp [hl]
  · simp [h]
theorem Inv.alloc (h:Inv D w0 st ρ E u a w) (hs:st.sc=true) {d:Nat} (hd:st.blocks[d]?=some none) {l:List A} {t:TypeId} (hD:D t=false)
    {c:Array Value} (hc:c=(l.map (A.den (ρ.set d w.heap.size) E)).toArray) :
    Inv D w0 { st with blocks:=st.blocks.set d (some (l,t)):St } (ρ.set d w.heap.size) E u a (w.alloc (.cells c t)):=by
  have hbl:=bel_alloc w (.cells c t)
  have hdl:d < ρ.length:=by rw [h.nb]; exact (List.getElem?_eq_some_iff.1 hd).1
  have hdb:d < st.blocks.length:=(List.getElem?_eq_some_iff.1 hd).1
  have hnd:∀ j,st.blocks.has j=true→d≠j:=by
    intro j hj e
    subst e
    obtain ⟨b,hb⟩:=Bl.has_iff.1 hj
    rw [hd] at hb; cases hb
  have hρ:∀ j,st.blocks.has j=true→(ρ.set d w.heap.size).getD j 0=ρ.getD j 0:=fun j hj=>by
    rw [getD_set,if_neg (fun e=>hnd j hj e.1)]
  have hnew:(ρ.set d w.heap.size).getD d 0=w.heap.size:=by rw [getD_set,if_pos ⟨rfl,hdl⟩]
  have hE:E=E++[]:=(List.append_nil E).symm
  have hat:∀ j,d≠j→({ st with blocks:=st.blocks.set d (some (l,t)):St }).at (ρ.set d w.heap.size) E j=st.at ρ E j:=by
    intro j hj
    have e1:=St.at_ext hs h.nv (ρ.set d w.heap.size) hρ [] j
    rw [List.append_nil] at e1
    rw [← e1]
    unfold St.at
    simp only [List.getElem?_set_ne hj]
  have hhas:∀ j,Bl.has (st.blocks.set d (some (l,t))) j=true→j=d∨st.blocks.has j=true:=by
    intro j hj
    by_cases e:d=j
    · exact .inl e.symm
    · right
      unfold Bl.has at hj ⊢
      rw [List.getElem?_set_ne e] at hj; exact hj
  have hold:∀ j,st.blocks.has j=true→ρ.getD j 0 < w.heap.size:=by
    intro j hj
    obtain ⟨b,hb⟩:=Bl.has_iff.1 hj
    exact lt_of_heap (h.blk j _ _ _ (St.at_of hb)).1
  refine ⟨by simp [h.nb],h.nv,h.plain,h.size,?_,h.defers,?_,?_,h.below.on hbl,h.ext.below hbl,h.sh⟩
  · intro i
    have:=Rep_ext (bl:=st.blocks) (ρ':=ρ.set d w.heap.size) (e:=[]) (h.tmps i) (by rw [h.nv]; exact St.sc_tmps hs i) hρ
    rw [List.append_nil] at this; exact this
  · intro j b c' t' hj
    by_cases hdj:d=j
    · subst hdj
      rw [St.at_of (b:=(l,t)) (by simp [hdb])] at hj
      simp only [Option.some.injEq,Prod.mk.injEq] at hj
      obtain ⟨rfl,rfl,rfl⟩:=hj
      rw [hnew]
      refine ⟨?_,h.below.size,hD,fun hs=>by have:=h.sh _ hs; have:=h.ext.size; omega⟩
      rw [← hc]; exact new_block _ _
    · rw [hat j hdj] at hj
      obtain ⟨h1,h2⟩:=h.blk j b c' t' hj
      exact ⟨(hbl.block b (lt_of_heap h1)).trans h1,h2⟩
  · intro i j hi hj he
    rcases hhas i hi with rfl | hi' <;> rcases hhas j hj with rfl | hj'
    · rfl
    · rw [hnew,hρ j hj'] at he; have:=hold j hj'; omega
    · rw [hnew,hρ i hi'] at he; have:=hold i hi'; omega
    · rw [hρ i hi',hρ j hj'] at he; exact h.inj i j hi' hj' he
theorem Inv.store (h:Inv D w0 st ρ E u a w) {j:Nat} {b:List A × TypeId} (hj:st.blocks[j]?=some (some b)) (l:List A) {c:Array Value} (hc:c=(l.map (A.den ρ E)).toArray) :
    Inv D w0 { st with blocks:=st.blocks.set j (some (l,b.2)):St } ρ E u a (w.setRow (ρ.getD j 0) c):=by
  have hat:=St.at_of (ρ:=ρ) (E:=E) hj
  obtain ⟨h1,h2,h3⟩:=h.blk j _ _ _ hat
  have hlj:j < st.blocks.length:=(List.getElem?_eq_some_iff.1 hj).1
  have hoth:∀ k,k≠ρ.getD j 0→(w.setRow (ρ.getD j 0) c).heap[k]?=w.heap[k]?:=by
    intro k hk
    unfold World.setRow
    simp only [Array.getElem?_modify]
    rw [if_neg (fun e=>hk e.symm)]
  have hsz:(w.setRow (ρ.getD j 0) c).heap.size=w.heap.size:=by simp [World.setRow]
  have hhas:∀ i,Bl.has (st.blocks.set j (some (l,b.2))) i=true→st.blocks.has i=true:=by
    intro i hi
    by_cases e:j=i
    · subst e; exact Bl.has_iff.2 ⟨b,hj⟩
    · unfold Bl.has at hi ⊢
      rw [List.getElem?_set_ne e] at hi; exact hi
  refine ⟨by simp [h.nb],h.nv,h.plain,h.size,h.tmps,h.defers,?_,fun i k hi hk=>h.inj i k (hhas i hi) (hhas k hk),?_,?_,h.sh⟩
  · intro i b' c' t' hi
    by_cases hij:j=i
    · subst hij
      rw [St.at_of (b:=(l,b.2)) (by simp [hlj])] at hi
      simp only [Option.some.injEq,Prod.mk.injEq] at hi
      obtain ⟨rfl,rfl,rfl⟩:=hi
      refine ⟨?_,h2,h3⟩
      rw [← hc]; exact setRow_heap w _ _ c _ _ h1
    · have e:({ st with blocks:=st.blocks.set j (some (l,b.2)):St }).at ρ E i=st.at ρ E i:=by
        unfold St.at; simp only [List.getElem?_set_ne hij]
      rw [e] at hi
      obtain ⟨g1,g2⟩:=h.blk i b' c' t' hi
      refine ⟨?_,g2⟩
      rw [hoth b' ?_]; exact g1
      intro eb
      obtain ⟨x,hx,hxe⟩:=St.of_at hi
      simp only [Prod.mk.injEq] at hxe
      exact hij (h.inj j i (Bl.has_iff.2 ⟨b,hj⟩) (Bl.has_iff.2 ⟨x,hx⟩) (by rw [← hxe.1]; exact eb.symm))
  · refine ⟨h.below.os,h.below.tape,h.below.output,by rw [hsz]; exact h.below.size,fun k hk hx=>?_⟩
    rw [hoth k (by omega)]; exact h.below.block k hk hx
  · refine ⟨by rw [hsz]; exact h.ext.size,fun k c' t' f hk ht=>?_,fun k o hk hn=>by
      have:=h.ext.obj k o hk hn
      rw [hoth k ?_]; exact this
      intro e
      rw [e,h1] at this
      exact hn _ _ _ (Option.some.inj this).symm⟩
    have:=h.ext.block k c' t' f hk ht
    rw [hoth k ?_]; exact this
    intro e
    rw [e,h1] at this
    simp only [Option.some.injEq,Obj.cells.injEq] at this
    rcases ht with ht | ht
    · rw [this.2.1,ht] at h3; cases h3.1
    · exact h3.2 (e ▸ ht)
structure Adv (D:TypeId→Bool) (st:St) (ρ:List Nat) (E:Env) (u:Gh) (st':St) (ρ':List Nat) (E':Env) (u':Gh):Prop where
  env:∃ e,E'=E++e
  ext:Ext D u.w u'.w
theorem Adv.put (st:St) (ρ:List Nat) (E:Env) (u:Gh) (dst:Option Tmp) (s:SV):Adv D st ρ E u (st.put dst s) ρ E u:=⟨⟨[],by simp⟩,Ext.refl _ _⟩
theorem Adv.more (st:St) (ρ:List Nat) (E:Env) {u u':Gh} (h:Ext D u.w u'.w) (cs:List Value) (n:Nat) (dst:Option Tmp) (s:SV):Adv D st ρ E u ({ st with nv:=n:St }.put dst s) ρ (E++[cs]) u':=⟨⟨[cs],rfl⟩,h⟩
theorem Adv.same (st st':St) (ρ ρ':List Nat) (E:Env) (u:Gh):Adv D st ρ E u st' ρ' E u:=⟨⟨[],by simp⟩,Ext.refl _ _⟩
theorem Adv.trans {st1 st2 st3:St} {ρ1 ρ2 ρ3:List Nat} {E1 E2 E3:Env} {u1 u2 u3:Gh} (h:Adv D st1 ρ1 E1 u1 st2 ρ2 E2 u2) (h':Adv D st2 ρ2 E2 u2 st3 ρ3 E3 u3):Adv D st1 ρ1 E1 u1 st3 ρ3 E3 u3:=by
  obtain ⟨e,he⟩:=h.env
  obtain ⟨e',he'⟩:=h'.env
  exact ⟨⟨e++e',by rw [he',he,List.append_assoc]⟩,h.ext.trans h'.ext⟩
theorem Adv.refl (D:TypeId→Bool) (st:St) (ρ:List Nat) (E:Env) (u:Gh):Adv D st ρ E u st ρ E u:=⟨⟨[],by simp⟩,Ext.refl _ _⟩
theorem Adv.of_sub {st':St} {ρ':List Nat} {E':Env} {u':Gh} {i n:Nat} {b:Value} (h:Adv D (st.sub i n b) ρ E u st' ρ' E' u'):Adv D st ρ E u st' ρ' E' u':=⟨h.env,h.ext⟩
theorem Inv.drop (h:Inv D w0 st ρ E u a w) (d:Nat):Inv D w0 (st.drop d) ρ E u a w:=by
  have hat:∀ j x,(st.drop d).at ρ E j=some x→st.at ρ E j=some x:=by
    intro j x hx
    unfold St.at St.drop at hx
    by_cases e:d=j
    · subst e
      by_cases hl:d < st.blocks.length
      · simp [hl] at hx
      · simp [hl] at hx
    · simp only [List.getElem?_set_ne e] at hx; exact hx
  have hhas:∀ j,(st.drop d).blocks.has j=true→st.blocks.has j=true:=by
    intro j hj
    unfold St.drop Bl.has at hj
    by_cases e:d=j
    · subst e
      by_cases hl:d < st.blocks.length
      · simp [hl] at hj
      · simp [hl] at hj
    · simp only [List.getElem?_set_ne e] at hj; exact hj
  refine ⟨by simp [St.drop,h.nb],h.nv,h.plain,by simp [St.drop,h.size],fun i=>?_,h.defers,fun j b c t hj=>h.blk j b c t (hat j _ hj),fun i j hi hj he=>h.inj i j (hhas i hi) (hhas j hj) he,h.below,h.ext,h.sh⟩
  have:=h.tmps i
  unfold St.drop
  simp only [List.getD_eq_getElem?_getD] at this ⊢
  by_cases e:d=i
  · subst e
    by_cases hl:d < st.tmps.length
    · intro hA; simp [hl,SV.isAny] at hA
    · rw [List.set_eq_of_length_le (by omega)]; exact this
  · rw [List.getElem?_set_ne e]; exact this
theorem St.at_drop {d j:Nat} (h:d≠j):(st.drop d).at ρ E j=st.at ρ E j:=by
  unfold St.at St.drop
  simp only [List.getElem?_set_ne h]
theorem St.put_drop (st:St) (d:Nat) (bl:Bl) (s:SV):({ st.drop d with blocks:=bl:St }).put (some d) s=({ st with blocks:=bl:St }).put (some d) s:=by
  simp [St.drop,St.put]
end inv
section heads
theorem beqV_ok:∀ {v u:Value},beqV v u=true→v=u:=by
  intro v u h
  unfold beqV at h
  split at h
  · simp at h; rw [h]
  · simp at h; rw [h.1,h.2]
  · simp at h; rw [h.1,h.2]
  · rename_i s r
    simp only [beq_iff_eq] at h
    cases s; cases r
    congr 1
    congr 1
    exact Array.toList_inj.1 h
  · rfl
  · rfl
  · simp at h; rw [h.1,h.2]
  · rfl
  · simp at h; rw [h]
  · cases h
theorem beqA_ok {x y:A} (h:beqA x y=true):x=y:=by
  unfold beqA at h
  split at h
  · simp at h; rw [h.1,h.2]
  · rw [beqV_ok h]
  · simp at h; rw [h.1,h.2]
  · cases h
def Mt (n:Nat) (vs:List A) (x y:A):Prop:=(∃ m,x=.c n m∧vs[m]?=some y∧y.noPtr=true∧y.fine=true)∨(x=y∧∀ m,x≠.c n m)
theorem Mt.mono {n:Nat} {vs e:List A} {x y:A} (h:Mt n vs x y):Mt n (vs++e) x y:=by
  rcases h with ⟨m,hx,hm,r⟩ | h
  · exact .inl ⟨m,hx,by rw [List.getElem?_append_left (List.getElem?_eq_some_iff.1 hm).1]; exact hm,r⟩
  · exact .inr h
def MtL (n:Nat) (vs:List A):List A→List A→Prop
  | [],[]=>True
  | x::xs,y::ys=>Mt n vs x y∧MtL n vs xs ys
  | _,_=>False
theorem MtL.mono {n:Nat} {vs e:List A}:∀ {xs ys:List A},MtL n vs xs ys→MtL n (vs++e) xs ys
  | [],[],_=>trivial
  | _::_,_::_,h=>⟨h.1.mono,MtL.mono h.2⟩
  | [],_::_,h=>h.elim
  | _::_,[],h=>h.elim
def Fin' (vs:List A):Prop:=∀ x∈vs,x.noPtr=true∧x.fine=true
theorem mat_ok {n:Nat}:∀ {xs ys acc vs:List A},mat n acc xs ys=some vs→Fin' acc→(∃ e,vs=acc++e)∧MtL n vs xs ys∧Fin' vs
  | [],[],acc,vs,h,hf=>by cases h; exact ⟨⟨[],by simp⟩,trivial,hf⟩
  | [],_::_,acc,vs,h,_=>by simp [mat] at h
  | _::_,[],acc,vs,h,_=>by simp [mat] at h
  | x::xs,y::ys,acc,vs,h,hf=>by
    unfold mat at h
    simp only at h
    have same:(if beqA x y then mat n acc xs ys else none)=some vs→(∀ m,x≠.c n m)→(∃ e,vs=acc++e)∧MtL n vs (x::xs) (y::ys)∧Fin' vs:=by
      intro h hx
      split at h
      · rename_i hb
        obtain ⟨he,hm,hf'⟩:=mat_ok h hf
        exact ⟨he,⟨.inr ⟨beqA_ok hb,hx⟩,hm⟩,hf'⟩
      · cases h
    split at h
    · rename_i i m
      split at h
      · rename_i hin
        simp only [beq_iff_eq] at hin
        subst hin
        split at h
        · rename_i hc
          simp only [Bool.and_eq_true,beq_iff_eq] at hc
          obtain ⟨⟨hml,hnp⟩,hfi⟩:=hc
          have hf2:Fin' (acc++[y]):=fun z hz=>by
            rcases List.mem_append.1 hz with hz | hz
            · exact hf z hz
            · rw [List.mem_singleton.1 hz]; exact ⟨hnp,hfi⟩
          obtain ⟨⟨e,he⟩,hm,hf'⟩:=mat_ok h hf2
          refine ⟨⟨[y]++e,by rw [he,List.append_assoc]⟩,⟨.inl ⟨m,rfl,?_,hnp,hfi⟩,hm⟩,hf'⟩
          rw [he,hml,List.append_assoc,List.getElem?_append_right (Nat.le_refl _)]; simp
        · cases h
      · rename_i hin
        exact same h (fun m' e=>by cases e; simp at hin)
    · rename_i hx
      exact same h (fun m' e=>hx _ _ e)
def MtV (n:Nat) (vs:List A):V1→V1→Prop
  | .s a,.s b=>MtL n vs [a] [b]
  | .g l,.g l'=>MtL n vs l l'
  | _,_=>False
def MtVs (n:Nat) (vs:List A):List V1→List V1→Prop
  | [],[]=>True
  | x::xs,y::ys=>MtV n vs x y∧MtVs n vs xs ys
  | _,_=>False
def MtS (n:Nat) (vs:List A):SV→SV→Prop
  | .any,_=>True
  | .v x,.v y=>MtV n vs x y
  | .t l,.t l'=>MtVs n vs l l'
  | .u,.u=>True
  | _,_=>False
def MtT (n:Nat) (vs:List A):List SV→List SV→Prop
  | [],[]=>True
  | x::xs,y::ys=>MtS n vs x y∧MtT n vs xs ys
  | _,_=>False
def MtB (n:Nat) (vs:List A):Bl→Bl→Prop
  | [],[]=>True
  | none::xs,_::ys=>MtB n vs xs ys
  | some (l,t)::xs,some (l',t')::ys=>t=t'∧MtL n vs l l'∧MtB n vs xs ys
  | _,_=>False
theorem MtV.mono {n:Nat} {vs e:List A} {x y:V1} (h:MtV n vs x y):MtV n (vs++e) x y:=by
  cases x <;> cases y <;> first | exact MtL.mono h | exact h.elim
theorem MtVs.mono {n:Nat} {vs e:List A}:∀ {xs ys:List V1},MtVs n vs xs ys→MtVs n (vs++e) xs ys
  | [],[],_=>trivial
  | _::_,_::_,h=>⟨h.1.mono,MtVs.mono h.2⟩
  | [],_::_,h=>h.elim
  | _::_,[],h=>h.elim
theorem MtS.mono {n:Nat} {vs e:List A} {x y:SV} (h:MtS n vs x y):MtS n (vs++e) x y:=by
  cases x <;> cases y <;> first | exact trivial | exact MtV.mono h | exact MtVs.mono h | exact h.elim
theorem MtT.mono {n:Nat} {vs e:List A}:∀ {xs ys:List SV},MtT n vs xs ys→MtT n (vs++e) xs ys
  | [],[],_=>trivial
  | _::_,_::_,h=>⟨h.1.mono,MtT.mono h.2⟩
  | [],_::_,h=>h.elim
  | _::_,[],h=>h.elim
theorem matV_ok {n:Nat} {x y:V1} {acc vs:List A} (h:matV n acc x y=some vs) (hf:Fin' acc):(∃ e,vs=acc++e)∧MtV n vs x y∧Fin' vs:=by
  unfold matV at h
  split at h
  · exact mat_ok h hf
  · exact mat_ok h hf
  · cases h
theorem matVs_ok {n:Nat}:∀ {xs ys:List V1} {acc vs:List A},matVs n acc xs ys=some vs→Fin' acc→(∃ e,vs=acc++e)∧MtVs n vs xs ys∧Fin' vs
  | [],[],acc,vs,h,hf=>by cases h; exact ⟨⟨[],by simp⟩,trivial,hf⟩
  | [],_::_,acc,vs,h,_=>by simp [matVs] at h
  | _::_,[],acc,vs,h,_=>by simp [matVs] at h
  | x::xs,y::ys,acc,vs,h,hf=>by
    unfold matVs at h
    split at h
    · rename_i acc' hv
      obtain ⟨⟨e,he⟩,h1,hf1⟩:=matV_ok hv hf
      obtain ⟨⟨e',he'⟩,h2,hf2⟩:=matVs_ok h hf1
      exact ⟨⟨e++e',by rw [he',he,List.append_assoc]⟩,⟨by rw [he']; exact h1.mono,h2⟩,hf2⟩
    · cases h
theorem matS_ok {n:Nat} {x y:SV} {acc vs:List A} (h:matS n acc x y=some vs) (hf:Fin' acc):(∃ e,vs=acc++e)∧MtS n vs x y∧Fin' vs:=by
  unfold matS at h
  split at h
  · cases h; exact ⟨⟨[],by simp⟩,trivial,hf⟩
  · exact matV_ok h hf
  · exact matVs_ok h hf
  · cases h; exact ⟨⟨[],by simp⟩,trivial,hf⟩
  · cases h
theorem matT_ok {n:Nat}:∀ {xs ys:List SV} {acc vs:List A},matT n acc xs ys=some vs→Fin' acc→(∃ e,vs=acc++e)∧MtT n vs xs ys∧Fin' vs
  | [],[],acc,vs,h,hf=>by cases h; exact ⟨⟨[],by simp⟩,trivial,hf⟩
  | [],_::_,acc,vs,h,_=>by simp [matT] at h
  | _::_,[],acc,vs,h,_=>by simp [matT] at h
  | x::xs,y::ys,acc,vs,h,hf=>by
    unfold matT at h
    split at h
    · rename_i acc' hv
      obtain ⟨⟨e,he⟩,h1,hf1⟩:=matS_ok hv hf
      obtain ⟨⟨e',he'⟩,h2,hf2⟩:=matT_ok h hf1
      exact ⟨⟨e++e',by rw [he',he,List.append_assoc]⟩,⟨by rw [he']; exact h1.mono,h2⟩,hf2⟩
    · cases h
theorem matB_ok {n:Nat}:∀ {xs ys:Bl} {acc vs:List A},matB n acc xs ys=some vs→Fin' acc→(∃ e,vs=acc++e)∧MtB n vs xs ys∧Fin' vs
  | [],[],acc,vs,h,hf=>by cases h; exact ⟨⟨[],by simp⟩,trivial,hf⟩
  | [],_::_,acc,vs,h,_=>by simp [matB] at h
  | none::_,[],acc,vs,h,_=>by simp [matB] at h
  | some _::_,[],acc,vs,h,_=>by simp [matB] at h
  | none::xs,y::ys,acc,vs,h,hf=>by
    unfold matB at h
    exact matB_ok (xs:=xs) (ys:=ys) h hf
  | some (l,t)::xs,none::ys,acc,vs,h,hf=>by simp [matB] at h
  | some (l,t)::xs,some (l',t')::ys,acc,vs,h,hf=>by
    unfold matB at h
    split at h
    · rename_i ht
      split at h
      · rename_i acc' hv
        obtain ⟨⟨e,he⟩,h1,hf1⟩:=mat_ok hv hf
        obtain ⟨⟨e',he'⟩,h2,hf2⟩:=matB_ok h hf1
        exact ⟨⟨e++e',by rw [he',he,List.append_assoc]⟩,⟨by simpa using ht,by rw [he']; exact h1.mono,h2⟩,hf2⟩
      · cases h
    · cases h
theorem matSt_ok {n:Nat} {hd st:St} {vs:List A} (h:matSt n hd st=some vs):MtT n vs hd.tmps st.tmps∧MtB n vs hd.blocks st.blocks∧Fin' vs:=by
  unfold matSt at h
  split at h
  · rename_i acc ht
    obtain ⟨_,h1,hf1⟩:=matT_ok ht (fun x hx=>by cases hx)
    obtain ⟨⟨e,he⟩,h2,hf2⟩:=matB_ok h hf1
    exact ⟨by rw [he]; exact h1.mono,h2,hf2⟩
  · cases h
variable {D:TypeId→Bool} {w0:Bs} {w:World} {u:Gh} {hd st:St} {ρ ρ0:List Nat} {E E0 e:Env} {a:Act} {vs:List A}
theorem Mt.den {x y:A} (h:Mt E0.length vs x y) (hE:E=E0++e) (hs:x.sc (E0.length+1) hd.blocks=true) (hρ:∀ j,hd.blocks.has j=true→ρ.getD j 0=ρ0.getD j 0) :
    x.den ρ0 (E0++[vs.map (A.den [] E)])=y.den ρ E:=by
  rcases h with ⟨m,rfl,hm,hnp,_⟩ | ⟨rfl,hx⟩
  · have e1:(E0++[vs.map (A.den [] E)]).getD E0.length []=vs.map (A.den [] E):=by
      rw [List.getD_eq_getElem?_getD,List.getElem?_append_right (Nat.le_refl _)]; simp
    have lhs:A.den ρ0 (E0++[vs.map (A.den [] E)]) (.c E0.length m)=A.den [] E y:=by
      show ((E0++[vs.map (A.den [] E)]).getD E0.length []).getD m (.bool false)=_
      rw [e1,List.getD_eq_getElem?_getD,List.getElem?_map,hm]; rfl
    rw [lhs,A.den_noPtr (ρ:=ρ) hnp]
  · subst hE
    cases x with
    | c i n=>
      simp only [A.sc,decide_eq_true_eq] at hs
      have hi:i < E0.length:=by
        rcases Nat.lt_or_ge i E0.length with h | h
        · exact h
        · exact absurd (by rw [show i=E0.length by omega]) (hx n)
      simp only [A.den,List.getD_eq_getElem?_getD,List.getElem?_append_left hi]
    | k v=>rfl
    | p j o=>simp only [A.sc] at hs; simp only [A.den,hρ j hs]
theorem MtL.den (hE:E=E0++e) (hρ:∀ j,hd.blocks.has j=true→ρ.getD j 0=ρ0.getD j 0):∀ {xs ys:List A},MtL E0.length vs xs ys→xs.all (A.sc (E0.length+1) hd.blocks)=true →
    xs.map (A.den ρ0 (E0++[vs.map (A.den [] E)]))=ys.map (A.den ρ E)
  | [],[],_,_=>rfl
  | x::xs,y::ys,h,hs=>by
    simp only [List.all_cons,Bool.and_eq_true] at hs
    simp only [List.map_cons,h.1.den hE hs.1 hρ,MtL.den hE hρ h.2 hs.2]
  | [],_::_,h,_=>h.elim
  | _::_,[],h,_=>h.elim
theorem MtV.den (hE:E=E0++e) (hρ:∀ j,hd.blocks.has j=true→ρ.getD j 0=ρ0.getD j 0) {x y:V1} (h:MtV E0.length vs x y) (hs:x.atoms.all (A.sc (E0.length+1) hd.blocks)=true) :
    x.den ρ0 (E0++[vs.map (A.den [] E)])=y.den ρ E:=by
  cases x with
  | s a=>cases y with
    | s b=>have:=MtL.den hE hρ h hs; simpa [V1.den] using this
    | g l=>exact h.elim
  | g l=>cases y with
    | s b=>exact h.elim
    | g l'=>simp only [V1.den]; rw [MtL.den hE hρ h hs]
theorem MtVs.den (hE:E=E0++e) (hρ:∀ j,hd.blocks.has j=true→ρ.getD j 0=ρ0.getD j 0):∀ {xs ys:List V1},MtVs E0.length vs xs ys→(xs.flatMap V1.atoms).all (A.sc (E0.length+1) hd.blocks)=true →
    xs.map (V1.den ρ0 (E0++[vs.map (A.den [] E)]))=ys.map (V1.den ρ E)
  | [],[],_,_=>rfl
  | x::xs,y::ys,h,hs=>by
    simp only [List.flatMap_cons,List.all_append,Bool.and_eq_true] at hs
    simp only [List.map_cons,h.1.den hE hρ hs.1,MtVs.den hE hρ h.2 hs.2]
  | [],_::_,h,_=>h.elim
  | _::_,[],h,_=>h.elim
theorem MtS.rep (hE:E=E0++e) (hρ:∀ j,hd.blocks.has j=true→ρ.getD j 0=ρ0.getD j 0) {x y:SV} (h:MtS E0.length vs x y) (hs:x.atoms.all (A.sc (E0.length+1) hd.blocks)=true) {v:Value} (hr:y.Rep ρ E v) :
    x.Rep ρ0 (E0++[vs.map (A.den [] E)]) v:=by
  intro hA
  cases x with
  | any=>simp [SV.isAny] at hA
  | v x=>cases y with
    | v y=>rw [hr rfl]; exact (MtV.den hE hρ h hs).symm
    | t l=>exact h.elim
    | u=>exact h.elim
    | any=>exact h.elim
  | t l=>cases y with
    | t l'=>rw [hr rfl]; simp only [SV.den]; rw [MtVs.den hE hρ h hs]
    | v y=>exact h.elim
    | u=>exact h.elim
    | any=>exact h.elim
  | u=>cases y with
    | u=>exact hr rfl
    | v y=>exact h.elim
    | t l=>exact h.elim
    | any=>exact h.elim
theorem MtT.len {n:Nat} {vs:List A}:∀ {xs ys:List SV},MtT n vs xs ys→xs.length=ys.length
  | [],[],_=>rfl
  | _::_,_::_,h=>by simp [MtT.len h.2]
  | [],_::_,h=>h.elim
  | _::_,[],h=>h.elim
theorem MtT.at {n:Nat} {vs:List A}:∀ {xs ys:List SV},MtT n vs xs ys→∀ i,MtS n vs (xs.getD i .u) (ys.getD i .u)
  | [],[],_,i=>by simp [MtS]
  | x::xs,y::ys,h,0=>by simpa using h.1
  | x::xs,y::ys,h,i+1=>by simpa using MtT.at h.2 i
  | [],_::_,h,_=>h.elim
  | _::_,[],h,_=>h.elim
theorem MtB.len {n:Nat} {vs:List A}:∀ {xs ys:Bl},MtB n vs xs ys→xs.length=ys.length
  | [],[],_=>rfl
  | none::xs,_::ys,h=>by have:=MtB.len (xs:=xs) (ys:=ys) h; simp [this]
  | some (_,_)::_,some (_,_)::_,h=>by have:=MtB.len h.2.2; simp [this]
  | [],_::_,h=>h.elim
  | none::_,[],h=>h.elim
  | some _::_,[],h=>h.elim
  | some _::_,none::_,h=>h.elim
theorem MtB.at {n:Nat} {vs:List A}:∀ {xs ys:Bl},MtB n vs xs ys→∀ (i:Nat) (l:List A) (t:TypeId),xs[i]?=some (some (l,t))→∃ l',ys[i]?=some (some (l',t))∧MtL n vs l l'
  | [],[],_,i,l,t,h=>by simp at h
  | none::xs,y::ys,hm,0,l,t,h=>by simp at h
  | none::xs,y::ys,hm,i+1,l,t,h=>by
    simp only [List.getElem?_cons_succ] at h ⊢
    exact MtB.at (xs:=xs) (ys:=ys) hm i l t h
  | some (l0,t0)::xs,some (l1,t1)::ys,hm,0,l,t,h=>by
    simp only [List.getElem?_cons_zero,Option.some.injEq,Prod.mk.injEq] at h ⊢
    obtain ⟨rfl,rfl⟩:=h
    exact ⟨l1,⟨rfl,hm.1.symm⟩,hm.2.1⟩
  | some (l0,t0)::xs,some (l1,t1)::ys,hm,i+1,l,t,h=>by
    simp only [List.getElem?_cons_succ] at h ⊢
    exact MtB.at hm.2.2 i l t h
  | [],_::_,hm,_,_,_,_=>hm.elim
  | none::_,[],hm,_,_,_,_=>hm.elim
  | some _::_,[],hm,_,_,_,_=>hm.elim
  | some _::_,none::_,hm,_,_,_,_=>hm.elim
theorem Inv.head (hI:Inv D w0 st ρ E u a w) (hm:matSt E0.length hd st=some vs) (hE:E=E0++e) (hs:hd.sc=true) (hn:hd.nv=E0.length+1) (hl:ρ0.length=ρ.length)
    (hρ:∀ j,hd.blocks.has j=true→ρ.getD j 0=ρ0.getD j 0):Inv D w0 hd ρ0 (E0++[vs.map (A.den [] E)]) u a w:=by
  obtain ⟨hT,hB,hF⟩:=matSt_ok hm
  have hat:∀ j x,hd.at ρ0 (E0++[vs.map (A.den [] E)]) j=some x→st.at ρ E j=some x:=by
    intro j x hx
    obtain ⟨⟨l,t⟩,hb,rfl⟩:=St.of_at hx
    obtain ⟨l',hb',hml⟩:=hB.at j l t hb
    rw [St.at_of hb']
    have hsl:=St.sc_blk hs hb
    rw [hn] at hsl
    simp only [MtL.den hE hρ hml hsl,hρ j (Bl.has_iff.2 ⟨_,hb⟩)]
  have hhas:∀ j,hd.blocks.has j=true→st.blocks.has j=true:=by
    intro j hj
    obtain ⟨⟨l,t⟩,hb⟩:=Bl.has_iff.1 hj
    obtain ⟨l',hb',_⟩:=hB.at j l t hb
    exact Bl.has_iff.2 ⟨_,hb'⟩
  refine ⟨by rw [hl,hI.nb,hB.len],by simp [hn],?_,by rw [hI.size,hT.len],?_,hI.defers,fun j b c t hj=>hI.blk j b c t (hat j _ hj),?_,hI.below,hI.ext,hI.sh⟩
  · intro cs hc v hv
    rcases List.mem_append.1 hc with hc | hc
    · exact hI.plain cs (by rw [hE]; exact List.mem_append_left _ hc) v hv
    · rw [List.mem_singleton.1 hc] at hv
      obtain ⟨x,hx,rfl⟩:=List.mem_map.1 hv
      exact A.den_fine hI.plain (hF x hx).2
  · intro i
    have hsi:=St.sc_tmps hs i
    rw [hn] at hsi
    exact (hT.at i).rep hE hρ hsi (hI.tmps i)
  · intro i j hi hj he
    rw [← hρ i hi,← hρ j hj] at he
    exact hI.inj i j (hhas i hi) (hhas j hj) he
end heads
end Cin
