/- Terms in any order, each monomial once: what one term more makes of them; the same as a rising row. No program. -/
import Derived.Test.YthffkbbcofbceaaGreatDoorYx
import Derived.Test.YthffkbbcofbceaaGreatDoorYv
import Derived.Maps.RangeRun
import Derived.Maps.Keyed
namespace Cin
def insT:PolyL→M × Rat→PolyL
  | [],t=>if t.2=0 then [] else [t]
  | x::l,t=>if x.1=t.1 then (if x.2+t.2=0 then l else (x.1,x.2+t.2)::l) else x::insT l t
structure GoodP (l:PolyL):Prop where
  nd:(l.map (·.1)).Nodup
  nz:∀ x∈l,x.2≠0
  ok:OkP l
theorem GoodP.nil:GoodP []:=⟨List.nodup_nil,(fun _ h=>by cases h),(fun _ h=>by cases h)⟩
theorem GoodP.tl {x:M × Rat} {l:PolyL} (h:GoodP (x::l)):GoodP l:=⟨(List.nodup_cons.1 h.nd).2,fun y hy=>h.nz y (List.mem_cons_of_mem _ hy),fun y hy=>h.ok y (List.mem_cons_of_mem _ hy)⟩
theorem insT_new {t:M × Rat}:∀ {l:PolyL},(∀ x∈l,x.1≠t.1)→insT l t=if t.2=0 then l else l++[t]
  | [],_=>by unfold insT; rfl
  | x::l,h=>by
    rw [insT,if_neg (h x List.mem_cons_self),insT_new (fun y hy=>h y (List.mem_cons_of_mem _ hy))]
    split <;> rfl
theorem insT_at {t x:M × Rat}:∀ {l:PolyL} {i:Nat},(l.map (·.1)).Nodup→l[i]?=some x→x.1=t.1→insT l t=if x.2+t.2=0 then l.eraseIdx i else l.set i (x.1,x.2+t.2)
  | [],i,_,h,_=>by simp at h
  | y::l,0,_,h,e=>by
    simp only [List.getElem?_cons_zero,Option.some.injEq] at h
    subst h
    rw [insT,if_pos e]; rfl
  | y::l,i+1,hn,h,e=>by
    simp only [List.getElem?_cons_succ] at h
    rw [List.map_cons,List.nodup_cons] at hn
    have hne:y.1≠t.1:=fun e'=>hn.1 (List.mem_map.2 ⟨x,List.mem_of_getElem? h,by rw [e,e']⟩)
    rw [insT,if_neg hne,insT_at hn.2 h e]
    split <;> rfl
theorem mem_ins {t y:M × Rat}:∀ {l:PolyL},y∈insT l t→y.1=t.1∨y∈l
  | [],h=>by
    unfold insT at h
    split at h
    · cases h
    · rw [List.mem_singleton.1 h]; exact .inl rfl
  | x::l,h=>by
    unfold insT at h
    split at h
    · split at h
      · exact .inr (List.mem_cons_of_mem _ h)
      · rcases List.mem_cons.1 h with rfl | h
        · rename_i e _; exact .inl e
        · exact .inr (List.mem_cons_of_mem _ h)
    · rcases List.mem_cons.1 h with rfl | h
      · exact .inr List.mem_cons_self
      · exact (mem_ins h).imp id (List.mem_cons_of_mem _)
theorem GoodP.ins {t:M × Rat} (ht:t.1.ok):∀ {l:PolyL},GoodP l→GoodP (insT l t)
  | [],_=>by
    unfold insT
    split
    · exact GoodP.nil
    · rename_i h
      exact ⟨by simp,fun x hx=>by rw [List.mem_singleton.1 hx]; exact h,fun x hx=>by rw [List.mem_singleton.1 hx]; exact ht⟩
  | x::l,h=>by
    have hn:=List.nodup_cons.1 (show ((x.1:M)::l.map (·.1)).Nodup from h.nd)
    unfold insT
    split
    · split
      · exact h.tl
      · rename_i h0
        exact ⟨h.nd,fun y hy=>by rcases List.mem_cons.1 hy with rfl | hy; exact h0; exact h.tl.nz y hy,fun y hy=>by rcases List.mem_cons.1 hy with rfl | hy; exact h.ok x List.mem_cons_self; exact h.tl.ok y hy⟩
    · rename_i hne
      have h1:=GoodP.ins ht h.tl
      refine ⟨List.nodup_cons.2 ⟨fun hm=>?_,h1.nd⟩,fun y hy=>?_,fun y hy=>?_⟩
      · obtain ⟨y,hy,e⟩:=List.mem_map.1 hm
        rcases mem_ins hy with e' | hy
        · exact hne (e.symm.trans e')
        · exact hn.1 (List.mem_map.2 ⟨y,hy,e⟩)
      · rcases List.mem_cons.1 hy with rfl | hy
        · exact h.nz _ List.mem_cons_self
        · exact h1.nz y hy
      · rcases List.mem_cons.1 hy with rfl | hy
        · exact h.ok _ List.mem_cons_self
        · exact h1.ok y hy
theorem evP_ins (φ:M→Rat) (t:M × Rat):∀ l:PolyL,evP φ (insT l t)=evP φ l+t.2 * φ t.1
  | []=>by
    unfold insT
    split
    · rename_i h; rw [h]; simp [evP,Rat.zero_mul,Rat.add_zero]
    · simp [evP]; grind
  | x::l=>by
    unfold insT
    split
    · rename_i e
      split
      · rename_i h0
        rw [evP_cons,e]
        have:(x.2+t.2) * φ t.1=0:=by rw [h0,Rat.zero_mul]
        grind
      · rw [evP_cons,evP_cons,← e]; grind
    · rw [evP_cons,evP_cons,evP_ins φ t l]; grind
theorem evP_perm (φ:M→Rat) {l p:PolyL} (h:l.Perm p):evP φ l=evP φ p:=by
  induction h with
  | nil=>rfl
  | cons x _ ih=>rw [evP_cons,evP_cons,ih]
  | swap x y l=>rw [evP_cons,evP_cons,evP_cons,evP_cons]; grind
  | trans _ _ h1 h2=>exact h1.trans h2
theorem GoodP.coP {y:M × Rat}:∀ {l:PolyL},GoodP l→y∈l→coP y.1 l=y.2
  | [],_,h=>by cases h
  | x::l,hg,h=>by
    have hn:=List.nodup_cons.1 (show ((x.1:M)::l.map (·.1)).Nodup from hg.nd)
    show x.2 * dl y.1 x.1+Cin.coP y.1 l=y.2
    rcases List.mem_cons.1 h with rfl | h
    · rw [coP_none (fun z hz e=>hn.1 (List.mem_map.2 ⟨z,hz,e⟩))]
      simp [dl]; grind
    · rw [hg.tl.coP h]
      have:x.1≠y.1:=fun e=>hn.1 (List.mem_map.2 ⟨y,h,e.symm⟩)
      simp [dl,this]; grind
theorem canon_keys:∀ {p:PolyL},Canon p→(p.map (·.1)).Nodup
  | [],_=>List.nodup_nil
  | x::p,h=>by
    rw [List.map_cons]
    refine List.nodup_cons.2 ⟨fun hm=>?_,canon_keys h.tl⟩
    obtain ⟨y,hy,e⟩:=List.mem_map.1 hm
    exact mc_ne (h.ok x List.mem_cons_self) (h.ok y (List.mem_cons_of_mem _ hy)) ((List.pairwise_cons.1 h.srt).1 y hy) e
theorem Canon.good {p:PolyL} (h:Canon p):GoodP p:=⟨canon_keys h,h.nz,h.ok⟩
theorem GoodP.nodup:∀ {l:PolyL},GoodP l→l.Nodup
  | [],_=>List.nodup_nil
  | x::l,h=>by
    have hn:=List.nodup_cons.1 (show ((x.1:M)::l.map (·.1)).Nodup from h.nd)
    exact List.nodup_cons.2 ⟨fun hm=>hn.1 (List.mem_map.2 ⟨x,hm,rfl⟩),h.tl.nodup⟩
theorem good_perm {l p:PolyL} (hl:GoodP l) (hp:GoodP p) (h:∀ m,Cin.coP m l=Cin.coP m p):l.Perm p:=by
  refine (List.perm_ext_iff_of_nodup hl.nodup hp.nodup).2 fun y=>⟨fun hy=>?_,fun hy=>?_⟩
  · have h1:=hl.coP hy
    obtain ⟨z,hz,e⟩:=coP_some (p:=p) (m:=y.1) (by rw [← h,h1]; exact hl.nz y hy)
    have h2:=hp.coP hz
    have:z=y:=Prod.ext e (by rw [← h2,← h1,h,e])
    exact this ▸ hz
  · have h1:=hp.coP hy
    obtain ⟨z,hz,e⟩:=coP_some (p:=l) (m:=y.1) (by rw [h,h1]; exact hp.nz y hy)
    have h2:=hl.coP hz
    have:z=y:=Prod.ext e (by rw [← h2,← h1,← h,e])
    exact this ▸ hz
theorem GoodP.perm {l p:PolyL} (h:l.Perm p) (hp:GoodP p):GoodP l:=⟨(h.map (·.1)).nodup_iff.2 hp.nd,fun x hx=>hp.nz x (h.mem_iff.1 hx),fun x hx=>hp.ok x (h.mem_iff.1 hx)⟩
theorem ins_perm {s p:PolyL} {t:M × Rat} (h:s.Perm p) (hp:Canon p) (ht:t.1.ok):(insT s t).Perm (putP p t):=
  good_perm ((GoodP.perm h hp.good).ins ht) (hp.put ht).good fun m=>by unfold Cin.coP; rw [evP_ins,evP_put,evP_perm _ h]
theorem addP_snoc (p q:PolyL) (t:M × Rat):addP p (q++[t])=putP (addP p q) t:=by unfold addP; rw [List.foldl_append]; rfl
theorem addP_perm {p q q':PolyL} (hp:Canon p) (hq:OkP q) (h:q'.Perm q):addP p q'=addP p q:=
  canon_eq (hp.add fun x hx=>hq x (h.mem_iff.1 hx)) (hp.add hq) fun m=>by unfold Cin.coP; rw [evP_add,evP_add,evP_perm _ h]
theorem WtP.perm {D:Nat} {l q:PolyL} (h:l.Perm q):∀ {N:Nat},WtP D q N→WtP D l N:=by
  induction h with
  | nil=>exact fun h=>h
  | cons x _ ih=>rintro N ⟨b,n,hb,h1,h2⟩; exact ⟨b,n,hb,h1,ih h2⟩
  | swap x y l=>rintro N ⟨b,n,hb,h1,c,m,hc,h2,h3⟩; exact ⟨c,b.natAbs+m,hc,by omega,b,m,hb,by omega,h3⟩
  | trans _ _ h1 h2=>exact fun h=>h1 (h2 h)
def FitSub (fit:Rat→Prop) (p q:PolyL):Prop:=∀ l r,(l++r).Perm q→FitP fit (addP p l)
theorem PB.fitSub {D N M L K B:Nat} {p q:PolyL} (h:PB D N L p) (h':PB D M K q) (hD:D < B) (hN:N+M < B):FitSub (fun q=>q.num.natAbs < B∧q.den < B) p q:=fun _ r hl=>
  (h.wt.add ((h'.wt.perm hl).pre ⟨r,rfl⟩)).fit h.pos hD hN
theorem FitP.perm {fit:Rat→Prop} {l p:PolyL} (h:l.Perm p) (hp:FitP fit p):FitP fit l:=fun x hx=>hp x (h.mem_iff.1 hx)
end Cin

namespace Cin
open Go Go.RowKit
open Go.ChangeMaps (setBlock)
section blocks
variable {w:World} {b i:Nat} {o o':Obj}
theorem setBlock_same (h:w.heap[b]?=some o') (o:Obj):(setBlock w b o).heap[b]?=some o:=by
  have:=(Array.getElem?_eq_some_iff.1 h).1
  simp [setBlock,this]
theorem setBlock_other (o:Obj) (h:i≠b):(setBlock w b o).heap[i]?=w.heap[i]?:=by
  simp only [setBlock,Array.getElem?_setIfInBounds]
  rw [if_neg (fun e=>h e.symm)]
theorem setBlock_size (w:World) (b:Nat) (o:Obj):(setBlock w b o).heap.size=w.heap.size:=by simp [setBlock]
theorem Bx.setBlock {B:Bs} (h:Bx B w) (hg:B.w.heap.size≤b∨B.X b) (o:Obj):Bx B (setBlock w b o):=⟨h.os,h.tape,h.output,by rw [setBlock_size]; exact h.size,fun k hk hx=>by
  rw [setBlock_other o (fun e=>?_)]
  · exact h.block k hk hx
  · subst e
    rcases hg with hg | hg
    · omega
    · exact hx hg⟩
end blocks
structure KeyT (P:Program) (k:TypeId) (m:Mty):Prop where
  K:Maps.Keyed P k
  lit:∀ v,m.kp v→∃ l,keyOf P k v=some l
  cells:∀ v,m.kp v→(v1of 0 0 m.ks).den [] [v.cells.toList]=v∧v.cells.toList.length=m.ks.getD 1∧v.cells.toList.all Value.oneCell'=true
section find
variable {P:Program} {k:TypeId} {m:Mty} {l:Lm} {w:World} {es:Array MapEntry} {clock:Nat} {en:Ents}
theorem EntsAt.mem (h:EntsAt m l w es clock en) {e:MapEntry} (he:e∈es.toList):∃ (i:Nat) (row:List Pd) (x:List Value),es[i]?=some e∧en[i]?=some (e.key,row)∧m.kp e.key∧e.val=(v1of 0 0 m.sh).den [] [x]∧x.length=m.sh.getD 1∧RL l w row x:=by
  obtain ⟨i,hi,rfl⟩:=List.getElem_of_mem he
  have hi':i < en.length:=by have:=h.len; simp at hi; omega
  obtain ⟨h1,e,x,h2,h3,h4,h5,h6⟩:=h.at_ i (en[i]).1 (en[i]).2 (by rw [List.getElem?_eq_getElem hi'])
  have h7:es[i]?=some (es.toList[i]):=by simp at hi; simp [hi]
  rw [h7] at h2
  cases h2
  exact ⟨i,(en[i]).2,x,h7,by rw [h3,List.getElem?_eq_getElem hi'],by rw [h3]; exact h1,h4,h5,h6⟩
theorem EntsAt.find (hK:KeyT P k m) (h:EntsAt m l w es clock en) {v:Value} (hv:m.kp v) (w':World) :
    ((Instr.findKey k v es.toList).run P w'=.ok none w'∧∀ row,(v,row) ∉ en) ∨
    ∃ (j:Nat) (e:MapEntry) (row:List Pd) (x:List Value),(Instr.findKey k v es.toList).run P w'=.ok (some (j,e.val)) w'∧es[j]?=some e∧en[j]?=some (v,row)∧e.key=v∧e.val=(v1of 0 0 m.sh).den [] [x]∧x.length=m.sh.getD 1∧RL l w row x:=by
  obtain ⟨lv,hlv⟩:=hK.lit v hv
  rcases hK.K.find w' hlv es.toList (fun e he=>by obtain ⟨_,_,_,_,_,h1,_⟩:=h.mem he; exact hK.lit _ h1) with ⟨h1,h2⟩ | ⟨j,e,h1,h2,h3⟩
  · refine .inl ⟨h1,fun row hm=>?_⟩
    obtain ⟨i,hi,he⟩:=List.getElem_of_mem hm
    obtain ⟨_,e,x,h4,h5,_⟩:=h.at_ i v row (by rw [List.getElem?_eq_getElem hi,he])
    exact h2 e (by rw [← Array.getElem?_toList] at h4; exact List.mem_of_getElem? h4) h5
  · have h2':es[j]?=some e:=by rw [← Array.getElem?_toList]; exact h2
    have hj:j < en.length:=by have:=(Array.getElem?_eq_some_iff.1 h2').1; have:=h.len; omega
    obtain ⟨h4,e',x,h5,h6,h7,h8,h9⟩:=h.at_ j (en[j]).1 (en[j]).2 (by rw [List.getElem?_eq_getElem hj])
    rw [h2'] at h5
    cases h5
    refine .inr ⟨j,e,(en[j]).2,x,h1,h2',?_,h3,h7,h8,h9⟩
    rw [List.getElem?_eq_getElem hj]
    congr 1
    exact Prod.ext (h6.symm.trans h3) rfl
end find
def PutE (en:Ents) (k:Value) (row:List Pd) (en':Ents):Prop:=
  (∃ i row0,en[i]?=some (k,row0)∧en'=en.set i (k,row))∨((∀ r,(k,r) ∉ en)∧en'=en++[(k,row)])
def DelE (en:Ents) (k:Value) (en':Ents):Prop:=
  (∃ i row0,en[i]?=some (k,row0)∧en'=en.eraseIdx i)∨((∀ r,(k,r) ∉ en)∧en'=en)
def MapAt (l:Lm) (w:World) (mv:Value) (m:Mty) (en:Ents):Prop:=
  (mv=.map none∧en=[])∨∃ b es clock,mv=.map (some b)∧w.heap[b]?=some (.map es clock)∧EntsAt m l w es clock en
section runs
variable {P:Program} {T k e:TypeId} {m:Mty} {l:Lm} {w:World} {es:Array MapEntry} {clock g:Nat} {en:Ents} {v mv:Value}
theorem kcheck (hK:KeyT P k m) (hv:m.kp v) (em:Bool) (w':World):(Instr.checkKey em 10000 k v).run P w'=.ok () w':=by
  obtain ⟨lv,hlv⟩:=hK.lit v hv
  exact hK.K.check w' em hlv
theorem run_look (hK:KeyT P k m) (hT:P.underlying T=some (.map k e)) {ie:TypeInfo} {z:Value} (hi:P.info? e=some ie) (hz:ie.zero=some z) (h:MapAt l w mv m en) (hv:m.kp v) (ok:Bool) :
    ((∀ row,(v,row) ∉ en)∧∀ w':World,(∀ (b:Nat) (o:Obj),w.heap[b]?=some o→NotCells o→w'.heap[b]?=some o)→(Instr.lookup T mv v ok).run P w'=.ok (if ok then .tuple #[z,.bool false] else z) w') ∨
    ∃ (row:List Pd) (x:List Value),(v,row)∈en∧x.length=m.sh.getD 1∧RL l w row x∧∀ w':World,(∀ (b:Nat) (o:Obj),w.heap[b]?=some o→NotCells o→w'.heap[b]?=some o)→(Instr.lookup T mv v ok).run P w'=.ok (if ok then .tuple #[(v1of 0 0 m.sh).den [] [x],.bool true] else (v1of 0 0 m.sh).den [] [x]) w':=by
  have hzr:∀ w',(zeroValue e).run P w'=.ok z w':=fun w'=>by simp [zeroValue,typeInfo,hi,hz]
  rcases h with ⟨rfl,rfl⟩ | ⟨b,es,clock,rfl,hb,hat⟩
  · left
    refine ⟨fun row hm=>(by cases hm),fun w' _=>?_⟩
    have hf:(Instr.findKey k v []).run P w'=.ok none w':=by
      rcases hK.K.find w' (Classical.choose_spec (hK.lit v hv)) [] (fun e he=>by cases he) with ⟨h1,_⟩ | ⟨j,e,_,h2,_⟩
      · exact h1
      · simp at h2
    simp only [Instr.lookup,Sem.run_bind,run_underlying hT,Result.andThen_ok,Sem.run_pure,kcheck hK hv,hf,hzr]
    try (cases ok <;> simp)
  · have hb':∀ w':World,(∀ (b:Nat) (o:Obj),w.heap[b]?=some o→NotCells o→w'.heap[b]?=some o)→w'.heap[b]?=some (.map es clock):=fun w' h=>h b _ hb (notCells_map _ _)
    by_cases hex:∃ row,(v,row)∈en
    · right
      rcases hat.find hK hv w with ⟨_,h2⟩ | ⟨j,e0,row,x,_,h2,h3,h4,h5,h6,h7⟩
      · obtain ⟨row,hr⟩:=hex; exact absurd hr (h2 row)
      · refine ⟨row,x,List.mem_of_getElem? h3,h6,h7,fun w' hw'=>?_⟩
        rcases hat.find hK hv w' with ⟨_,h2'⟩ | ⟨j',e',row',x',g1,g2,g3,g4,g5,g6,g7⟩
        · exact absurd (List.mem_of_getElem? h3) (h2' row)
        · have hjj:j'=j:=by
            have hn:=hat.keys
            have a1:(en.map (·.1))[j']?=some v:=by rw [List.getElem?_map,g3]; rfl
            have a2:(en.map (·.1))[j]?=some v:=by rw [List.getElem?_map,h3]; rfl
            exact (List.getElem?_inj (List.getElem?_eq_some_iff.1 a1).1 hn).1 (a1.trans a2.symm)
          subst hjj
          rw [h2] at g2
          cases g2
          simp only [Instr.lookup,Sem.run_bind,run_underlying hT,Result.andThen_ok,Sem.run_pure,MapKept.run_getObj_map (hb' w' hw'),kcheck hK hv,g1,h5]
          try (cases ok <;> simp)
    · left
      refine ⟨fun row hm=>hex ⟨row,hm⟩,fun w' hw'=>?_⟩
      rcases hat.find hK hv w' with ⟨h1,_⟩ | ⟨j,e0,row,x,_,_,h3,_⟩
      · simp only [Instr.lookup,Sem.run_bind,run_underlying hT,Result.andThen_ok,Sem.run_pure,MapKept.run_getObj_map (hb' w' hw'),kcheck hK hv,h1,hzr]
        try (cases ok <;> simp)
      · exact absurd ⟨row,List.mem_of_getElem? h3⟩ hex
theorem modify_get {α:Type} (a:Array α) (f:α→α) (i j:Nat):(a.modify i f)[j]?=if i=j then (a[j]?).map f else a[j]?:=by
  rw [Array.getElem?_modify]
theorem setE_keys {en:Ents} {j:Nat} {row row0:List Pd} (h:en[j]?=some (v,row0)):(en.set j (v,row)).map (·.1)=en.map (·.1):=by
  rw [List.map_set]
  refine List.ext_getElem? fun i=>?_
  rw [List.getElem?_set]
  by_cases e:j=i
  · subst e
    have hj:=(List.getElem?_eq_some_iff.1 h).1
    rw [if_pos rfl,if_pos (by simpa using hj),List.getElem?_map,h]; rfl
  · rw [if_neg e]
theorem run_put (hK:KeyT P k m) (hT:P.underlying T=some (.map k e)) (hb:w.heap[g]?=some (.map es clock)) (h:EntsAt m l w es clock en) (hv:m.kp v) {row:List Pd} {x:List Value} (hx:x.length=m.sh.getD 1) :
    ∃ en' es' clock',PutE en v row en'∧(Instr.mapUpdate T (.map (some g)) v ((v1of 0 0 m.sh).den [] [x])).run P w=.ok () (setBlock w g (.map es' clock')) ∧
      ∀ l' w',(∀ e∈en,∀ x,RL l w e.2 x→RL l' w' e.2 x)→RL l' w' row x→EntsAt m l' w' es' clock' en':=by
  rcases h.find hK hv w with ⟨h1,h2⟩ | ⟨j,e0,row0,x0,h1,h2,h3,h4,h5,h6,h7⟩
  · refine ⟨en++[(v,row)],es.push { key:=v,val:=(v1of 0 0 m.sh).den [] [x],born:=clock },clock+1,.inr ⟨h2,rfl⟩,?_,fun l' w' hst hrow=>⟨?_,?_,?_,?_,?_⟩⟩
    · simp only [Instr.mapUpdate,Sem.run_bind,run_underlying hT,Result.andThen_ok,MapKept.run_getObj_map hb,kcheck hK hv,h1,MapKept.run_setObj_map _ hb]
      rfl
    · simp [h.len]
    · intro e he
      simp only [Array.toList_push,List.mem_append,List.mem_singleton] at he
      rcases he with he | rfl
      · have:=h.born e he; omega
      · exact Nat.lt_succ_self _
    · simp only [Array.toList_push,List.map_append,List.map_cons,List.map_nil]
      refine List.nodup_append.2 ⟨h.nodup,by simp,fun a ha b hb' e'=>?_⟩
      simp at hb'
      subst hb'
      obtain ⟨e,he,rfl⟩:=List.mem_map.1 ha
      have:=h.born e he; omega
    · simp only [List.map_append,List.map_cons,List.map_nil]
      refine List.nodup_append.2 ⟨h.keys,by simp,fun a ha b hb' e'=>?_⟩
      simp at hb'
      subst hb'
      obtain ⟨⟨k',r⟩,he,rfl⟩:=List.mem_map.1 ha
      exact h2 r (by rw [← e']; exact he)
    · intro i k' row' hi
      by_cases hlt:i < en.length
      · rw [List.getElem?_append_left hlt] at hi
        obtain ⟨g1,e,x',g2,g3,g4,g5,g6⟩:=h.at_ i k' row' hi
        refine ⟨g1,e,x',?_,g3,g4,g5,hst _ (List.mem_of_getElem? hi) _ g6⟩
        rw [Array.getElem?_push,if_neg (by have:=h.len; omega)]; exact g2
      · rw [List.getElem?_append_right (by omega)] at hi
        have hi0:i - en.length=0:=by have:=(List.getElem?_eq_some_iff.1 hi).1; simp at this; exact this
        rw [hi0] at hi
        simp only [List.getElem?_cons_zero,Option.some.injEq,Prod.mk.injEq] at hi
        obtain ⟨rfl,rfl⟩:=hi
        refine ⟨hv,{ key:=v,val:=(v1of 0 0 m.sh).den [] [x],born:=clock },x,?_,rfl,rfl,hx,hrow⟩
        rw [Array.getElem?_push,if_pos (by have:=h.len; omega)]
  · obtain ⟨lv,hlv⟩:=hK.lit v hv
    have hjl:=(Array.getElem?_eq_some_iff.1 h2).1
    refine ⟨en.set j (v,row),es.modify j fun e=>{ e with key:=v,val:=(v1of 0 0 m.sh).den [] [x] },clock,.inl ⟨j,row0,h3,rfl⟩,?_,fun l' w' hst hrow=>⟨?_,?_,?_,?_,?_⟩⟩
    · have hst:=hK.K.stays w hlv
      simp only [Instr.mapUpdate,Sem.run_bind,run_underlying hT,Result.andThen_ok,MapKept.run_getObj_map hb,kcheck hK hv,h1,h2,Option.map_some,Option.getD_some,h4,hst,MapKept.run_setObj_map _ hb]
      rfl
    · simp [h.len]
    · intro e he
      obtain ⟨i,hi,rfl⟩:=List.getElem_of_mem he
      simp only [Array.length_toList,Array.size_modify] at hi
      simp only [Array.getElem_toList,Array.getElem_modify]
      have hm:es[i]∈es.toList:=by simp
      split
      · exact h.born es[i] hm
      · exact h.born _ hm
    · have:(es.modify j fun e=>{ e with key:=v,val:=(v1of 0 0 m.sh).den [] [x] }).toList.map (·.born)=es.toList.map (·.born):=by
        refine List.ext_getElem? fun i=>?_
        simp only [List.getElem?_map,Array.getElem?_toList,modify_get]
        split
        · cases es[i]? <;> rfl
        · rfl
      rw [this]; exact h.nodup
    · rw [setE_keys h3]; exact h.keys
    · intro i k' row' hi
      rw [List.getElem?_set] at hi
      by_cases e:j=i
      · subst e
        have hjn:=(List.getElem?_eq_some_iff.1 h3).1
        rw [if_pos rfl,if_pos hjn] at hi
        simp only [Option.some.injEq,Prod.mk.injEq] at hi
        obtain ⟨rfl,rfl⟩:=hi
        refine ⟨hv,{ e0 with key:=v,val:=(v1of 0 0 m.sh).den [] [x] },x,?_,rfl,rfl,hx,hrow⟩
        rw [modify_get,if_pos rfl,h2]; rfl
      · rw [if_neg e] at hi
        obtain ⟨g1,e',x',g2,g3,g4,g5,g6⟩:=h.at_ i k' row' hi
        refine ⟨g1,e',x',?_,g3,g4,g5,hst _ (List.mem_of_getElem? hi) _ g6⟩
        rw [modify_get,if_neg e]; exact g2
theorem run_del (hK:KeyT P k m) (hT:P.underlying T=some (.map k e)) {ty:TypeId} (hb:w.heap[g]?=some (.map es clock)) (h:EntsAt m l w es clock en) (hv:m.kp v) :
    ∃ en' es',DelE en v en'∧(Builtin.delete_ #[T,k] ty #[.map (some g),v]).run P w=.ok (.tuple #[]) (setBlock w g (.map es' clock)) ∧
      ∀ l' w',(∀ e∈en,∀ x,RL l w e.2 x→RL l' w' e.2 x)→EntsAt m l' w' es' clock en':=by
  rcases h.find hK hv w with ⟨h1,h2⟩ | ⟨j,e0,row0,x0,h1,h2,h3,h4,h5,h6,h7⟩
  · refine ⟨en,es,.inr ⟨h2,rfl⟩,?_,fun l' w' hst=>h.imp hst⟩
    simp [Builtin.delete_,run_underlying hT,MapKept.run_getObj_map hb,kcheck hK hv,h1,MapKept.run_setObj_map _ hb,setBlock]
  · have hjl:=(Array.getElem?_eq_some_iff.1 h2).1
    have hjn:=(List.getElem?_eq_some_iff.1 h3).1
    refine ⟨en.eraseIdx j,es.eraseIdxIfInBounds j,.inl ⟨j,row0,h3,rfl⟩,?_,fun l' w' hst=>?_⟩
    · simp [Builtin.delete_,run_underlying hT,MapKept.run_getObj_map hb,kcheck hK hv,h1,MapKept.run_setObj_map _ hb,setBlock]
    · have hl:(es.eraseIdxIfInBounds j).toList=es.toList.eraseIdx j:=by simp [Array.eraseIdxIfInBounds,hjl]
      refine ⟨?_,?_,?_,?_,?_⟩
      · have:=congrArg List.length hl
        simp only [Array.length_toList,List.length_eraseIdx,hjl,hjn,if_true] at this ⊢
        rw [this,h.len]
      · intro e he
        rw [hl] at he
        exact h.born e (List.mem_of_mem_eraseIdx he)
      · rw [hl]
        exact h.nodup.sublist ((List.eraseIdx_sublist _ _).map _)
      · exact h.keys.sublist ((List.eraseIdx_sublist _ _).map _)
      · intro i k' row' hi
        rw [List.getElem?_eraseIdx] at hi
        have hget:∀ q,(es.eraseIdxIfInBounds j)[q]?=(es.toList.eraseIdx j)[q]?:=fun q=>by rw [← Array.getElem?_toList,hl]
        by_cases e:i < j
        · rw [if_pos e] at hi
          obtain ⟨g1,e',x',g2,g3,g4,g5,g6⟩:=h.at_ i k' row' hi
          exact ⟨g1,e',x',by rw [hget,List.getElem?_eraseIdx,if_pos e,Array.getElem?_toList]; exact g2,g3,g4,g5,hst _ (List.mem_of_getElem? hi) _ g6⟩
        · rw [if_neg e] at hi
          obtain ⟨g1,e',x',g2,g3,g4,g5,g6⟩:=h.at_ (i+1) k' row' hi
          exact ⟨g1,e',x',by rw [hget,List.getElem?_eraseIdx,if_neg e,Array.getElem?_toList]; exact g2,g3,g4,g5,hst _ (List.mem_of_getElem? hi) _ g6⟩
end runs
end Cin

namespace Cin
open Go Go.RowKit
open Go.ChangeMaps (setBlock)
section write
variable {B:Bd} {g:Nat} {D:TypeId→Bool} {S':Nat→Prop} {u w:World} {a v:AV}
theorem setS_o (hw:Goes B (·=g) D u w) (hS:Gr u B.S S') (hM:∀ b o,u.heap[b]?=some o→NotCells o→b=g→¬ B.S b) (ht:∀ b c t' f,u.heap[b]?=some (Obj.cells c t' f)→b≠g) (ha:∀ c o,RepV B u a c o→o=[g]∧RepV (B.sh S') w v c o) :
    ∀ {s:List AV} {k:Nat} {cs:List Value} {os:List Nat},RepS B u s cs os→lookS s k=some a→(junkS s k).all (AV.okD D)=true→os.Nodup→RepS (B.sh S') w (setS v s k) cs os
  | [],_,_,_,_,h,_,_=>by simp [lookS] at h
  | b::r,0,_,_,⟨c1,c2,o1,o2,e,e2,h1,h2⟩,h,hD,hn=>by
    simp only [lookS,Option.some.injEq] at h
    subst h
    obtain ⟨rfl,hv⟩:=ha _ _ h1
    simp only [junkS,List.all_cons,Bool.and_eq_true] at hD
    subst e2
    have hg:g ∉ o2:=by have:=hn; simp at this; exact this.1
    exact ⟨c1,c2,[g],o2,e,rfl,hv,h2.goes hw hS hM hD.2 (fun b c t' f hb hx=>absurd hx (ht b c t' f hb)) (fun g' hg' e'=>hg (e' ▸ hg'))⟩
  | b::r,k+1,_,_,⟨c1,c2,o1,o2,e,e2,h1,h2⟩,h,hD,hn=>by
    simp only [lookS] at h
    simp only [junkS,List.all_cons,Bool.and_eq_true] at hD
    cases hb:Nat.ble b.n (k+1) with
    | false=>rw [hb] at h; cases h
    | true=>
      rw [hb] at h
      obtain ⟨_,c,_,p1,p,p2,_,_,e5,h3⟩:=lookS_ok h2 h
      obtain ⟨rfl,_⟩:=ha _ _ h3
      subst e2
      have hg:g ∉ o1:=fun hg=>(List.nodup_append.1 hn).2.2 g hg g (by rw [e5]; simp) rfl
      exact ⟨c1,c2,o1,o2,e,rfl,h1.goes hw hS hD.1 (fun b c t' f hb hx=>absurd hx (ht b c t' f hb)) hM (fun g' hg' e'=>hg (e' ▸ hg')),setS_o hw hS hM ht ha h2 h hD.2 (List.nodup_append.1 hn).2.1⟩
theorem setAt_o (hw:Goes B (·=g) D u w) (hS:Gr u B.S S') (hM:∀ b o,u.heap[b]?=some o→NotCells o→b=g→¬ B.S b) (ht:∀ b c t' f,u.heap[b]?=some (Obj.cells c t' f)→b≠g) (ha:∀ c o,RepV B u a c o→o=[g]∧RepV (B.sh S') w v c o) :
    ∀ {Γ:List (List AV)} {i k:Nat} {E:Env} {os:List Nat},RepE B u Γ E os→look Γ i k=some a→okE D (junkAt Γ i k)=true→os.Nodup→RepE (B.sh S') w (setAt v Γ i k) E os
  | [],_,_,_,_,_,h,_,_=>by simp [look] at h
  | s::Γ,0,k,_,_,⟨cs,E',o1,o2,e,e2,h1,h2⟩,h,hD,hn=>by
    have h':lookS s k=some a:=by simpa [look] using h
    obtain ⟨_,c,_,p1,p,p2,_,_,e5,h3⟩:=lookS_ok h1 h'
    obtain ⟨rfl,_⟩:=ha _ _ h3
    simp only [okE,junkAt,List.all_cons,Bool.and_eq_true] at hD
    subst e2
    have hg:g ∉ o2:=fun hg=>(List.nodup_append.1 hn).2.2 g (by rw [e5]; simp) g hg rfl
    exact ⟨cs,E',o1,o2,e,rfl,setS_o hw hS hM ht ha h1 h' hD.1 (List.nodup_append.1 hn).1,h2.goes hw hS hM hD.2 (fun b c t' f hb hx=>absurd hx (ht b c t' f hb)) (fun g' hg' e'=>hg (e' ▸ hg'))⟩
  | s::Γ,i+1,k,_,_,⟨cs,E',o1,o2,e,e2,h1,h2⟩,h,hD,hn=>by
    have h':look Γ i k=some a:=by simpa [look] using h
    obtain ⟨c,o,h3,_,hin⟩:=look_ok h2 h'
    obtain ⟨rfl,_⟩:=ha _ _ h3
    simp only [okE,junkAt,List.all_cons,Bool.and_eq_true] at hD
    subst e2
    have hg:g ∉ o1:=fun hg=>(List.nodup_append.1 hn).2.2 g hg g (hin g (by simp)) rfl
    exact ⟨cs,E',o1,o2,e,rfl,h1.goes hw hS hM hD.1 (fun b c t' f hb hx=>absurd hx (ht b c t' f hb)) (fun g' hg' e'=>hg (e' ▸ hg')),setAt_o hw hS hM ht ha h2 h' hD.2 (List.nodup_append.1 hn).2.1⟩
end write
section rules
variable {P:Program} {J:Jd} {w0:W0} {D:TypeId→Bool} {Post:Ending→World→Prop} {K:LK} {Γ:List (List AV)} {k:Tr}
theorem setBlock_goes {S:Nat→Prop} {w w1:World} {g:Nat} (hB:(w0.bd S).ow g) (h1:w1.heap=w.heap) (o:Obj):Goes (w0.bd S) (·=g) D w (setBlock w1 g o):=
  ⟨by rw [setBlock_size,h1]; exact Nat.le_refl _,fun b hb=>by
    rw [setBlock_other o (fun e=>?_),h1]
    subst e
    rcases hB with h | h
    · have h2:b < w0.w.heap.size:=hb.1
      have h:w0.w.heap.size≤b:=h
      omega
    · exact hb.2 h,fun b c t' f hb _ hne=>by rw [setBlock_other o hne,h1]; exact hb,fun b o' hb _ hne=>by rw [setBlock_other o hne,h1]; exact hb⟩
theorem Knows.obj {Γ:List (List AV)} {E:Env} {u:Gh} {w w1:World} {g a b:Nat} {av v:AV} {os:List Nat} {S:Nat→Prop} {o0 o:Obj} (h1:Bx w0.bs w1) (h2:okE D Γ=true) (hn:os.Nodup) (hS:SOk w0 S ⟨w,u.S⟩) (hr:RepE (w0.bd S) w Γ E os) (hw1:w1.heap=w.heap)
    (hg:w.heap[g]?=some o0) (hno:NotCells o0) (hno':NotCells o) (hB:(w0.bd S).ow g∧¬ S g) (hl:look Γ a b=some av) (hv:v.okD D=true)
    (ha:∀ c os,RepV (w0.bd S) w av c os→os=[g]∧RepV (w0.bd (Gh.more ⟨w,S⟩ w (setBlock w1 g o)).S) (setBlock w1 g o) v c os):Knows w0 D (setAt v Γ a b) E (u.more w (setBlock w1 g o)):=
  ⟨h1.setBlock hB.1 o,setAt_okE hv h2,os,_,hn,hS.more (by have:=h1.size; rw [hw1] at this; exact this) (by rw [setBlock_size,hw1]; exact Nat.le_refl _) (fun b c t' f _ hc hlt=>by
    by_cases e:b=g
    · subst e
      rw [setBlock_same (by rw [hw1]; exact hg)] at hc
      cases hc
      exact absurd rfl (hno' _ _ _)
    · rw [setBlock_other o e,hw1] at hc; exact ⟨_,_,_,hc⟩),
    setAt_o (B:=w0.bd S) (setBlock_goes hB.1 hw1 o) (Gr.more (Nat.le_refl _)) (fun b o hb hno e=>e ▸ hB.2) (fun b c t' f hb e=>by subst e; rw [hg] at hb; cases hb; exact hno _ _ _ rfl) ha hr hl (junkAt_okE h2) hn⟩
theorem aMakeMap {T k' e ty:TypeId} {r:Option Operand} {ar:List V1} (m:Mty) {Γ':Nat→List (List AV)} (hk:∀ g,AW P J w0 D Post K (Γ' g) k) (hT:P.underlying T=some (.map k' e):=by kernel_rfl) (hr:r=none∨∃ q x κ n,r=some q∧ar=[x]∧knownV Γ x=some (.int κ n)∧∀ E:Env,pe ([x].map (V1.den [] E)) q=x.den [] E:=by exact .inl rfl)
    (hD:m.nu.all D=true:=by rfl) (hΓ:∀ g,Γ++[[.ro true (pV (.map (some g))),.map g m []]]=Γ' g:=by intros; (simp only [List.cons_append,List.nil_append]) <;> exact rfl) :
    AW P J w0 D Post K Γ (.em (.wx (.makeMap T r) ty ar (some none)) k):=by
  intro hJ L E u hL hk0 w he hbw
  have h2:=hk0.ext he hbw
  obtain ⟨hb1x,hD1,os,S,hnd,hS,hrep⟩:=id h2
  have hb:=bel_alloc w (.map #[] 0)
  refine ⟨[.map (some w.heap.size)],w.alloc (.map #[] 0),?_,rfl,ChgS.of_below hb,hbw.on hb,hk w.heap.size hJ L _ _ hL.ext ?_⟩
  · show (execOp _ _).run P w=.ok (.value (.map (some w.heap.size))) _
    rcases hr with rfl | ⟨q,x,κ,n,rfl,rfl,hkx,hq⟩
    · simp only [execOp,Option.map_none]
      simp [Instr.makeMap]
    · simp only [execOp,Option.map_some,hq,knownV_ok hrep hkx]
      simp [Instr.makeMap,run_underlying hT,asInt,asIntOf]
  · rw [← hΓ]
    have hnew:(w.alloc (.map #[] 0)).heap[w.heap.size]?=some (.map #[] 0):=heap_alloc_new w _
    obtain ⟨hr',hlt⟩:=rep_new (u:=u) (w':=w.alloc (.map #[] 0)) hb1x hD1 hS hrep hb
    have hr2:RepE (w0.bd S) (w.alloc (.map #[] 0)) Γ E os:=RepE.goes (B:=w0.bd S) (Goes.of_ext (u:=⟨w,u.S⟩) hS hb1x (hb1x.on hb) ((ExtS.refl D ⟨w,u.S⟩).below hb)) (Gr.refl _ _) (fun _ _ _ _ h=>h.elim) hrep hD1 (fun _ _ _ _ _ h=>h.elim) (fun _ _ h=>h)
    refine ⟨hbw.on hb,?_,os++[w.heap.size],S,?_,⟨hS.base,fun b hb3=>?_⟩,hr2.snoc ⟨[.map (some w.heap.size)],[],[],[w.heap.size],rfl,rfl,⟨⟨rfl,rfl⟩,rfl⟩,RepS.one_of ⟨fun e he=>(by cases he),rfl,rfl,⟨.inl hbw.size,fun hs=>Nat.lt_irrefl _ (hS.at_ _ hs).2.1⟩,#[],0,hnew,⟨rfl,fun e he=>(by simp at he),(by simp),(by simp),fun i k row hi=>(by simp at hi)⟩⟩⟩⟩
    · unfold okE at *; rw [List.all_append,hD1]; simpa [AV.okD,pV] using hD
    · exact List.nodup_append.2 ⟨hnd,by simp,fun a ha b hb e=>by have h5:a < w.heap.size:=hlt a ha; simp at hb; omega⟩
    · exact (hS.below hbw.size hb).at_ b (.inl hb3)
def MapIn (Γ:List (List AV)) (x:V1) (m:Mty) (en:Ents):Prop:=∀ (B:Bd) (w:World) (E:Env) (os:List Nat),RepE B w Γ E os→MapAt B.nn w (x.den [] E) m en
theorem MapIn.ro {i j:Nat} {m:Mty} {en:Ents} (hl:(look Γ i j).bind AV.pd=some (pMap m en)):MapIn Γ (.s (.c i j)) m en:=fun B w E os hr=>by
  obtain ⟨c,h1,h2⟩:=look_pd hr hl
  have hd:=h2 0
  rcases h1.2 with ⟨rfl,rfl⟩ | ⟨b,es,clock,rfl,hb,_,hat⟩
  · exact .inl ⟨hd _ rfl,rfl⟩
  · exact .inr ⟨b,es,clock,hd _ rfl,hb,hat⟩
theorem MapIn.own {x:V1} {a b g:Nat} {m:Mty} {en:Ents} (hx:knownV Γ x=some (.map (some g))) (hl:look Γ a b=some (.map g m en)):MapIn Γ x m en:=fun B w E os hr=>by
  obtain ⟨c,o,h1,_,_⟩:=look_ok hr hl
  obtain ⟨_,_,_,_,es,clock,hg,hat⟩:=h1
  exact .inr ⟨g,es,clock,knownV_ok hr hx,hg,hat⟩
theorem MapIn.fit_okD {row:List Pd} {m:Mty} (hf:∀ p∈row,Sub p.nu m.nu∧Sub p.sl m.sl) (h1:m.nu.all D=true):(row.map (AV.ro false)).all (AV.okD D)=true:=by
  rw [List.all_eq_true]
  intro a ha
  obtain ⟨p,hp,rfl⟩:=List.mem_map.1 ha
  simp only [AV.okD,List.all_eq_true]
  refine fun t ht=>List.all_eq_true.1 h1 t ?_
  simpa using (hf p hp).1 t (by simpa using ht)
theorem aLookOk {T kt e ty:TypeId} {q0 q1:Operand} {xm xk:V1} {kv:Value} {m:Mty} {en:Ents} {zs:List Value} (hm:MapIn Γ xm m en) (hx:knownV Γ xk=some kv) (hkp:m.kp kv) (hK:KeyT P kt m) (hfit:m.Fit en)
    (hk1:∀ row,(kv,row)∈en→AW P J w0 D Post K (Γ++[row.map (.ro false)++[.ro true (pV (.bool true))]]) k) (hk2:(∀ row,(kv,row) ∉ en)→AW P J w0 D Post K (Γ++[zs.map (fun v=>.ro true (pV v))++[.ro true (pV (.bool false))]]) k)
    (hT:P.underlying T=some (.map kt e):=by kernel_rfl) (hz:zeroC P e=some zs:=by kernel_rfl) (hzs:(zs.length == m.sh.getD 1 && zs.all Value.oneCell')=true:=by rfl) (hzv:(P.info? e).bind (·.zero)=some ((v1of 0 0 m.sh).den [] [zs]):=by kernel_rfl)
    (hD:m.nu.all D=true:=by rfl) (hq:∀ E:Env,pe ([xm,xk].map (V1.den [] E)) q0=xm.den [] E∧pe ([xm,xk].map (V1.den [] E)) q1=xk.den [] E:=by intros; exact ⟨rfl,rfl⟩) :
    AW P J w0 D Post K Γ (.em (.lt (.lookup T q0 q1 true) ty [xm,xk] [m.sh,none]) k):=by
  intro hJ L E u hL hk0
  obtain ⟨hb1x,hD1,os,S,hnd,hS,hrep⟩:=id hk0
  have hmap:=hm _ _ _ _ hrep
  have hkd:=knownV_ok hrep hx
  obtain ⟨ie,z,hie,hz1,_⟩:=zeroC_of hz
  rw [hie,Option.bind_some,hz1] at hzv
  cases hzv
  simp only [Bool.and_eq_true,beq_iff_eq] at hzs
  have hden:∀ (cs:List Value) (b:Bool),cs.length=m.sh.getD 1→(mkSV [m.sh,none] 0).den [] [cs++[.bool b]]=.tuple #[(v1of 0 0 m.sh).den [] [cs],.bool b]:=by
    intro cs b hc
    have e1:(v1of 0 0 m.sh).den [] [cs++[.bool b]]=(v1of 0 0 m.sh).den [] [cs]:=by
      cases hsh:m.sh with
      | none=>
        rw [hsh] at hc
        match cs,hc with
        | [c],_=>rfl
      | some n=>
        rw [hsh] at hc
        simp only [v1of,V1.den,List.map_map]
        congr 2
        refine List.map_congr_left fun j hj=>?_
        have:j < cs.length:=by
          simp only [Option.getD_some] at hc
          simp [List.mem_range'_1] at hj; omega
        simp [A.den,List.getElem?_append_left this]
    have e2:(v1of 0 (0+m.sh.getD 1) none).den [] [cs++[.bool b]]=.bool b:=by simp [v1of,V1.den,A.den,← hc]
    simp only [mkSV,svs,SV.den,List.map_cons,List.map_nil,e1,e2]
  rcases run_look hK hT hie hz1 hmap hkp true with ⟨hno,hrun⟩ | ⟨row,x,hmem,hxl,hxr,hrun⟩
  · refine ⟨zs++[.bool false],by simp [List.all_append,hzs.2,Value.oneCell'],fun w he hb=>?_,hk2 hno hJ L _ u hL.ext ?_⟩
    · rw [hden zs false hzs.1]
      have h3:=hrun w (fun b o h1 h2=>he.obj b o h1 h2)
      simp only [execOp,(hq E).1,(hq E).2,hkd]
      simp [h3]
    · refine Knows.mk1 hb1x hD1 hnd hS hrep ?_ ?_
      · exact RepS.app (o:=[]) (o':=[]) (s:=zs.map fun v=>.ro true (pV v)) (by
          have:∀ {zs:List Value},zs.all Value.oneCell'=true→RepS (w0.bd S) u.w (zs.map fun v=>.ro true (pV v)) zs []:=by
            intro zs
            induction zs with
            | nil=>intro _; exact ⟨rfl,rfl⟩
            | cons z zs ih=>
              intro h
              simp only [List.all_cons,Bool.and_eq_true] at h
              exact ⟨[z],zs,[],[],rfl,rfl,⟨⟨rfl,h.1⟩,rfl⟩,ih h.2⟩
          exact this hzs.2) (RepS.one_of ⟨⟨rfl,rfl⟩,rfl⟩)
      · simp [List.all_append,AV.okD,pV]
  · refine ⟨x++[.bool true],by simp [List.all_append,hxr.one,Value.oneCell'],fun w he hb=>?_,hk1 row hmem hJ L _ u hL.ext ?_⟩
    · rw [hden x true hxl]
      have h3:=hrun w (fun b o h1 h2=>he.obj b o h1 h2)
      simp only [execOp,(hq E).1,(hq E).2,hkd]
      simp [h3]
    · refine Knows.mk1 hb1x hD1 hnd hS hrep ?_ ?_
      · exact RepS.app (o:=[]) (o':=[]) (RL.slot (B:=w0.bd S) (o:=false) hxr) (RepS.one_of ⟨⟨rfl,rfl⟩,rfl⟩)
      · rw [List.all_append,MapIn.fit_okD (hfit _ hmem) hD]; simp [AV.okD,pV]
theorem aLook {T kt e ty:TypeId} {q0 q1:Operand} {xm xk:V1} {kv:Value} {m:Mty} {en:Ents} {zs:List Value} (hm:MapIn Γ xm m en) (hx:knownV Γ xk=some kv) (hkp:m.kp kv) (hK:KeyT P kt m) (hfit:m.Fit en)
    (hk1:∀ row,(kv,row)∈en→AW P J w0 D Post K (Γ++[row.map (.ro false)]) k) (hk2:(∀ row,(kv,row) ∉ en)→AW P J w0 D Post K (Γ++[zs.map (fun v=>.ro true (pV v))]) k)
    (hT:P.underlying T=some (.map kt e):=by kernel_rfl) (hz:zeroC P e=some zs:=by kernel_rfl) (hzs:(zs.length == m.sh.getD 1 && zs.all Value.oneCell')=true:=by rfl) (hzv:(P.info? e).bind (·.zero)=some ((v1of 0 0 m.sh).den [] [zs]):=by kernel_rfl)
    (hD:m.nu.all D=true:=by rfl) (hq:∀ E:Env,pe ([xm,xk].map (V1.den [] E)) q0=xm.den [] E∧pe ([xm,xk].map (V1.den [] E)) q1=xk.den [] E:=by intros; exact ⟨rfl,rfl⟩) :
    AW P J w0 D Post K Γ (.em (.ld (.lookup T q0 q1 false) ty [xm,xk] m.sh) k):=by
  intro hJ L E u hL hk0
  obtain ⟨hb1x,hD1,os,S,hnd,hS,hrep⟩:=id hk0
  have hmap:=hm _ _ _ _ hrep
  have hkd:=knownV_ok hrep hx
  obtain ⟨ie,z,hie,hz1,_⟩:=zeroC_of hz
  rw [hie,Option.bind_some,hz1] at hzv
  cases hzv
  simp only [Bool.and_eq_true,beq_iff_eq] at hzs
  rcases run_look hK hT hie hz1 hmap hkp false with ⟨hno,hrun⟩ | ⟨row,x,hmem,hxl,hxr,hrun⟩
  · refine ⟨zs,hzs.2,fun w he hb=>?_,hk2 hno hJ L _ u hL.ext ?_⟩
    · have h3:=hrun w (fun b o h1 h2=>he.obj b o h1 h2)
      simp only [execOp,(hq E).1,(hq E).2,hkd]
      simp [h3]
    · refine Knows.mk1 hb1x hD1 hnd hS hrep ?_ ?_
      · have:∀ {zs:List Value},zs.all Value.oneCell'=true→RepS (w0.bd S) u.w (zs.map fun v=>.ro true (pV v)) zs []:=by
          intro zs
          induction zs with
          | nil=>intro _; exact ⟨rfl,rfl⟩
          | cons z zs ih=>
            intro h
            simp only [List.all_cons,Bool.and_eq_true] at h
            exact ⟨[z],zs,[],[],rfl,rfl,⟨⟨rfl,h.1⟩,rfl⟩,ih h.2⟩
        exact this hzs.2
      · simp [AV.okD,pV]
  · refine ⟨x,hxr.one,fun w he hb=>?_,hk1 row hmem hJ L _ u hL.ext ?_⟩
    · have h3:=hrun w (fun b o h1 h2=>he.obj b o h1 h2)
      simp only [execOp,(hq E).1,(hq E).2,hkd]
      simp [h3]
    · exact Knows.mk1 hb1x hD1 hnd hS hrep (RL.slot (B:=w0.bd S) (o:=false) hxr) (MapIn.fit_okD (hfit _ hmem) hD)
theorem aLenM {T kt e ty:TypeId} {q:Operand} {x:V1} {m:Mty} {en:Ents} {Γ':List (List AV)} (hm:MapIn Γ x m en) (hk:AW P J w0 D Post K Γ' k) (hT:P.underlying T=some (.map kt e):=by kernel_rfl) (hq:∀ E:Env,pe [x.den [] E] q=x.den [] E:=by intros; rfl)
    (hΓ:Γ++[[.ro true (pV (.int .i64 en.length))]]=Γ':=by (simp only [List.cons_append,List.nil_append]) <;> exact rfl):AW P J w0 D Post K Γ (.em (.ld (.call { callee:=.builtin .len,args:=#[q],argTypes:=#[T] }) ty [x] none) k):=by
  intro hJ L E u hL hk0
  obtain ⟨hb1x,hD1,os,S,hnd,hS,hrep⟩:=id hk0
  have hmap:=hm _ _ _ _ hrep
  refine ⟨[.int .i64 en.length],rfl,fun w he hb=>?_,hk hJ L _ u hL.ext (hΓ ▸ hk0.val rfl)⟩
  simp only [execOp,List.map_cons,List.map_nil]
  rcases hmap with ⟨e,rfl⟩ | ⟨b,es,clock,e,hbm,hat⟩
  · have hq':=hq E
    rw [e] at hq'
    simp [resolve,hq',e,invoke,builtin,Builtin.len_,run_underlying hT,goInt]
    rfl
  · have hb':w.heap[b]?=some (.map es clock):=he.obj b _ hbm (notCells_map _ _)
    have hq':=hq E
    rw [e] at hq'
    simp [resolve,hq',e,invoke,builtin,Builtin.len_,run_underlying hT,goInt,MapKept.run_getObj_map hb',hat.len]
    rfl
theorem aPut (a b:Nat) {T kt e ty:TypeId} {q0 q1 q2:Operand} {xm xk y:V1} {kv:Value} {g:Nat} {m:Mty} {en:Ents} {row:List Pd} (hxm:knownV Γ xm=some (.map (some g))) (hl:look Γ a b=some (.map g m en)) (hx:knownV Γ xk=some kv) (hkp:m.kp kv) (hK:KeyT P kt m) (hy:gath Γ y.atoms.length y.atoms=some row)
    {Γ':Ents→List (List AV)} (hk:∀ en',PutE en kv row en'→m.Fit en'→AW P J w0 D Post K (Γ' en') k) (hsh:y.shp=m.sh:=by rfl) (hfit:(row.all fun p=>p.nu.all m.nu.contains && p.sl.all m.sl.contains)=true:=by rfl) (hT:P.underlying T=some (.map kt e):=by kernel_rfl) (hD:m.nu.all D=true:=by rfl)
    (hq:∀ E:Env,pe ([xm,xk,y].map (V1.den [] E)) q0=xm.den [] E∧pe ([xm,xk,y].map (V1.den [] E)) q1=xk.den [] E∧pe ([xm,xk,y].map (V1.den [] E)) q2=y.den [] E:=by intros; exact ⟨rfl,rfl,rfl⟩)
    (hΓ:∀ en',setAt (.map g m en') Γ a b++[[]]=Γ' en':=by intros; (simp only [setAt,setS,AV.n,List.cons_append,List.nil_append]) <;> exact rfl) :
    AW P J w0 D Post K Γ (.em (.wx (.mapUpdate T q0 q1 q2) ty [xm,xk,y] none) k):=by
  intro hJ L E u hL hk0 w he hbw
  have h2:=hk0.ext he hbw
  obtain ⟨hb1x,hD1,os,S,hnd,hS,hrep⟩:=id h2
  obtain ⟨c,oo,hv,_,_⟩:=look_ok hrep hl
  obtain ⟨hf,rfl,rfl,hB,es,clock,hg,hat⟩:=hv
  have hrow:=gath_ok hrep hy
  have hval:y.den [] E=(v1of 0 0 m.sh).den [] [y.atoms.map (A.den [] E)]:=by
    have:=v1of_at E y [] []
    simp only [List.nil_append,List.append_nil,List.length_nil] at this
    rw [← hsh,this]
  have hlen:(y.atoms.map (A.den [] E)).length=m.sh.getD 1:=by rw [← hsh]; cases y <;> simp [V1.shp,V1.atoms]
  obtain ⟨en',es',clock',hput,hrun,hat'⟩:=run_put (T:=T) (row:=row) (x:=y.atoms.map (A.den [] E)) hK hT hg hat hkp hlen
  have hrf:∀ p∈row,Sub p.nu m.nu∧Sub p.sl m.sl:=fun p hp=>by
    have:=List.all_eq_true.1 hfit p hp
    simp only [Bool.and_eq_true,List.all_eq_true] at this
    exact ⟨fun t ht=>this.1 t (by simpa using ht),fun t ht=>this.2 t (by simpa using ht)⟩
  have hf':m.Fit en':=by
    rcases hput with ⟨i,r0,hi,rfl⟩ | ⟨_,rfl⟩
    · intro e he p hp
      rcases List.mem_or_eq_of_mem_set he with he | rfl
      · exact hf e he p hp
      · exact hrf p hp
    · intro e he p hp
      rcases List.mem_append.1 he with he | he
      · exact hf e he p hp
      · simp at he; subst he; exact hrf p hp
  have hgo:=setBlock_goes (w0:=w0) (D:=D) (S:=S) (w:=w) (w1:=w) hB.1 rfl (.map es' clock')
  have hM:∀ b o,w.heap[b]?=some o→NotCells o→b=g→¬ S b:=fun b o _ _ e=>e ▸ hB.2
  have hcv:∀ b c t f,w.heap[b]?=some (Obj.cells c t f)→b=g→m.nu.contains t=false∧m.sl.contains t=false:=fun b c t f hb e=>by subst e; rw [hg] at hb; cases hb
  have hrl:∀ {row:List Pd} {x:List Value},(∀ p∈row,Sub p.nu m.nu∧Sub p.sl m.sl)→RL (w0.bd S).nn w row x→RL (w0.bd (Gh.more ⟨w,S⟩ w (setBlock w g (.map es' clock'))).S).nn (setBlock w g (.map es' clock')) row x:=fun hf hx=>
    Goes.rl (B:=w0.bd S) (S':=(Gh.more ⟨w,S⟩ w (setBlock w g (.map es' clock'))).S) hgo (fun _ h=>.inl h) hD hcv hM hf hx
  have hng:¬ (Gh.more ⟨w,S⟩ w (setBlock w g (.map es' clock'))).S g:=fun h=>h.elim hB.2 (fun h=>by have h5:w.heap.size≤g:=h.1; have h6:g < w.heap.size:=(Array.getElem?_eq_some_iff.1 hg).1; omega)
  refine ⟨[],setBlock w g (.map es' clock'),?_,rfl,⟨by rw [setBlock_size]; exact Nat.le_refl _,fun b c t f hb _=>?_⟩,hbw.setBlock hB.1 _,hk en' hput hf' hJ L _ _ hL.ext ?_⟩
  · show (execOp _ _).run P w=.ok .skip _
    simp only [execOp,(hq E).1,(hq E).2.1,(hq E).2.2,knownV_ok hrep hxm,knownV_ok hrep hx,hval]
    simp [hrun]
  · rw [setBlock_other _ (fun e=>?_)]; exact hb
    subst e; rw [hg] at hb; cases hb
  · rw [← hΓ]
    have:=Knows.obj (u:=u) (D:=D) (v:=.map g m en') (o:=.map es' clock') hb1x hD1 hnd hS hrep rfl hg (notCells_map _ _) (notCells_map _ _) hB hl hD (fun c os hc=>by
      obtain ⟨_,rfl,rfl,_,_⟩:=hc
      exact ⟨rfl,hf',rfl,rfl,⟨hB.1,hng⟩,es',clock',setBlock_same hg _,hat' _ _ (fun e he x hx=>hrl (fun p hp=>hf e he p hp) hx) (hrl hrf hrow)⟩)
    exact this.snoc (fun os _ _ hr=>⟨[],⟨rfl,rfl⟩,List.nodup_nil,fun g hg=>by cases hg⟩) rfl
theorem aDel (a b:Nat) {T kt e ty:TypeId} {q0 q1:Operand} {xm xk:V1} {kv:Value} {g:Nat} {m:Mty} {en:Ents} (hxm:knownV Γ xm=some (.map (some g))) (hl:look Γ a b=some (.map g m en)) (hx:knownV Γ xk=some kv) (hkp:m.kp kv) (hK:KeyT P kt m)
    {Γ':Ents→List (List AV)} (hk:∀ en',DelE en kv en'→m.Fit en'→AW P J w0 D Post K (Γ' en') k) (hT:P.underlying T=some (.map kt e):=by kernel_rfl) (hD:m.nu.all D=true:=by rfl)
    (hq:∀ E:Env,pe ([xm,xk].map (V1.den [] E)) q0=xm.den [] E∧pe ([xm,xk].map (V1.den [] E)) q1=xk.den [] E:=by intros; exact ⟨rfl,rfl⟩)
    (hΓ:∀ en',setAt (.map g m en') Γ a b++[[]]=Γ' en':=by intros; (simp only [setAt,setS,AV.n,List.cons_append,List.nil_append]) <;> exact rfl) :
    AW P J w0 D Post K Γ (.em (.wt (.call { callee:=.builtin .delete,args:=#[q0,q1],argTypes:=#[T,kt] }) ty [xm,xk] []) k):=by
  intro hJ L E u hL hk0 w he hbw
  have h2:=hk0.ext he hbw
  obtain ⟨hb1x,hD1,os,S,hnd,hS,hrep⟩:=id h2
  obtain ⟨c,oo,hv,_,_⟩:=look_ok hrep hl
  obtain ⟨hf,rfl,rfl,hB,es,clock,hg,hat⟩:=hv
  obtain ⟨en',es',hdel,hrun,hat'⟩:=run_del (T:=T) (ty:=ty) hK hT hg hat hkp
  have hsub:∀ e∈en',e∈en:=by
    rcases hdel with ⟨i,r0,hi,rfl⟩ | ⟨_,rfl⟩
    · exact fun e he=>List.mem_of_mem_eraseIdx he
    · exact fun e he=>he
  have hf':m.Fit en':=fun e he p hp=>hf e (hsub e he) p hp
  have hgo:=setBlock_goes (w0:=w0) (D:=D) (S:=S) (w:=w) (w1:=w) hB.1 rfl (.map es' clock)
  have hM:∀ b o,w.heap[b]?=some o→NotCells o→b=g→¬ S b:=fun b o _ _ e=>e ▸ hB.2
  have hcv:∀ b c t f,w.heap[b]?=some (Obj.cells c t f)→b=g→m.nu.contains t=false∧m.sl.contains t=false:=fun b c t f hb e=>by subst e; rw [hg] at hb; cases hb
  have hrl:∀ {row:List Pd} {x:List Value},(∀ p∈row,Sub p.nu m.nu∧Sub p.sl m.sl)→RL (w0.bd S).nn w row x→RL (w0.bd (Gh.more ⟨w,S⟩ w (setBlock w g (.map es' clock))).S).nn (setBlock w g (.map es' clock)) row x:=fun hf hx=>
    Goes.rl (B:=w0.bd S) (S':=(Gh.more ⟨w,S⟩ w (setBlock w g (.map es' clock))).S) hgo (fun _ h=>.inl h) hD hcv hM hf hx
  have hng:¬ (Gh.more ⟨w,S⟩ w (setBlock w g (.map es' clock))).S g:=fun h=>h.elim hB.2 (fun h=>by have h5:w.heap.size≤g:=h.1; have h6:g < w.heap.size:=(Array.getElem?_eq_some_iff.1 hg).1; omega)
  refine ⟨[],setBlock w g (.map es' clock),?_,rfl,⟨by rw [setBlock_size]; exact Nat.le_refl _,fun b c t f hb _=>?_⟩,hbw.setBlock hB.1 _,hk en' hdel hf' hJ L _ _ hL.ext ?_⟩
  · show (execOp _ _).run P w=.ok (.value (.tuple #[])) _
    have h1:=(hq E).1
    have h2:=(hq E).2
    have kx:=knownV_ok hrep hxm
    have kk:=knownV_ok hrep hx
    simp only [List.map_cons,List.map_nil,kx,kk] at h1 h2 ⊢
    simp only [execOp]
    simp [resolve,h1,h2,invoke,builtin,hrun]
  · rw [setBlock_other _ (fun e=>?_)]; exact hb
    subst e; rw [hg] at hb; cases hb
  · rw [← hΓ]
    have:=Knows.obj (u:=u) (D:=D) (v:=.map g m en') (o:=.map es' clock) hb1x hD1 hnd hS hrep rfl hg (notCells_map _ _) (notCells_map _ _) hB hl hD (fun c os hc=>by
      obtain ⟨_,rfl,rfl,_,_⟩:=hc
      exact ⟨rfl,hf',rfl,rfl,⟨hB.1,hng⟩,es',clock,setBlock_same hg _,hat' _ _ (fun e he x hx=>hrl (fun p hp=>hf e he p hp) hx)⟩)
    exact this.snoc (fun os _ _ hr=>⟨[],⟨rfl,rfl⟩,List.nodup_nil,fun g hg=>by cases hg⟩) rfl
end rules
end Cin
