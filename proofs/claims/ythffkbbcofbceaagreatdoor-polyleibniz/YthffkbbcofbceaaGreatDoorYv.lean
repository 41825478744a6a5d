/- Rules: slices grown; loops that write. No program. -/
import Derived.Test.YthffkbbcofbceaaGreatDoorYu
import Derived.Test.YthffkbbcofbceaaGreatDoorYq
import Derived.Laws.StructEq
import Derived.ChangeKeysEq
import Derived.ChangeSame
import Derived.WideShapes
import Derived.Laws.IdiomArrays
import Derived.Laws.Slices
namespace Cin
open Go Go.RowKit
theorem RowsAt.cells {l:Lm} {r:Rty} {w:World} {c:Array Value} {o:Nat} {rows:List (List Pd)} (h:RowsAt r l w c o rows) :
    ∃ xs:List (List Value),xs.length=rows.length∧(∀ (i:Nat) (row:List Pd) (x:List Value),rows[i]?=some row→xs[i]?=some x→x.length=r.n∧RL l w row x)∧∀ (k:Nat) (y:Value),xs.flatten[k]?=some y→c[o+k]?=some y:=by
  have hx:∀ i,∃ x:List Value,∀ row,rows[i]?=some row→x.length=r.n∧RL l w row x∧∀ (j:Nat) (y:Value),x[j]?=some y→c[o+i * r.n+j]?=some y:=by
    intro i
    cases hi:rows[i]? with
    | none=>exact ⟨[],fun row h=>by cases h⟩
    | some row=>
      obtain ⟨x,h1,h2,h3⟩:=h i row hi
      exact ⟨x,fun row' e=>by cases e; exact ⟨h1,h2,h3⟩⟩
  obtain ⟨F,hF⟩:∃ F:Nat→List Value,∀ (i:Nat) (row:List Pd),rows[i]?=some row→(F i).length=r.n∧RL l w row (F i)∧∀ (j:Nat) (y:Value),(F i)[j]?=some y→c[o+i * r.n+j]?=some y:=⟨fun i=>Classical.choose (hx i),fun i=>Classical.choose_spec (hx i)⟩
  refine ⟨(List.range rows.length).map F,by simp,?_,?_⟩
  · intro i row x hi hxi
    have hlt:=(List.getElem?_eq_some_iff.1 hi).1
    simp only [List.getElem?_map,List.getElem?_range hlt,Option.map_some,Option.some.injEq] at hxi
    subst hxi
    obtain ⟨h1,h2,_⟩:=hF i row hi
    exact ⟨h1,h2⟩
  · intro k y hk
    have hall:∀ x∈(List.range rows.length).map F,x.length=r.n:=by
      intro x hm
      obtain ⟨i,hi,rfl⟩:=List.mem_map.1 hm
      have hlt:i < rows.length:=by simpa using hi
      exact (hF i rows[i] (List.getElem?_eq_getElem hlt)).1
    have hfl:=flat_len hall
    rw [List.length_map,List.length_range] at hfl
    have hkl:=(List.getElem?_eq_some_iff.1 hk).1
    rw [hfl] at hkl
    have hn:0 < r.n:=by rcases Nat.eq_zero_or_pos r.n with h | h; rw [h] at hkl; omega; exact h
    have hi:k / r.n < rows.length:=(Nat.div_lt_iff_lt_mul hn).2 hkl
    have hj:k % r.n < r.n:=Nat.mod_lt _ hn
    obtain ⟨h1,_,h3⟩:=hF (k / r.n) rows[k / r.n] (List.getElem?_eq_getElem hi)
    have hkk:k / r.n * r.n+k % r.n=k:=by rw [Nat.mul_comm]; exact Nat.div_add_mod k r.n
    have e1:=flat_at (n:=r.n) (xs:=(List.range rows.length).map F) (i:=k / r.n) (j:=k % r.n) (x:=F (k / r.n)) (y:=(F (k / r.n))[k % r.n]'(by omega)) hall (by simp [hi]) (List.getElem?_eq_getElem (by omega))
    have e2:=h3 (k % r.n) _ (List.getElem?_eq_getElem (by omega))
    rw [hkk] at e1
    rw [Nat.add_assoc,hkk] at e2
    rw [e1] at hk
    cases hk
    exact e2
theorem append_core {P:Program} {B:Bd} {g:Nat} {r:Rty} {rows rows':List (List Pd)} {w:World} {v v2:Value} {os:List Nat} {T ty:TypeId} (h:OwnR B g r rows w [v] os) (h2:RowsR r rows' B.nn w [v2]) (hT:slTb P T r=true) (hz:∃ zs,zeroC P r.t=some zs∧zs.length=r.n) (hn0:1≤r.n)
    (hby:(P.info? r.t).map (fun i=>Nat.ble i.bytes 65536)=some true) (hlen:rows.length+rows'.length≤2000000000) (hB:B.b≤w.heap.size) (hself:r.nu.contains r.t=false∧r.sl.contains r.t=false) :
    ∃ (v':Value) (w':World) (g':Nat) (os':List Nat),(Builtin.append_ #[T,T] ty #[v,v2]).run P w=.ok v' w'∧w.grownBy w' v.ownBlock∧(∀ S':Nat→Prop,(∀ b,B.S b→S' b)→(∀ x,w.heap.size≤x→x < w'.heap.size→S' x)→OwnR (B.sh S') g' r (rows++rows') w' [v'] os')∧(∀ x:Nat,x∈os'→x∈os∨w.heap.size≤x)∧os'.Nodup∧(∀ b:Nat,v.ownBlock=some b→b∈os∧∃ c,w.heap[b]?=some (Obj.cells c r.t (0,0))):=by
  obtain ⟨hu,ie,hie,hsz⟩:=slT_of hT
  obtain ⟨zs,hzc,hzl⟩:=hz
  obtain ⟨ie',z,hie',hz,hzs⟩:=zeroC_of hzc
  rw [hie] at hie' hby
  cases hie'
  have hbytes:ie.bytes≤65536:=by
    simp only [Option.map_some,Option.some.injEq] at hby
    exact Nat.le_of_ble_eq_true hby
  obtain ⟨v0,xs,e0,hown,hxl,hxr,hbk⟩:=h.owns
  cases e0
  have hob:∀ b:Nat,v.ownBlock=some b→b∈os∧∃ c,w.heap[b]?=some (Obj.cells c r.t (0,0)):=by
    intro b hb
    rcases hbk with ⟨e,ho,_,c,hc⟩ | ⟨e,_⟩
    · rw [hb] at e; cases e; exact ⟨by rw [ho]; simp,c,hc⟩
    · rw [hb] at e; cases e
  have hobS:∀ b:Nat,v.ownBlock=some b→B.S b:=by
    intro b hb
    rcases hbk with ⟨e,ho,hs,c,hc⟩ | ⟨e,_⟩
    · rw [hb] at e; cases e; exact hs
    · rw [hb] at e; cases e
  have hge:∀ b,b∈os→B.ow b:=fun b hb=>((show RepV B w (.own g r rows) [v] os from h).ge b hb).1
  obtain ⟨ys,hyl,hyr,hyc⟩:∃ ys:List (List Value),ys.length=rows'.length∧(∀ (i:Nat) (row:List Pd) (x:List Value),rows'[i]?=some row→ys[i]?=some x→x.length=r.n∧RL B.nn w row x) ∧
      ((v2=.slice none 0 0∧ys=[])∨∃ a m c,v2=.slice (some a) m c∧m=rows'.length∧∀ (k:Nat) (y:Value),ys.flatten[k]?=some y→w.cell? (a.add k)=some y):=by
    rcases h2.2 with ⟨ad,cap,e,hc,h0⟩ | ⟨b,o,cap,c,tt,f,e,hb,_,hm,hat⟩
    · injection e with e
      subst e h0
      cases ad with
      | none=>exact ⟨[],rfl,fun i row x h=>by simp at h,.inl ⟨by rw [hc rfl],rfl⟩⟩
      | some a=>exact ⟨[],rfl,fun i row x h=>by simp at h,.inr ⟨a,0,cap,rfl,rfl,fun k y h=>by simp at h⟩⟩
    · injection e with e
      subst e
      obtain ⟨ys,k1,k2,k3⟩:=hat.cells
      refine ⟨ys,k1,k2,.inr ⟨_,_,_,rfl,rfl,fun k y hk=>?_⟩⟩
      rw [Addr.add_mid]
      simp [World.cell?,hb,k3 k y hk]
  have hyall:∀ x∈ys,x.length=r.n:=by
    intro x hx
    obtain ⟨i,hi,rfl⟩:=List.getElem_of_mem hx
    exact (hyr i rows'[i] _ (List.getElem?_eq_getElem (by omega)) (List.getElem?_eq_getElem hi)).1
  have hfl:=flat_len hyall
  have hone:∀ y∈ys.flatten,y.oneCell'=true:=by
    intro y hy
    obtain ⟨x,hx,hy⟩:=List.mem_flatten.1 hy
    obtain ⟨i,hi,rfl⟩:=List.getElem_of_mem hx
    exact List.all_eq_true.1 (hyr i rows'[i] _ (List.getElem?_eq_getElem (by omega)) (List.getElem?_eq_getElem hi)).2.one y hy
  have key:∃ v' w',(Builtin.append_ #[T,T] ty #[v,v2]).run P w=.ok v' w'∧w'.ownsRow 0 r.t r.n v' (rows.length+rows'.length) (xs++ys).flatten∧w.grownBy w' v.ownBlock∧(v'.ownBlock=v.ownBlock∨v'.ownBlock=some w.heap.size):=by
    rcases hyc with ⟨rfl,rfl⟩ | ⟨a,m,c,rfl,rfl,hcell⟩
    · have hr0:rows'.length=0:=by rw [← hyl]; rfl
      refine ⟨v,w,run_append_owned_none (P:=P) (w:=w) 0 T ty r.t ie r.n hu hie v rows.length xs.flatten hown,?_,⟨rfl,rfl,rfl,Nat.le_refl _,fun _ _ _=>rfl⟩,.inl rfl⟩
      rw [hr0,Nat.add_zero,List.append_nil]; exact hown
    · obtain ⟨v',w',k1,k2,k3,_,k5⟩:=run_append_own_at (P:=P) (w:=w) 0 T ty r.t ie z r.n ie.bytes hu hie hz hsz rfl (by rw [← Array.length_toList,hzs,hzl]) (by omega) v rows.length xs.flatten hown a rows'.length c ys.flatten (by rw [hfl,hyl]) hcell hone (by simp only [maxLen]; omega)
        (by have:=Nat.mul_le_mul hlen hbytes; omega) (Nat.zero_le _)
      exact ⟨v',w',k1,by rw [List.flatten_append]; exact k2,k3,k5⟩
  obtain ⟨v',w',hrun,hown',hgr,hbb⟩:=key
  have hkeep:∀ {S':Nat→Prop} {row:List Pd} {x:List Value},(∀ b,B.S b→S' b)→r.Fit row→RL B.nn w row x→RL (B.sh S').nn w' row x:=fun hS hf hx=>RL.mono hS ⟨hgr.size,fun b o hb hc=>by
    rcases hc with ⟨c,t,f,rfl,hc⟩ | hlt | ⟨_,h,_⟩ | ⟨hno,_,hs⟩
    · rw [hgr.block b (Array.getElem?_eq_some_iff.1 hb).1 (fun e=>?_)]; exact hb
      obtain ⟨_,c',hc'⟩:=hob b e.symm
      rw [hb] at hc'
      cases hc'
      rcases hc with hc | ⟨_,_,hc⟩
      · rw [hself.1] at hc; cases hc
      · rw [hself.2] at hc; cases hc
    · rw [hgr.block b (Array.getElem?_eq_some_iff.1 hb).1 (fun e=>?_)]; exact hb
      have h1:=hge b (hob b e.symm).1
      have h2:=B.low hlt
      rcases h1 with h1 | h1
      · have:=h2.1; omega
      · exact h2.2 h1
    · cases h
    · rw [hgr.block b (Array.getElem?_eq_some_iff.1 hb).1 (fun e=>?_)]; exact hb
      obtain ⟨_,c',hc'⟩:=hob b e.symm
      rw [hb] at hc'
      cases hc'
      exact hno _ _ _ rfl⟩ hf hx
  have hfit:∀ row∈rows++rows',r.Fit row:=fun row hm=>(List.mem_append.1 hm).elim (h.1 row) (h2.1 row)
  have hrows:∀ {S':Nat→Prop},(∀ b,B.S b→S' b)→∀ (i:Nat) (row:List Pd) (x:List Value),(rows++rows')[i]?=some row→(xs++ys)[i]?=some x→x.length=r.n∧RL (B.sh S').nn w' row x:=by
    intro S' hS i row x hi hx
    have hf:=hfit row (List.mem_of_getElem? hi)
    by_cases hlt:i < rows.length
    · rw [List.getElem?_append_left hlt] at hi
      rw [List.getElem?_append_left (by omega)] at hx
      exact ⟨(hxr i row x hi hx).1,hkeep hS hf (hxr i row x hi hx).2⟩
    · rw [List.getElem?_append_right (by omega)] at hi
      rw [List.getElem?_append_right (by omega),hxl] at hx
      exact ⟨(hyr _ row x hi hx).1,hkeep hS hf (hyr _ row x hi hx).2⟩
  rcases hown'.2 with ⟨e,h0⟩ | ⟨gg,cap,cur,e,hBg,hg,i1,i2,i3,i4⟩
  · have hnil:rows++rows'=[]:=List.eq_nil_of_length_eq_zero (by rw [List.length_append]; exact h0)
    exact ⟨v',w',0,[],hrun,hgr,fun _ _ _=>⟨hfit,.inl ⟨by rw [e],hnil,rfl⟩⟩,fun x hx=>(by cases hx),List.nodup_nil,hob⟩
  · have hgg:v.ownBlock=some gg∨gg=w.heap.size:=by
      rw [e] at hbb
      simp only [Value.ownBlock] at hbb
      rcases hbb with hbb | hbb
      · exact .inl hbb.symm
      · injection hbb with hbb; exact .inr hbb
    refine ⟨v',w',gg,[gg],hrun,hgr,fun S' hS hN=>⟨hfit,.inr ⟨cap,cur,by rw [e,List.length_append],rfl,⟨hgg.elim (fun h=>hge _ (hob _ h).1) (fun h=>.inl (by show B.b≤gg; omega)),hgg.elim (fun h=>hS _ (hobS _ h)) (fun h=>hN _ (by omega) (lt_of_heap hg))⟩,hg,by rw [List.length_append]; exact i1,i2,i3,rowsAt_of (by simp [hxl,hyl]) (hrows hS) (by rw [List.length_append]; exact i4)⟩⟩,fun x hx=>?_,by simp,hob⟩
    simp only [List.mem_singleton] at hx
    subst hx
    rcases hgg with h | h
    · exact .inl (hob _ h).1
    · exact .inr (by omega)
section rules
variable {P:Program} {J:Jd} {w0:W0} {D:TypeId→Bool} {Post:Ending→World→Prop} {K:LK} {Γ:List (List AV)} {k:Tr}
theorem junkL_rep {B:Bd} {w:World} {E:Env}:∀ {js:List (Nat × Nat)} {Γ:List (List AV)} {os:List Nat},RepE B w Γ E os→∃ os',RepE B w (junkL Γ js) E os'∧os'.Sublist os
  | [],Γ,os,h=>⟨os,h,List.Sublist.refl _⟩
  | (i,j)::js,Γ,os,h=>by
    obtain ⟨o1,h1,h2⟩:=junkAt_rep (i:=i) (k:=j) h
    obtain ⟨o2,h3,h4⟩:=junkL_rep (js:=js) h1
    exact ⟨o2,h3,h4.trans h2⟩
theorem junkL_okE:∀ {js:List (Nat × Nat)} {Γ:List (List AV)},okE D Γ=true→okE D (junkL Γ js)=true
  | [],_,h=>h
  | (_,_)::js,_,h=>junkL_okE (js:=js) (junkAt_okE h)
theorem aAppend (js:List (Nat × Nat)) {T ty:TypeId} {i j i' j' g:Nat} {r:Rty} {rows rows':List (List Pd)} {zs:List Value} {Γ':Nat→List (List AV)} (hl:look Γ i j=some (.own g r rows)) (hl2:(look Γ i' j').bind AV.pd=some (pRows r rows')) (hlen:rows.length+rows'.length≤2000000000) (hk:∀ g,AW P J w0 D Post K (Γ' g) k)
    (hT:slTb P T r=true:=by kernel_rfl) (hz:zeroC P r.t=some zs:=by kernel_rfl) (hzn:Nat.beq zs.length r.n=true:=by rfl) (hn0:Nat.ble 1 r.n=true:=by rfl) (hby:(P.info? r.t).map (fun i=>Nat.ble i.bytes 65536)=some true:=by kernel_rfl)
    (hD:r.nu.all D=true:=by rfl) (hself:(!r.nu.contains r.t && !r.sl.contains r.t)=true:=by rfl) (hs:safeE r.t (junkL Γ ((i,j)::js))=true:=by rfl)
    (hΓ:∀ g,junkL Γ ((i,j)::js)++[[.own g r (rows++rows')]]=Γ' g:=by intros; (simp only [junkL,junkAt,junkS,AV.n,List.cons_append,List.nil_append]) <;> exact rfl) :
    AW P J w0 D Post K Γ (.em (.wx (.call { callee:=.builtin .append,args:=#[.tmp 0,.tmp 1],argTypes:=#[T,T] }) ty [.s (.c i j),.s (.c i' j')] (some none)) k):=by
  intro hJ L E u hL hk0 w he hbw
  have h2:=hk0.ext he hbw
  obtain ⟨hb1x,hDE,os,S,hn,hSO,hr⟩:=id h2
  simp only [Bool.and_eq_true,Bool.not_eq_true'] at hself
  obtain ⟨c,o1,o,o2,eo,hv,hc,hr1⟩:=junkAt_ok hr hl
  obtain ⟨v,rfl⟩:∃ v,c=[v]:=by
    have:=RepV.len hv
    match c,this with
    | [v],_=>exact ⟨v,rfl⟩
  have hd1:(V1.s (A.c i j)).den [] E=v:=hc 0 v rfl
  obtain ⟨c2,hR2,hc2⟩:=look_pd hr hl2
  obtain ⟨ad,cap,rfl⟩:=RowsR.sh hR2
  have hd2:(V1.s (A.c i' j')).den [] E=.slice ad rows'.length cap:=hc2 0 _ rfl
  obtain ⟨v',w',g',os',hrun,hgr,hown',hos',hnd',hob⟩:=append_core (P:=P) (T:=T) (ty:=ty) hv hR2 hT ⟨zs,hz,Nat.eq_of_beq_eq_true hzn⟩ (Nat.le_of_ble_eq_true hn0) hby hlen hbw.size hself
  have hbk:∀ b,v.ownBlock=some b→(w0.bd S).ow b:=fun b hb=>(hv.ge b (hob b hb).1).1
  have hold:∀ k,(w0.bd S).old k→w'.heap[k]?=w.heap[k]?:=fun k hk=>hgr.block k (Nat.lt_of_lt_of_le hk.1 hbw.size) (fun e=>by
    rcases hbk k e.symm with h | h
    · have h1:k < w0.w.heap.size:=hk.1
      have h:w0.w.heap.size≤k:=h
      omega
    · exact hk.2 h)
  have hbw':Bx w0.bs w':=⟨hgr.os.trans hbw.os,hgr.tape.trans hbw.tape,hgr.output.trans hbw.output,Nat.le_trans hbw.size hgr.size,fun k hk hx=>(hold k ⟨hk,hx⟩).trans (hbw.block k hk hx)⟩
  have hSv:∀ b,v.ownBlock=some b→S b:=fun b hb=>by
    rcases hv.2 with ⟨_,_,e⟩ | ⟨_,_,_,e,h1,_⟩
    · have:=(hob b hb).1; rw [e] at this; cases this
    · have:=(hob b hb).1; rw [e] at this; simp at this; subst this; exact h1.2
  obtain ⟨o3,hr3,hsub⟩:=junkL_rep (js:=js) hr1
  have hgo:Goes (w0.bd S) (fun b=>v.ownBlock=some b) D w w':=⟨hgr.size,hold,fun b c t f hb _ hne=>by rw [hgr.block b (lt_of_heap hb) (fun e=>hne e.symm)]; exact hb,fun b o hb _ hne=>by rw [hgr.block b (Array.getElem?_eq_some_iff.1 hb).1 (fun e=>hne e.symm)]; exact hb⟩
  have hDJ:okE D (junkL Γ ((i,j)::js))=true:=junkL_okE hDE
  have hno:∀ x∈o3,x ∉ o:=fun x hx hxo=>by
    have h5:=hsub.subset hx
    rw [eo] at hn
    simp only [List.nodup_append,List.mem_append] at hn
    rcases List.mem_append.1 h5 with h6 | h6
    · exact hn.1.2.2 x h6 x hxo rfl
    · exact hn.2.2 x (.inr hxo) x h6 rfl
  have hown':=hown' (Gh.more ⟨w,S⟩ w w').S (fun _ h=>.inl h) (fun x h1 h2=>.inr ⟨h1,h2⟩)
  have hr4:RepE (w0.bd (Gh.more ⟨w,S⟩ w w').S) w' (junkL Γ ((i,j)::js)) E o3:=RepE.goes (B:=w0.bd S) (S':=(Gh.more ⟨w,S⟩ w w').S) hgo (Gr.more (Nat.le_refl _)) (fun b o hb hno hx=>by
    obtain ⟨_,c',hc'⟩:=hob b hx
    rw [hb] at hc'
    cases hc'
    exact absurd rfl (hno _ _ _)) hr3 hDJ (fun b c t f hb hx=>by
    obtain ⟨_,c',hc'⟩:=hob b hx
    rw [hb] at hc'
    cases hc'
    exact hs) (fun x hx e=>hno x hx (hob x e).1)
  refine ⟨[v'],w',?_,?_,⟨hgr.size,fun b c t f hb hor=>?_⟩,hbw',hk g' hJ L _ _ hL.ext ?_⟩
  · show (execOp _ _).run P w=.ok (.value v') w'
    have e:[V1.s (A.c i j),V1.s (A.c i' j')].map (V1.den [] E)=[v,.slice ad rows'.length cap]:=by simp only [List.map_cons,List.map_nil,hd1,hd2]
    rw [e]
    simp only [execOp]
    simp [resolve,pe,invoke,builtin,hrun]
  · exact RepV.one (B:=w0.bd (Gh.more ⟨w,S⟩ w w').S) (w:=w') (a:=.own g' r (rows++rows')) hown'
  · rw [hgr.block b (lt_of_heap hb) (fun e=>?_)]; exact hb
    rcases hor with h | h
    · exact absurd ((hSO.at_ b (hSv b e.symm)).2.2 _ _ _ hb) h.2
    · cases h
  · rw [← hΓ]
    refine ⟨hbw',?_,o3++os',(Gh.more ⟨w,S⟩ w w').S,?_,hSO.more hbw.size hgr.size (fun b c t f _ hcc hlt=>by
      by_cases e:v.ownBlock=some b
      · obtain ⟨_,c',hc'⟩:=hob b e; exact ⟨_,_,_,hc'⟩
      · rw [hgr.block b hlt (fun e'=>e e'.symm)] at hcc; exact ⟨_,_,_,hcc⟩),RepE.snoc (B:=w0.bd (Gh.more ⟨w,S⟩ w w').S) hr4 (RepS.one_of hown')⟩
    · unfold okE at *; rw [List.all_append,hDJ]; simpa [AV.okD] using hD
    · refine List.nodup_append.2 ⟨?_,hnd',fun a ha b hb e=>?_⟩
      · refine hsub.nodup ?_
        rw [eo] at hn
        refine List.Nodup.sublist ?_ hn
        rw [List.append_assoc]
        exact List.Sublist.append_left (List.sublist_append_right _ _) _
      · subst e
        rcases hos' a hb with h | h
        · exact hno a ha h
        · have:=(hr3.ge a ha).2; omega
def ConvS (asx bs:List AV):Prop:=∀ B w cs os,RepS B w asx cs os→RepS B w bs cs os
theorem ConvS.nil:ConvS [] []:=fun _ _ _ _ h=>h
theorem ConvS.same {a:AV} {asx bs:List AV} (h:ConvS asx bs):ConvS (a::asx) (a::bs):=fun B w _ _ ⟨c1,c2,o1,o2,e,e2,h1,h2⟩=>⟨c1,c2,o1,o2,e,e2,h1,h B w _ _ h2⟩
theorem ConvS.own {o:Bool} {g:Nat} {r:Rty} {asx bs:List AV} (h:ConvS asx bs):ConvS (.ro o (pV (.slice none 0 0))::asx) (.own g r []::bs):=fun B w _ _ ⟨c1,c2,o1,o2,e,e2,h1,h2⟩=>
  ⟨c1,c2,o1,o2,e,e2,⟨fun row h=>(by cases h),.inl ⟨h1.1.1,rfl,h1.2⟩⟩,h B w _ _ h2⟩
theorem ConvS.rows {o:Bool} {r:Rty} {asx bs:List AV} (h:ConvS asx bs):ConvS (.ro o (pV (.slice none 0 0))::asx) (.ro o (pRows r [])::bs):=fun B w _ _ ⟨c1,c2,o1,o2,e,e2,h1,h2⟩=>
  ⟨c1,c2,o1,o2,e,e2,⟨⟨fun row h=>(by cases h),.inl ⟨none,0,h1.1.1,fun _=>rfl,rfl⟩⟩,h1.2⟩,h B w _ _ h2⟩
def RowC (r:Rty) (rows rows':List (List Pd)):Prop:=rows'.length=rows.length∧∀ (i:Nat) (row row':List Pd),rows[i]?=some row→rows'[i]?=some row'→r.Fit row→r.Fit row'∧∀ l w x,RL l w row x→RL l w row' x
theorem RowC.at {r:Rty} {rows rows':List (List Pd)} {l:Lm} {w:World} {c:Array Value} {o:Nat} (h:RowC r rows rows') (hf:∀ row∈rows,r.Fit row) (ha:RowsAt r l w c o rows):RowsAt r l w c o rows':=fun i row' hi=>by
  have hlt:=(List.getElem?_eq_some_iff.1 hi).1
  obtain ⟨row,hr⟩:∃ row,rows[i]?=some row:=⟨_,List.getElem?_eq_getElem (by rw [h.1] at hlt; exact hlt)⟩
  obtain ⟨x,h1,h2,h3⟩:=ha i row hr
  exact ⟨x,h1,(h.2 i row row' hr hi (hf row (List.mem_of_getElem? hr))).2 _ _ _ h2,h3⟩
theorem RowC.fit {r:Rty} {rows rows':List (List Pd)} (h:RowC r rows rows') (hf:∀ row∈rows,r.Fit row):∀ row∈rows',r.Fit row:=fun row' hm=>by
  obtain ⟨i,hi,rfl⟩:=List.getElem_of_mem hm
  have hi':i < rows.length:=by rw [h.1] at hi; exact hi
  exact (h.2 i rows[i] _ (List.getElem?_eq_getElem hi') (List.getElem?_eq_getElem hi) (hf _ (List.getElem_mem hi'))).1
theorem Knows.convS {Γ:List (List AV)} {asx bs:List AV} {E:Env} {u:Gh} (h:Knows w0 D (Γ++[asx]) E u) (hc:ConvS asx bs) (hD:bs.all (AV.okD D)=true):Knows w0 D (Γ++[bs]) E u:=by
  obtain ⟨hb,h1,os,S,hn,hS,hr⟩:=h
  obtain ⟨E1,E2,o1,o2,rfl,rfl,h2,cs,E',o3,o4,e3,e4,h3,h4⟩:=hr.split
  refine ⟨hb,?_,o1++o2,S,hn,hS,h2.app ⟨cs,E',o3,o4,e3,e4,hc _ _ _ _ h3,h4⟩⟩
  unfold okE at *
  rw [List.all_append,Bool.and_eq_true] at h1 ⊢
  exact ⟨h1.1,by simp [hD]⟩
theorem aLoopC {σ:Type} {d:Nat} {init:List A} {body:Tr} {as0:List AV} (us:List (Nat × Nat × (σ→AV))) (I:σ→List AV) (pr:σ→Prop) (μ:σ→Nat) (s0:σ) (hp:pr s0) {G:σ→List (List AV)} {K':σ→LK} {Γ':σ→List (List AV)}
    (hk:∀ s,pr s→AW P J w0 D Post (K' s) (Γ' s) body) (_hG:∀ s,us.foldl (fun Γ x=>setAt (x.2.2 s) Γ x.1 x.2.1) Γ=G s:=by intros; (simp only [List.foldl_cons,List.foldl_nil,setAt,setS]) <;> exact rfl)
    (h0:takeL Γ init=some (as0,G s0):=by rfl) (hc:ConvS as0 (I s0):=by repeat' (first | exact ConvS.nil | refine ConvS.own ?_ | refine ConvS.rows ?_ | refine ConvS.same ?_)) (hcD:(I s0).all (AV.okD D)=true:=by rfl) (hd:Nat.ble d K.length=true:=by rfl)
    (hK:∀ s,K.take d++[(Γ.length,fun G' avs=>∃ s',G'=G s'∧avs=I s'∧pr s'∧μ s' < μ s)]=K' s:=by intros; (simp only [List.take_nil,List.take_zero,List.take_succ_cons,List.nil_append,List.cons_append]) <;> exact rfl)
    (hΓ:∀ s,G s++[I s]=Γ' s:=by intros; (simp only [List.cons_append,List.nil_append]) <;> exact rfl) :
    AW P J w0 D Post K Γ (.loop d init body):=by
  intro hJ L E u hL hk0
  obtain ⟨h1,_⟩:=takeL_ok hk0 h0
  have h1:=h1.convS hc hcD
  have hEl:E.length=Γ.length:=hk0.len
  refine ⟨fun m cs u=>∃ s,μ s=m∧pr s∧Knows w0 D (G s++[I s]) (E++[cs]) u,μ s0,⟨s0,rfl,hp,h1⟩,?_⟩
  rintro m cs u' _ _ _ ⟨s,rfl,hps,hks⟩
  refine hk s hps hJ _ _ u' ?_ (hΓ s ▸ hks)
  rw [← hK s]
  refine hL.upd (Nat.le_of_ble_eq_true hd) hEl.symm ?_
  rintro cs' u'' G' avs ⟨s',rfl,rfl,h2,h3⟩ h4
  exact ⟨μ s',h3,s',rfl,h2,h4⟩
theorem aLoopU {σ:Type} {d:Nat} {init:List A} {body:Tr} (us:List (Nat × Nat × (σ→AV))) (I:σ→List AV) (pr:σ→Prop) (μ:σ→Nat) (s0:σ) (hp:pr s0) {G:σ→List (List AV)} {K':σ→LK} {Γ':σ→List (List AV)}
    (hk:∀ s,pr s→AW P J w0 D Post (K' s) (Γ' s) body) (_hG:∀ s,us.foldl (fun Γ x=>setAt (x.2.2 s) Γ x.1 x.2.1) Γ=G s:=by intros; (simp only [List.foldl_cons,List.foldl_nil,setAt,setS]) <;> exact rfl)
    (h0:takeL Γ init=some (I s0,G s0):=by rfl) (hd:Nat.ble d K.length=true:=by rfl)
    (hK:∀ s,K.take d++[(Γ.length,fun G' avs=>∃ s',G'=G s'∧avs=I s'∧pr s'∧μ s' < μ s)]=K' s:=by intros; (simp only [List.take_nil,List.take_zero,List.take_succ_cons,List.nil_append,List.cons_append]) <;> exact rfl)
    (hΓ:∀ s,G s++[I s]=Γ' s:=by intros; (simp only [List.cons_append,List.nil_append]) <;> exact rfl) :
    AW P J w0 D Post K Γ (.loop d init body):=
  aLoopG G I pr μ s0 h0 hp hk hd hK hΓ
end rules
end Cin

namespace Go.Proofs.YthffkbbcofbceaaGreatDoor
open Go.RowKit Cin
def JT:Jd:=⟨Tabs,fun b h=>h.below b⟩
def JP:Jd:=⟨TabsP,fun b h=>h.below b⟩
def pQ (q:Rat) (k:Nat):Pd:=pdOf 202 4 (fun w cs=>∃ a b c d,cs=[a,b,c,d]∧QB w a b c d q k) (by rintro w cs ⟨a,b,c,d,rfl,_⟩; rfl) (by rintro w cs ⟨a,b,c,d,rfl,h⟩; exact qpl h)
  (by rintro u w cs he ⟨a,b,c,d,rfl,h⟩; exact ⟨a,b,c,d,rfl,mQ (D:=fun t=>t == 202) _ _ _ _ _ _ rfl u w he h⟩)
def pD (q:Rat) (k:Nat):Pd:=pdOf 202 3 (fun w cs=>∃ a b d,cs=[a,b,d]∧DQ w a b d q k) (by rintro w cs ⟨a,b,d,rfl,_⟩; rfl) (by rintro w cs ⟨a,b,d,rfl,h⟩; exact dpl h)
  (by rintro u w cs he ⟨a,b,d,rfl,h⟩; exact ⟨a,b,d,rfl,mD (D:=fun t=>t == 202) _ _ _ _ _ rfl u w he h⟩)
section cells
variable {l:Lm} {w:World} {cs:List Value} {x y:Rat} {k j:Nat} {v u:Value}
theorem rQ (h:RL l w [pQ x k] cs):∃ a b c d,cs=[a,b,c,d]∧QB w a b c d x k:=by
  obtain ⟨c1,c2,rfl,⟨a,b,c,d,rfl,h⟩,rfl⟩:=h
  exact ⟨a,b,c,d,rfl,h⟩
theorem rV (h:RL l w [pV v] cs):cs=[v]:=by
  obtain ⟨c1,c2,rfl,⟨rfl,_⟩,rfl⟩:=h
  rfl
end cells
section told
variable {w:W0} {w':World} {e:Ending} {v c:Value} {x y q:Rat} {k j:Nat} {B:Bd}
theorem sV (hv:v.oneCell'=true):RepS B w' [.ro false (pV v)] [v] []:=RepS.one_of ⟨⟨rfl,hv⟩,rfl⟩
theorem sQ {a b c d:Value} (h:QB w' a b c d q k):RepS B w' [.ro false (pQ q k)] [a,b,c,d] []:=RepS.one_of ⟨⟨a,b,c,d,rfl,h⟩,rfl⟩
theorem sD {a b d:Value} (h:DQ w' a b d q k):RepS B w' [.ro false (pD q k)] [a,b,d] []:=RepS.one_of ⟨⟨a,b,d,rfl,h⟩,rfl⟩
theorem _root_.Cin.W0.bx (w:W0) {w':World} (h:Below w.w.heap.size w.w w'):Bx w.bs w':=⟨h.os,h.tape,h.output,h.size,fun k hk _=>h.block k hk⟩
theorem tV (h:e=.returned v∧Below w.w.heap.size w.w w') (hv:v.oneCell'=true):TellsA w [none] (fun _=>[.ro false (pV v)]) e w':=by
  obtain ⟨rfl,hb⟩:=h
  exact ⟨[v],[],fun _=>0,fun _=>False,rfl,List.nodup_nil,fun _ h=>h.elim,sV hv,w.bx hb⟩
theorem tQ (h:∃ v,e=.returned v∧RatB w' v q k∧Below w.w.heap.size w.w w'):TellsA w [some 4] (fun _=>[.ro false (pQ q k)]) e w':=by
  obtain ⟨v,rfl,⟨a,b,c,d,rfl,h⟩,hb⟩:=h
  exact ⟨[a,b,c,d],[],fun _=>0,fun _=>False,rfl,List.nodup_nil,fun _ h=>h.elim,sQ h,w.bx hb⟩
end told
theorem qcmp_ct (x y:Rat) (k j:Nat) (hk0:k≤1000000:=by omega) (hk1:j≤1000000:=by omega):Ct Tryz.prog JT 53 [some 4,some 4] [[pQ (x) (k)],[pQ (y) (j)]] [none] (fun _=>[.ro false (pV (.int .i64 (cmpQ x y)))]):=by
  intro w0 E _ hJ hA
  obtain ⟨c1,E1,rfl,_,h1,c2,E2,rfl,_,h2,hE⟩:=hA
  obtain ⟨a1,b1,c1,d1,rfl,q1⟩:=rQ h1
  obtain ⟨a2,b2,c2,d2,rfl,q2⟩:=rQ h2
  subst hE
  exact (qcmp_any _ _ x y k j w0.w ⟨_,_,_,_,rfl,q1⟩ ⟨_,_,_,_,rfl,q2⟩ hk0 hk1).mono fun e w1 h=>tV h rfl
theorem qneg_ct (x:Rat) (k:Nat) (hk0:k≤1000000:=by omega):Ct Tryz.prog JT 80 [some 4] [[pQ (x) (k)]] [some 4] (fun _=>[.ro false (pQ (-x) (k))]):=by
  intro w0 E _ hJ hA
  obtain ⟨c1,E1,rfl,_,h1,hE⟩:=hA
  obtain ⟨a1,b1,c1,d1,rfl,q1⟩:=rQ h1
  subst hE
  exact (qneg_any _ x k w0.w ⟨_,_,_,_,rfl,q1⟩ hk0).mono fun e w1 h=>tQ h
theorem qadd_ct (x y:Rat) (k j:Nat) (hk0:k≤200000:=by omega) (hk1:j≤200000:=by omega):Ct Tryz.prog JT 54 [some 4,some 4] [[pQ (x) (k)],[pQ (y) (j)]] [some 4] (fun _=>[.ro false (pQ (x+y) (k+j+1))]):=by
  intro w0 E _ hJ hA
  obtain ⟨c1,E1,rfl,_,h1,c2,E2,rfl,_,h2,hE⟩:=hA
  obtain ⟨a1,b1,c1,d1,rfl,q1⟩:=rQ h1
  obtain ⟨a2,b2,c2,d2,rfl,q2⟩:=rQ h2
  subst hE
  exact (qadd_any _ _ x y k j w0.w ⟨_,_,_,_,rfl,q1⟩ ⟨_,_,_,_,rfl,q2⟩ hk0 hk1).mono fun e w1 h=>tQ h
end Go.Proofs.YthffkbbcofbceaaGreatDoor

namespace Cin
open Go Go.RowKit Go.ChangeShapes Go.WideShapes
def J0:Jd:=⟨fun _=>True,fun _ _=>trivial⟩
theorem wrapI {z:Int} (h0:-9223372036854775808≤z) (h1:z≤9223372036854775807):IntKind.i64.wrap z=z:=by
  unfold IntKind.wrap
  simp [IntKind.signed,IntKind.bits]
  omega
theorem wrapU {z:Int} (h0:0≤z) (h1:z≤255):IntKind.u8.wrap z=z:=by
  unfold IntKind.wrap
  simp [IntKind.signed,IntKind.bits]
  omega
section prims
variable {P:Program} {t t2 ty:TypeId} {vs:List Value} {p q:Operand} {x y z:Int}
theorem qAdd (hp:pe vs p=.int .i64 x) (hq:pe vs q=.int .i64 y) (h0:-9223372036854775808≤x+y) (h1:x+y≤9223372036854775807):PrimOk P (.binOp .add t p q t2) ty vs (.int .i64 (x+y)):=fun w=>by
  simp only [execOp,hp,hq]
  simp [eqGuard,binOp,Op.intArith,wrapI h0 h1]
theorem qSub (hp:pe vs p=.int .i64 x) (hq:pe vs q=.int .i64 y) (h0:-9223372036854775808≤x - y) (h1:x - y≤9223372036854775807):PrimOk P (.binOp .sub t p q t2) ty vs (.int .i64 (x - y)):=fun w=>by
  simp only [execOp,hp,hq]
  simp [eqGuard,binOp,Op.intArith,wrapI h0 h1]
theorem qAddE (hp:pe vs p=.int .i64 x) (hq:pe vs q=.int .i64 y) (h:x+y=z) (h0:-9223372036854775808≤z) (h1:z≤9223372036854775807):PrimOk P (.binOp .add t p q t2) ty vs (.int .i64 z):=by subst h; exact qAdd hp hq h0 h1
theorem qSubE (hp:pe vs p=.int .i64 x) (hq:pe vs q=.int .i64 y) (h:x - y=z) (h0:-9223372036854775808≤z) (h1:z≤9223372036854775807):PrimOk P (.binOp .sub t p q t2) ty vs (.int .i64 z):=by subst h; exact qSub hp hq h0 h1
theorem qRem (hp:pe vs p=.int .i64 x) (hq:pe vs q=.int .i64 y) (hy:y≠0):PrimOk P (.binOp .rem t p q t2) ty vs (.int .i64 (x.tmod y)):=fun w=>by
  simp only [execOp,hp,hq]
  simp [eqGuard,binOp,Op.intDiv,hy]
theorem qMax {T T':TypeId} (hp:pe vs p=.int .i64 x) (hq:pe vs q=.int .i64 y) (h:max x y=z):PrimOk P (.call { callee:=.builtin .max,args:=#[p,q],argTypes:=#[T,T'] }) ty vs (.int .i64 z):=fun w=>by
  have e:max x y=if y > x then y else x:=by split <;> omega
  rw [← h,e]
  simp [execOp,resolve,hp,hq,invoke,builtin,Builtin.max_,Builtin.max2]
theorem uAdd (hp:pe vs p=.int .u8 x) (hq:pe vs q=.int .u8 y) (h:x+y=z) (h0:0≤z) (h1:z≤255):PrimOk P (.binOp .add t p q t2) ty vs (.int .u8 z):=fun w=>by
  subst h
  simp only [execOp,hp,hq]
  simp [eqGuard,binOp,Op.intArith,wrapU h0 h1]
theorem uSub (hp:pe vs p=.int .u8 x) (hq:pe vs q=.int .u8 y) (h:x - y=z) (h0:0≤z) (h1:z≤255):PrimOk P (.binOp .sub t p q t2) ty vs (.int .u8 z):=fun w=>by
  subst h
  simp only [execOp,hp,hq]
  simp [eqGuard,binOp,Op.intArith,wrapU h0 h1]
theorem cvU {s d:TypeId} {us:TypeDesc} (hs:P.underlying s=some us) (hd:P.underlying d=some (.int .i64)) (hp:pe vs p=.int .u8 x) (h0:0≤x) (h1:x≤255):PrimOk P (.convert s d p) ty vs (.int .i64 x):=fun w=>by
  simp only [execOp,hp]
  simp [convert,run_underlying hs,run_underlying hd,Conv.intToInt,wrapI (z:=x) (by omega) (by omega)]
end prims
abbrev M:=Nat × Nat × Nat
abbrev M.ok (a:M):Prop:=a.1≤255∧a.2.1≤255∧a.2.2≤255
abbrev mV (a:M):List Pd:=[pV (.int .u8 (a.1:Nat)),pV (.int .u8 (a.2.1:Nat)),pV (.int .u8 (a.2.2:Nat))]
def dg (a:M):Nat:=a.1+a.2.1+a.2.2
def vr (a:M):Nat:=if a.2.2≠0 then 3 else if a.2.1≠0 then 2 else if a.1≠0 then 1 else 0
def sgI (x y:Int):Int:=if x < y then -1 else if y < x then 1 else 0
def mc (a b:M):Int:=if sgI (dg a) (dg b)≠0 then sgI (dg a) (dg b) else if sgI a.1 b.1≠0 then sgI a.1 b.1 else if sgI a.2.1 b.2.1≠0 then sgI a.2.1 b.2.1 else sgI a.2.2 b.2.2
def mulOk (a b:M):Bool:=decide (a.1+b.1≤255) && decide (a.2.1+b.2.1≤255) && decide (a.2.2+b.2.2≤255)
def mulM (a b:M):M:=if mulOk a b then (a.1+b.1,a.2.1+b.2.1,a.2.2+b.2.2) else (0,0,0)
theorem mulM_ok (a b:M):(mulM a b).ok:=by
  unfold mulM
  split
  · rename_i h
    simp only [mulOk,Bool.and_eq_true,decide_eq_true_eq] at h
    exact ⟨h.1.1,h.1.2,h.2⟩
  · exact ⟨by decide,by decide,by decide⟩
section eqs
variable {P:Program} {w:World}
theorem run_eq3 {t e:TypeId} {i:TypeInfo} (d:Nat) (a b:M) (hu:P.underlying t=some (.array 3 e)) (he:P.underlying e=some (.int .u8)) (hi:P.info? e=some i) (hs:i.size=1) :
    (Op.equalIn (d+2) t (.agg #[.int .u8 (a.1:Nat),.int .u8 (a.2.1:Nat),.int .u8 (a.2.2:Nat)]) (.agg #[.int .u8 (b.1:Nat),.int .u8 (b.2.1:Nat),.int .u8 (b.2.2:Nat)])).run P w=.ok (decide (a=b)) w:=by
  rw [run_equalIn_array w (d+1) _ _ hu hi]
  have hc:P.cellsOf e=1:=by simp [Program.cellsOf,hi,hs]
  have pt:∀ (w:World) (xs:Array Value) (j:Nat) (v:Value),xs[j]?=some v→(part e xs j).run P w=.ok v w:=fun w xs j v hx=>by
    unfold part isAgg
    simp [run_underlying he,hx]
  obtain ⟨a0,a1,a2⟩:=a
  obtain ⟨b0,b1,b2⟩:=b
  have r3:List.range 3=[0,1,2]:=rfl
  rw [r3,hc]
  have e0:∀ (w:World) (x y:Nat),(Op.equalIn (d+1) e (.int .u8 (x:Int)) (.int .u8 (y:Int))).run P w=.ok (decide (x=y)) w:=fun w x y=>by
    rw [run_equalIn_int (P:=P) w d e .u8 .u8 (x:Int) (y:Int) he]
    congr 1
    by_cases h:x=y <;> simp [h]
    omega
  have p0:=fun (w:World) (x y z:Nat)=>pt w #[.int .u8 (x:Nat),.int .u8 (y:Nat),.int .u8 (z:Nat)] 0 _ rfl
  have p1:=fun (w:World) (x y z:Nat)=>pt w #[.int .u8 (x:Nat),.int .u8 (y:Nat),.int .u8 (z:Nat)] 1 _ rfl
  have p2:=fun (w:World) (x y z:Nat)=>pt w #[.int .u8 (x:Nat),.int .u8 (y:Nat),.int .u8 (z:Nat)] 2 _ rfl
  by_cases h0:a0=b0 <;> by_cases h1:a1=b1 <;> by_cases h2:a2=b2 <;> simp [h0,h1,h2,Op.eqItems,p0,p1,p2,e0]
end eqs
section card
variable {H:Type} {enc:TypeId × Value→H} {P:Program} {w:World} {base:Nat} {spare:Nat→Bool} {held:Bool}
theorem wfU {x:Int} (h:(Lit.int .u8 x).wf=true):∃ n:Nat,x=n∧n≤255:=by
  simp [Lit.wf,IntKind.min,IntKind.max,IntKind.signed,IntKind.bits] at h
  exact ⟨x.toNat,by omega,by omega⟩
end card
end Cin

namespace Cin
open Go Go.RowKit
theorem told7 {w0:W0} {v:Value} {e:Ending} {w':World} (h:TellsA w0 [none] (fun _=>[.ro false (pV v)]) e w') (hX:∀ b,¬ w0.X b:=by intro _ h; exact h):e=.returned v∧Below w0.w.heap.size w0.w w':=by
  obtain ⟨cs,os,γ,S,rfl,_,_,⟨c1,c2,o1,o2,rfl,_,⟨h1,_⟩,h2⟩,hb⟩:=h
  obtain ⟨rfl,_⟩:=h1
  rw [h2.1]
  exact ⟨rfl,hb.os,hb.tape,hb.output,hb.size,fun k hk=>hb.block k hk (hX k)⟩
def at7 (W:World):W0:=⟨W,W.heap.size,Nat.le_refl _,fun _=>False,fun _ h=>h.elim,fun _=>False,fun _ h=>h.elim⟩
def kM (a:M):Int:=(dg a:Int) * 16777216+(a.1:Int) * 65536+(a.2.1:Int) * 256+(a.2.2:Int)
theorem sgI_neg (x y:Int):sgI x y=-sgI y x:=by unfold sgI; split <;> split <;> omega
theorem sgI_zero {x y:Int}:sgI x y=0↔x=y:=by unfold sgI; split <;> (try split) <;> omega
theorem sgI_lt {x y:Int}:sgI x y < 0↔x < y:=by unfold sgI; split <;> (try split) <;> omega
theorem mc_key {a b:M} (ha:a.ok) (hb:b.ok):mc a b=sgI (kM a) (kM b):=by
  obtain ⟨h0,h1,h2⟩:=ha
  obtain ⟨k0,k1,k2⟩:=hb
  unfold mc
  simp only [ne_eq,sgI_zero]
  unfold kM
  by_cases e:(dg a:Int)=dg b
  · rw [if_neg (by simpa using e)]
    by_cases e0:(a.1:Int)=b.1
    · rw [if_neg (by simpa using e0)]
      by_cases e1:(a.2.1:Int)=b.2.1
      · rw [if_neg (by simpa using e1)]; unfold sgI; split <;> split <;> (try split) <;> omega
      · rw [if_pos e1]; unfold sgI; split <;> split <;> (try split) <;> omega
    · rw [if_pos e0]; unfold sgI; split <;> split <;> (try split) <;> omega
  · rw [if_pos e]; unfold sgI; split <;> split <;> (try split) <;> omega
theorem cut_eq {q q' r r':Int} (m:Int) (h0:0≤r) (h1:r < m) (h0':0≤r') (h1':r' < m) (h:q * m+r=q' * m+r'):q=q'∧r=r':=by
  have e:q=q':=by
    have h2:(q * m+r) / m=q:=by rw [Int.add_comm,Int.add_mul_ediv_right _ _ (by omega),Int.ediv_eq_zero_of_lt h0 h1,Int.zero_add]
    have h3:(q' * m+r') / m=q':=by rw [Int.add_comm,Int.add_mul_ediv_right _ _ (by omega),Int.ediv_eq_zero_of_lt h0' h1',Int.zero_add]
    rw [← h2,h,h3]
  subst e
  exact ⟨rfl,by omega⟩
theorem kM_inj {a b:M} (ha:a.ok) (hb:b.ok) (h:kM a=kM b):a=b:=by
  obtain ⟨h0,h1,h2⟩:=ha
  obtain ⟨k0,k1,k2⟩:=hb
  obtain ⟨a0,a1,a2⟩:=a
  obtain ⟨b0,b1,b2⟩:=b
  unfold kM at h
  simp only [] at h h0 h1 h2 k0 k1 k2
  simp only [Int.add_assoc] at h
  obtain ⟨_,h⟩:=cut_eq 16777216 (by omega) (by omega) (by omega) (by omega) h
  obtain ⟨e0,h⟩:=cut_eq 65536 (by omega) (by omega) (by omega) (by omega) h
  obtain ⟨e1,e2⟩:=cut_eq 256 (by omega) (by omega) (by omega) (by omega) h
  have e0:a0=b0:=by omega
  have e1:a1=b1:=by omega
  have e2:a2=b2:=by omega
  rw [e0,e1,e2]
theorem mc_neg {a b:M} (ha:a.ok) (hb:b.ok):mc a b=-mc b a:=by rw [mc_key ha hb,mc_key hb ha,sgI_neg]
theorem mc_zero {a b:M} (ha:a.ok) (hb:b.ok):mc a b=0↔a=b:=by
  rw [mc_key ha hb,sgI_zero]
  exact ⟨kM_inj ha hb,fun h=>by rw [h]⟩
theorem mc_rng (a b:M):-1≤mc a b∧mc a b≤1:=by
  have h:∀ x y,-1≤sgI x y∧sgI x y≤1:=fun x y=>by unfold sgI; split <;> (try split) <;> omega
  unfold mc
  split
  · exact h _ _
  · split
    · exact h _ _
    · split <;> exact h _ _
theorem mulM_of {a b:M} (h:mulOk a b=true):mulM a b=(a.1+b.1,a.2.1+b.2.1,a.2.2+b.2.2):=by unfold mulM; rw [if_pos h]
theorem mulM_no {a b:M} (h:mulOk a b=false):mulM a b=(0,0,0):=by unfold mulM; rw [if_neg (by simp [h])]
theorem mulOk_iff {a b:M}:mulOk a b=true↔a.1+b.1≤255∧a.2.1+b.2.1≤255∧a.2.2+b.2.2≤255:=by
  unfold mulOk; simp only [Bool.and_eq_true,decide_eq_true_eq,and_assoc]
theorem mulOk_comm (a b:M):mulOk a b=mulOk b a:=by
  rw [Bool.eq_iff_iff,mulOk_iff,mulOk_iff]; omega
theorem mulM_comm (a b:M):mulM a b=mulM b a:=by
  by_cases h:mulOk a b=true
  · rw [mulM_of h,mulM_of (by rw [mulOk_comm]; exact h)]
    simp only [Prod.mk.injEq]; omega
  · rw [mulM_no (by simpa using h),mulM_no (by rw [mulOk_comm]; simpa using h)]
theorem kM_mul {a c:M} (h:mulOk a c=true):kM (mulM a c)=kM a+kM c:=by
  rw [mulM_of h]
  simp only [kM,dg,Int.natCast_add]
  omega
end Cin

namespace Cin
open Go Go.RowKit
section rules
variable {P:Program} {J:Jd} {w0:W0} {D:TypeId→Bool} {Post:Ending→World→Prop} {K:LK} {Γ:List (List AV)} {k:Tr}
theorem RowsR.part {r:Rty} {rows:List (List Pd)} {lm:Lm} {w:World} {ad:Option Addr} {len cap l h:Nat} (hr:RowsR r rows lm w [.slice ad len cap]) (h0:l≤h) (h1:h≤rows.length) :
    len=rows.length∧h≤cap∧RowsR r ((rows.take h).drop l) lm w [.slice (if cap=l then ad else ad.map (·.add (l * r.n))) (h - l) (cap - l)]:=by
  have hlen:((rows.take h).drop l).length=h - l:=by simp; omega
  have hfit:∀ row∈(rows.take h).drop l,r.Fit row:=fun row hm=>hr.1 row (List.mem_of_mem_take (List.mem_of_mem_drop hm))
  rcases hr.2 with ⟨ad',cap',e,hc,hrows⟩ | ⟨b,o,cap',c,t,f,e,hb,hl,hm,hat⟩
  · simp only [List.cons.injEq,and_true] at e
    injection e with e1 e2 e3
    subst e1 e2 e3 hrows
    simp only [List.length_nil,Nat.le_zero] at h1
    subst h1
    have hl0:l=0:=by omega
    subst hl0
    refine ⟨rfl,Nat.zero_le _,fun row hm=>by simp at hm,.inl ⟨_,_,rfl,fun hn=>?_,by simp⟩⟩
    split at hn
    · exact hc hn
    · cases ad with
      | none=>exact hc rfl
      | some a=>cases hn
  · simp only [List.cons.injEq,and_true] at e
    injection e with e1 e2 e3
    subst e1 e2 e3
    refine ⟨rfl,Nat.le_trans h1 hm.1,hfit,?_⟩
    by_cases ec:cap=l
    · left
      have:h - l=0:=by omega
      refine ⟨_,_,by rw [this],fun hn=>?_,List.eq_nil_of_length_eq_zero (by rw [hlen,this])⟩
      rw [if_pos ec] at hn; cases hn
    · right
      rw [if_neg ec]
      refine ⟨b,o+l * r.n,cap - l,c,t,f,by simp [hlen,Addr.add_mid],hb,hl,⟨by rw [hlen]; omega,by omega⟩,fun i row hi=>?_⟩
      rw [List.getElem?_drop,List.getElem?_take] at hi
      split at hi
      · obtain ⟨x,k1,k2,k3⟩:=hat (l+i) row hi
        refine ⟨x,k1,k2,fun j y hy=>?_⟩
        have:=k3 j y hy
        rwa [Nat.add_mul,← Nat.add_assoc] at this
      · cases hi
theorem aArr {t ty:TypeId} {i j off:Nat} {x:V1} {q:Operand} {m:Int} {κ:IntKind} {vi:Value} {o:Bool} {r:Rty} {row row':List Pd} {e:TypeId} {Γ':List (List AV)} (hl:look Γ i j=some (.ro o (pElem r row))) (hi:knownV Γ x=some vi) (hq:∀ s,pe [s,vi] q=.int κ m) (ha:arrAt P t m=some (e,off)) (hd:dropP off row=some row') (hk:AW P J w0 D Post K Γ' k)
    (hΓ:Γ++[[.ro o (pElem r row')]]=Γ':=by (simp only [List.cons_append,List.nil_append]) <;> exact rfl):AW P J w0 D Post K Γ (.em (.pr (.indexAddr t (.tmp 0) q) ty [.s (.c i j),x]) k):=fun hJ L E u hL hk0=>by
  obtain ⟨_,_,os,S,hnd,hS,hr⟩:=id hk0
  obtain ⟨c,oo,⟨h1,_⟩,h2,_⟩:=look_ok hr hl
  obtain ⟨hfit,b,p,cc,tt,fz,rfl,hb,hlim,x',hx1,hx2⟩:=h1
  obtain ⟨pre,ee,hs⟩:=dropP_ok hd
  subst ee
  obtain ⟨c1,c2,rfl,k1,k2⟩:=hx1.split
  have hl1:=k1.len
  have hden:(V1.s (A.c i j)).den [] E=.pointer (some ⟨b,p,none⟩):=h2 0 _ rfl
  have hxv:=knownV_ok hr hi
  obtain ⟨len,ie,hu,hie,m0,m1,hz,rfl⟩:=arrAt_ok ha
  refine ⟨.pointer (some ⟨b,p+m.toNat * ie.size,none⟩),?_,rfl,hk hJ L _ u hL.ext (hΓ ▸ Knows.mk1 hk0.1 hk0.2.1 hnd hS hr (RepS.one_of ⟨⟨fun q hq=>hfit q (List.mem_append_right _ hq),b,_,cc,tt,fz,rfl,hb,hlim,c2,k2,fun m' y hy=>?_⟩,rfl⟩) ?_)⟩
  · simp only [List.map_cons,List.map_nil,hden,hxv]
    intro w
    have hq':=hq (.pointer (some ⟨b,p,none⟩))
    have hp':pe [.pointer (some ⟨b,p,none⟩),vi] (.tmp 0)=.pointer (some ⟨b,p,none⟩):=rfl
    simp only [execOp,hq',hp']
    simp [Instr.indexAt,asIntOf,run_underlying hu,Instr.sureAddr,m0,m1,Go.sizeOf,typeInfo,hie,Addr.add_mid]
  · have:=hx2 (m.toNat * ie.size+m') y (by rw [List.getElem?_append_right (by omega),show m.toNat * ie.size+m' - c1.length=m' by omega]; exact hy)
    rwa [← Nat.add_assoc] at this
  · have:=look_okD hk0.2.1 hl
    simpa [AV.okD,pElem] using this
end rules
end Cin

namespace Cin
open Go Go.RowKit
abbrev PolyL:=List (M × Rat)
def putP:PolyL→M × Rat→PolyL
  | [],t=>if t.2=0 then [] else [t]
  | x::r,t=>if mc x.1 t.1 < 0 then x::putP r t else if x.1=t.1 then (if x.2+t.2=0 then r else (x.1,x.2+t.2)::r) else if t.2=0 then x::r else t::x::r
section put
variable {p:PolyL} {t x:M × Rat} {i:Nat}
end put
def addP (p q:PolyL):PolyL:=q.foldl putP p
def mulR (q:PolyL) (r:Rat):PolyL:=q.map fun x=>(x.1,x.2 * r)
theorem take_snoc {α:Type} {l:List α} {i:Nat} {x:α} (h:l[i]?=some x):l.take (i+1)=l.take i++[x]:=by
  have hlt:=(List.getElem?_eq_some_iff.1 h).1
  rw [← List.take_append_getElem hlt,(List.getElem?_eq_some_iff.1 h).2]
theorem addP_step {p q:PolyL} {i:Nat} {x:M × Rat} (h:q[i]?=some x):addP p (q.take (i+1))=putP (addP p (q.take i)) x:=by
  unfold addP
  rw [take_snoc h,List.foldl_append]; rfl
def FitP (fit:Rat→Prop) (p:PolyL):Prop:=∀ x∈p,fit x.2
theorem FitP.put {fit:Rat→Prop}:∀ {p:PolyL} {t:M × Rat},FitP fit p→fit t.2→(∀ x∈p,x.1=t.1→fit (x.2+t.2))→FitP fit (putP p t)
  | [],t,_,h2,_=>by
    unfold putP
    split
    · exact fun x hx=>by cases hx
    · exact fun x hx=>by rw [List.mem_singleton.1 hx]; exact h2
  | y::r,t,h1,h2,h3=>by
    have hr:FitP fit r:=fun x hx=>h1 x (List.mem_cons_of_mem _ hx)
    unfold putP
    split
    · intro x hx
      rcases List.mem_cons.1 hx with rfl | hx
      · exact h1 _ List.mem_cons_self
      · exact FitP.put hr h2 (fun x hx=>h3 x (List.mem_cons_of_mem _ hx)) x hx
    · split
      · rename_i e
        split
        · exact hr
        · intro x hx
          rcases List.mem_cons.1 hx with rfl | hx
          · exact h3 y List.mem_cons_self e
          · exact hr x hx
      · split
        · exact h1
        · intro x hx
          rcases List.mem_cons.1 hx with rfl | hx
          · exact h2
          · exact h1 x hx
def OkP (p:PolyL):Prop:=∀ x∈p,x.1.ok
theorem OkP.put:∀ {p:PolyL} {t:M × Rat},OkP p→t.1.ok→OkP (putP p t)
  | [],t,_,h2=>by
    unfold putP
    split
    · exact fun x hx=>by cases hx
    · exact fun x hx=>by rw [List.mem_singleton.1 hx]; exact h2
  | y::r,t,h1,h2=>by
    have hr:OkP r:=fun x hx=>h1 x (List.mem_cons_of_mem _ hx)
    unfold putP
    split
    · intro x hx
      rcases List.mem_cons.1 hx with rfl | hx
      · exact h1 _ List.mem_cons_self
      · exact OkP.put hr h2 x hx
    · split
      · split
        · exact hr
        · intro x hx
          rcases List.mem_cons.1 hx with rfl | hx
          · exact h1 y List.mem_cons_self
          · exact hr x hx
      · split
        · exact h1
        · intro x hx
          rcases List.mem_cons.1 hx with rfl | hx
          · exact h2
          · exact h1 x hx
theorem OkP.add {p:PolyL}:∀ {q:PolyL},OkP p→OkP q→OkP (addP p q):=by
  intro q
  induction q generalizing p with
  | nil=>exact fun h _=>h
  | cons x r ih=>exact fun h1 h2=>ih (p:=putP p x) (h1.put (h2 x List.mem_cons_self)) (fun y hy=>h2 y (List.mem_cons_of_mem _ hy))
theorem putP_len:∀ (p:PolyL) (t:M × Rat),(putP p t).length≤p.length+1
  | [],t=>by unfold putP; split <;> simp
  | x::r,t=>by
    have:=putP_len r t
    unfold putP
    (repeat' split) <;> simp <;> omega
section rules
variable {P:Program} {J:Jd} {w0:W0} {D:TypeId→Bool} {Post:Ending→World→Prop} {K:LK} {Γ:List (List AV)} {k:Tr}
def AV.rd:AV→AV
  | .ro _ p=>.ro false p
  | .own _ r rows=>.ro false (pRows r rows)
  | a=>a
theorem RepV.rd {B:Bd} {w:World} {a:AV} {cs:List Value} {os:List Nat} (h:RepV B w a cs os):∃ os',RepV B w a.rd cs os'∧os'.Sublist os:=by
  cases a with
  | ro old p=>
    cases old with
    | true=>exact ⟨os,⟨p.lim h.1,h.2⟩,List.Sublist.refl _⟩
    | false=>exact ⟨os,h,List.Sublist.refl _⟩
  | own g r rows=>exact ⟨[],⟨OwnR.rows h,rfl⟩,List.nil_sublist _⟩
  | var g r row=>exact ⟨os,h,List.Sublist.refl _⟩
  | junk n=>exact ⟨os,h,List.Sublist.refl _⟩
  | map g m en=>exact ⟨os,h,List.Sublist.refl _⟩
  | iter g m c l=>exact ⟨os,h,List.Sublist.refl _⟩
  | blk g r cap rows=>exact ⟨os,h,List.Sublist.refl _⟩
theorem RepS.rd {B:Bd} {w:World}:∀ {s:List AV} {cs:List Value} {os:List Nat},RepS B w s cs os→∃ os',RepS B w (s.map AV.rd) cs os'∧os'.Sublist os
  | [],_,os,h=>⟨os,h,List.Sublist.refl _⟩
  | _::_,_,_,⟨c1,c2,o1,o2,e,e2,h1,h2⟩=>by
    obtain ⟨p1,k1,s1⟩:=h1.rd
    obtain ⟨p2,k2,s2⟩:=RepS.rd h2
    exact ⟨p1++p2,⟨c1,c2,p1,p2,e,rfl,k1,k2⟩,by rw [e2]; exact s1.append s2⟩
theorem aRetR {x:SV} {avs:List AV} {Γ':List (List AV)} {sh:List (Option Nat)} {rs:(Nat→Nat)→List AV} (ht:takeL Γ x.atoms=some (avs,Γ')) (hsh:svShp x=some sh) (hr:(avs.map AV.new).map AV.rd=rs (fun _=>0)):AW P J w0 D (TellsA w0 sh rs) K Γ (.ret x):=by
  intro hJ L E u hL h0 w he hb
  obtain ⟨cs,os,γ',S,e1,e2,e5,e3,e4⟩:=aRet (P:=P) (rs:=fun _=>avs.map AV.new) (fun _=>0) ht hsh rfl hJ L E u hL h0 w he hb
  obtain ⟨os',k1,k2⟩:=RepS.rd e3
  exact ⟨cs,os',fun _=>0,S,e1,e2.sublist k2,e5,by rw [← hr]; exact k1,e4⟩
theorem aCallP {J1:Jd} {f:FuncId} {sh:List (Option Nat)} {i j:Nat} (m:Nat) {at0:List A} {p:Pd} {ps:List Pd} {rs:(Nat→Nat)→List AV} {Γ':(Nat→Nat)→List (List AV)} (hl:(look Γ i j).bind AV.pd=some p) (hp:∀ l w cs,p.R l w cs→m≤cs.length∧RL l w ps (cs.take m))
    (hc:Ct P J1 f [some m] [ps] sh rs) (hk:∀ γ,AW P J w0 D Post K (Γ' γ) k) (har:at0=(List.range m).map (fun q=>A.c i (j+q)):=by rfl)
    (hs:∀ γ,((rs γ).all (AV.okD D) && (rs γ).all AV.noOld)=true:=by intros; rfl) (hΓ:∀ γ,Γ++[rs γ]=Γ' γ:=by intros; (simp only [List.cons_append,List.nil_append]) <;> exact rfl) (hw:∀ w,J.J w→J1.J w:=by intro w h; first | exact h | exact h.1 | exact trivial):AW P J w0 D Post K Γ (.em (.call f [.g at0] sh) k):=by
  subst har
  have hshp:([V1.g ((List.range m).map (fun q=>A.c i (j+q)))]:List V1).map V1.shp=[some m]:=by simp [V1.shp]
  refine aCallX (asx:=[ps]) (fun B w os E hr=>?_) (by rw [hshp]; exact hc) hk hs hΓ hw
  rw [hshp]
  cases ha:look Γ i j with
  | none=>rw [ha] at hl; cases hl
  | some a=>
    rw [ha] at hl
    obtain ⟨c,o,h1,h2,_⟩:=look_ok hr ha
    obtain ⟨hm,hrl⟩:=hp _ _ _ (AV.pd_ok hl h1)
    have e:((List.range m).map (fun q=>A.c i (j+q))).map (A.den [] E)=c.take m:=by
      refine List.ext_getElem? fun q=>?_
      by_cases hq:q < m
      · rw [List.getElem?_take,if_pos hq]
        have hqc:q < c.length:=by omega
        have h3:=h2 q _ (List.getElem?_eq_getElem hqc)
        simp only [List.getD_eq_getElem?_getD] at h3
        simp [hq,A.den,h3,List.getElem?_eq_getElem hqc]
      · rw [List.getElem?_eq_none (by simp; omega),List.getElem?_eq_none (by simp; omega)]
    refine ⟨c.take m,[],?_,?_,?_,rfl⟩
    · simp only [List.map_cons,List.map_nil,V1.atoms,e]
    · simp; omega
    · exact RL.allN (b0:=B.b0) (S:=B.S) hrl
end rules
end Cin
