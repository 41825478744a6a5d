/- Rules: slices and what they point to, read. No program. -/
import Derived.Test.YthffkbbcofbceaaGreatDoorYt
namespace Cin
open Go Go.RowKit
def slTb (P:Program) (T:TypeId) (r:Rty):Bool:=match P.underlying T,P.info? r.t with
  | some (.slice e),some ie=>e == r.t && ie.size == r.n
  | _,_=>false
theorem slT_of {P:Program} {T:TypeId} {r:Rty} (h:slTb P T r=true):P.underlying T=some (.slice r.t)∧∃ ie,P.info? r.t=some ie∧ie.size=r.n:=by
  unfold slTb at h
  split at h
  · rename_i e ie h1 h2
    simp only [Bool.and_eq_true,beq_iff_eq] at h
    exact ⟨by rw [h1,h.1],ie,h2,h.2⟩
  · cases h
def tyOk (P:Program) (t:TypeId) (n:Nat):Option Nat→Bool
  | some m=>(match P.info? t,P.underlying t with | some i,some d=>i.size == n && d.isRow && m == n | _,_=>false)
  | none=>(match P.info? t,P.underlying t with | some i,some d=>i.size == n && !d.isRow && n == 1 | _,_=>false)
theorem run_ldOk {P:Program} {t:TypeId} {sh:Option Nat} {b o:Nat} {cs:List Value} {w:World} (h:tyOk P t cs.length sh=true) (hc:w.rangeAt b o cs):(Instr.loadAt t (.pointer (some ⟨b,o,none⟩))).run P w=.ok ((v1of 0 0 sh).den [] [cs]) w:=by
  cases sh with
  | some m=>
    simp only [tyOk] at h
    split at h
    · rename_i i d hi hd
      simp only [Bool.and_eq_true,beq_iff_eq] at h
      obtain ⟨⟨h1,h2⟩,h3⟩:=h
      rw [run_loadAt_mid w b o t cs d hc hd h2 (by rw [hi,Option.map_some,h1])]
      congr 1
      simp only [v1of,V1.den,h3]
      congr 2
      refine List.ext_getElem? fun j=>?_
      simp only [List.getElem?_map]
      by_cases hj:j < cs.length
      · rw [List.getElem?_range' hj,List.getElem?_eq_getElem hj]; simp [A.den,hj]
      · have hj':cs.length≤j:=by omega
        simp [hj']
    · cases h
  | none=>
    simp only [tyOk] at h
    split at h
    · rename_i i d hi hd
      simp only [Bool.and_eq_true,beq_iff_eq,Bool.not_eq_true'] at h
      obtain ⟨⟨h1,h2⟩,h3⟩:=h
      match cs,h3 with
      | [v],_=>
        have hv:=hc 0 v rfl
        have hagg:(isAgg t).run P w=.ok false w:=by
          unfold isAgg
          rw [Sem.run_bind,run_underlying hd w]
          cases d <;> first | rfl | cases h2
        simp only [Nat.add_zero] at hv
        simp [Instr.loadAt,Instr.sureAddr,loadVar,Sem.run_bind,hagg,hv,v1of,V1.den,A.den]
    · cases h
def takeP:Nat→List Pd→Option (List Pd)
  | 0,_=>some []
  | _+1,[]=>none
  | n+1,p::ps=>bif Nat.ble p.n (n+1) then (match takeP (n+1 - p.n) ps with | some qs=>some (p::qs) | none=>none) else none
def dropP:Nat→List Pd→Option (List Pd)
  | 0,ps=>some ps
  | _+1,[]=>none
  | n+1,p::ps=>bif Nat.ble p.n (n+1) then dropP (n+1 - p.n) ps else none
theorem takeP_ok:∀ {n:Nat} {ps qs:List Pd},takeP n ps=some qs→∃ rs,ps=qs++rs∧szL qs=n
  | 0,ps,qs,h=>by
    have:qs=[]:=by cases ps <;> simpa [takeP,eq_comm] using h
    exact ⟨ps,by rw [this]; rfl,by rw [this]; rfl⟩
  | n+1,[],qs,h=>by simp [takeP] at h
  | n+1,p::ps,qs,h=>by
    simp only [takeP] at h
    cases hb:Nat.ble p.n (n+1) with
    | false=>rw [hb] at h; cases h
    | true=>
      rw [hb] at h
      simp only [cond_true] at h
      split at h
      · rename_i q hq
        cases h
        obtain ⟨rs,e,hs⟩:=takeP_ok hq
        have:=Nat.le_of_ble_eq_true hb
        exact ⟨rs,by rw [e]; rfl,by simp only [szL,hs]; omega⟩
      · cases h
theorem dropP_ok:∀ {n:Nat} {ps qs:List Pd},dropP n ps=some qs→∃ pre,ps=pre++qs∧szL pre=n
  | 0,ps,qs,h=>by
    have:ps=qs:=by cases ps <;> simpa [dropP] using h
    exact ⟨[],by rw [this]; rfl,rfl⟩
  | n+1,[],qs,h=>by simp [dropP] at h
  | n+1,p::ps,qs,h=>by
    simp only [dropP] at h
    cases hb:Nat.ble p.n (n+1) with
    | false=>rw [hb] at h; cases h
    | true=>
      rw [hb] at h
      obtain ⟨pre,e,hs⟩:=dropP_ok (n:=n+1 - p.n) h
      have:=Nat.le_of_ble_eq_true hb
      exact ⟨p::pre,by rw [e]; rfl,by simp only [szL,hs]; omega⟩
def fieldOff (P:Program) (s:TypeId) (f:Nat):Option Nat:=match P.underlying s with
  | some (.struct fs)=>(match fs[f]? with
    | some fd=>(match P.info? fd.type with | some i=>bif Nat.beq i.size 0 then none else some fd.offset | none=>none)
    | none=>none)
  | _=>none
theorem prField {P:Program} {s ty:TypeId} {f:Nat} {p:Operand} {vs:List Value} {b o off:Nat} (hp:pe vs p=.pointer (some ⟨b,o,none⟩)) (hf:fieldOff P s f=some off):PrimOk P (.fieldAddr s p f) ty vs (.pointer (some ⟨b,o+off,none⟩)):=fun w=>by
  unfold fieldOff at hf
  split at hf
  · rename_i fs hu
    split at hf
    · rename_i fd hfd
      split at hf
      · rename_i i hi
        cases hz:Nat.beq i.size 0 with
        | true=>rw [hz] at hf; cases hf
        | false=>
          rw [hz] at hf
          cases hf
          have hz':¬ i.size=0:=fun e=>by rw [e] at hz; cases hz
          simp [execOp,hp,Instr.fieldAt,run_underlying hu,hfd,Instr.sureAddr,fieldPlace,Go.sizeOf,typeInfo,hi,hz',Addr.add_mid]
      · cases hf
    · cases hf
  · cases hf
section rules
variable {P:Program} {J:Jd} {w0:W0} {D:TypeId→Bool} {Post:Ending→World→Prop} {K:LK} {Γ:List (List AV)} {k:Tr}
theorem RowsR.sh {r:Rty} {rows:List (List Pd)} {l:Lm} {w:World} {cs:List Value} (h:RowsR r rows l w cs):∃ ad cap,cs=[.slice ad rows.length cap]:=by
  rcases h.2 with ⟨ad,cap,e,_,h0⟩ | ⟨b,o,cap,c,t,f,e,_⟩
  · subst h0; exact ⟨ad,cap,e⟩
  · exact ⟨_,cap,e⟩
theorem look_pd {B:Bd} {w:World} {E:Env} {os:List Nat} {i j:Nat} {p:Pd} (hr:RepE B w Γ E os) (hl:(look Γ i j).bind AV.pd=some p):∃ c,p.R B.nn w c∧∀ (m:Nat) (v:Value),c[m]?=some v→(A.c i (j+m)).den [] E=v:=by
  cases ha:look Γ i j with
  | none=>rw [ha] at hl; cases hl
  | some a=>
    rw [ha] at hl
    obtain ⟨c,o,h1,h2,_⟩:=look_ok hr ha
    exact ⟨c,AV.pd_ok hl h1,h2⟩
theorem aLen {T ty:TypeId} {i j n:Nat} {r:Rty} {rows:List (List Pd)} {Γ':List (List AV)} (hl:(look Γ i j).bind AV.pd=some (pRows r rows)) (hn:rows.length=n) (hk:AW P J w0 D Post K Γ' k) (hT:slTb P T r=true:=by kernel_rfl)
    (hΓ:Γ++[[.ro true (pV (.int .i64 n))]]=Γ':=by (simp only [List.cons_append,List.nil_append]) <;> exact rfl):AW P J w0 D Post K Γ (.em (.pr (.call { callee:=.builtin .len,args:=#[.tmp 0],argTypes:=#[T] }) ty [.s (.c i j)]) k):=fun hJ L E u hL h0=>by
  subst hn
  obtain ⟨hu,_⟩:=slT_of hT
  obtain ⟨_,_,os,S,hnd,hS,hr⟩:=id h0
  obtain ⟨c,h1,h2⟩:=look_pd hr hl
  obtain ⟨ad,cap,rfl⟩:=RowsR.sh h1
  have hd:(A.c i j).den [] E=.slice ad rows.length cap:=h2 0 _ rfl
  refine ⟨.int .i64 rows.length,?_,rfl,hk hJ L _ u hL.ext (hΓ ▸ h0.val rfl)⟩
  simp only [List.map_cons,List.map_nil,V1.den,hd]
  exact prLen hu rfl
theorem aIdx {T ty:TypeId} {i j:Nat} {x:V1} {q:Operand} {o:Bool} {r:Rty} {rows:List (List Pd)} {row:List Pd} {κ:IntKind} {m:Int} {vi:Value} {Γ':List (List AV)} (hl:look Γ i j=some (.ro o (pRows r rows))) (hi:knownV Γ x=some vi) (hq:∀ s,pe [s,vi] q=.int κ m) (h0:0≤m) (hrow:rows[m.toNat]?=some row) (hk:AW P J w0 D Post K Γ' k) (hT:slTb P T r=true:=by kernel_rfl)
    (hΓ:Γ++[[.ro o (pElem r row)]]=Γ':=by (simp only [List.cons_append,List.nil_append]) <;> exact rfl):AW P J w0 D Post K Γ (.em (.pr (.indexAddr T (.tmp 0) q) ty [.s (.c i j),x]) k):=fun hJ L E u hL hk0=>by
  obtain ⟨_,_,os,S,hnd,hS,hr⟩:=id hk0
  obtain ⟨c,oo,⟨h1,_⟩,h2,_⟩:=look_ok hr hl
  obtain ⟨hu,ie,hie,hn⟩:=slT_of hT
  have hlt:=(List.getElem?_eq_some_iff.1 hrow).1
  rcases h1.2 with ⟨_,_,_,_,e0⟩ | ⟨b,off,cap,cc,tt,f,rfl,hb,hlim,hmx,hat⟩
  · rw [e0] at hrow; simp at hrow
  · have hd:(A.c i j).den [] E=.slice (some ⟨b,off,none⟩) rows.length cap:=h2 0 _ rfl
    have hx:=knownV_ok hr hi
    refine ⟨.pointer (some ⟨b,off+m.toNat * r.n,none⟩),?_,rfl,hk hJ L _ u hL.ext (hΓ ▸ Knows.mk1 hk0.1 hk0.2.1 hnd hS hr (RepS.one_of ⟨?_,rfl⟩) ?_)⟩
    · have hd':(V1.s (A.c i j)).den [] E=.slice (some ⟨b,off,none⟩) rows.length cap:=hd
      simp only [List.map_cons,List.map_nil,hd',hx]
      exact prIdxR hu hie hn rfl (hq _) h0 (by omega)
    · obtain ⟨x,hxl,hx1,hx2⟩:=hat m.toNat row hrow
      exact ⟨h1.1 row (List.mem_of_getElem? hrow),b,_,cc,tt,f,rfl,hb,hlim,x,hx1,hx2⟩
    · have:=look_okD hk0.2.1 hl
      simpa [AV.okD,pRows,pElem] using this
theorem aIdxB {T ty:TypeId} {i j:Nat} {x:V1} {q:Operand} {g:Nat} {r:Rty} {rows:List (List Pd)} {row:List Pd} {κ:IntKind} {m:Int} {vi:Value} {Γ':List (List AV)} (hl:look Γ i j=some (.own g r rows)) (hi:knownV Γ x=some vi) (hq:∀ s,pe [s,vi] q=.int κ m) (h0:0≤m) (hrow:rows[m.toNat]?=some row) (hk:AW P J w0 D Post K Γ' k) (hT:slTb P T r=true:=by kernel_rfl)
    (hΓ:Γ++[[.ro false (pElem r row)]]=Γ':=by (simp only [List.cons_append,List.nil_append]) <;> exact rfl):AW P J w0 D Post K Γ (.em (.pr (.indexAddr T (.tmp 0) q) ty [.s (.c i j),x]) k):=fun hJ L E u hL hk0=>by
  obtain ⟨_,_,os,S,hnd,hS,hr⟩:=id hk0
  obtain ⟨c,oo,h1,h2,_⟩:=look_ok hr hl
  have h1:=OwnR.rows h1
  obtain ⟨hu,ie,hie,hn⟩:=slT_of hT
  have hlt:=(List.getElem?_eq_some_iff.1 hrow).1
  rcases h1.2 with ⟨_,_,_,_,e0⟩ | ⟨b,off,cap,cc,tt,f,rfl,hb,hlim,hmx,hat⟩
  · rw [e0] at hrow; simp at hrow
  · have hd:(A.c i j).den [] E=.slice (some ⟨b,off,none⟩) rows.length cap:=h2 0 _ rfl
    have hx:=knownV_ok hr hi
    refine ⟨.pointer (some ⟨b,off+m.toNat * r.n,none⟩),?_,rfl,hk hJ L _ u hL.ext (hΓ ▸ Knows.mk1 hk0.1 hk0.2.1 hnd hS hr (RepS.one_of ⟨?_,rfl⟩) ?_)⟩
    · have hd':(V1.s (A.c i j)).den [] E=.slice (some ⟨b,off,none⟩) rows.length cap:=hd
      simp only [List.map_cons,List.map_nil,hd',hx]
      exact prIdxR hu hie hn rfl (hq _) h0 (by omega)
    · obtain ⟨x,hxl,hx1,hx2⟩:=hat m.toNat row hrow
      exact ⟨h1.1 row (List.mem_of_getElem? hrow),b,_,cc,tt,f,rfl,hb,hlim,x,hx1,hx2⟩
    · have:=look_okD hk0.2.1 hl
      simpa [AV.okD,pElem] using this
theorem aField {s ty:TypeId} {f i j off:Nat} {o:Bool} {r:Rty} {row row':List Pd} {Γ':List (List AV)} (hl:look Γ i j=some (.ro o (pElem r row))) (hf:fieldOff P s f=some off) (hd:dropP off row=some row') (hk:AW P J w0 D Post K Γ' k)
    (hΓ:Γ++[[.ro o (pElem r row')]]=Γ':=by (simp only [List.cons_append,List.nil_append]) <;> exact rfl):AW P J w0 D Post K Γ (.em (.pr (.fieldAddr s (.tmp 0) f) ty [.s (.c i j)]) k):=fun hJ L E u hL hk0=>by
  obtain ⟨_,_,os,S,hnd,hS,hr⟩:=id hk0
  obtain ⟨c,oo,⟨h1,_⟩,h2,_⟩:=look_ok hr hl
  obtain ⟨hfit,b,p,cc,tt,fz,rfl,hb,hlim,x,hx1,hx2⟩:=h1
  obtain ⟨pre,e,hs⟩:=dropP_ok hd
  subst e
  obtain ⟨c1,c2,rfl,k1,k2⟩:=hx1.split
  have hl1:=k1.len
  have hden:(A.c i j).den [] E=.pointer (some ⟨b,p,none⟩):=h2 0 _ rfl
  refine ⟨.pointer (some ⟨b,p+off,none⟩),?_,rfl,hk hJ L _ u hL.ext (hΓ ▸ Knows.mk1 hk0.1 hk0.2.1 hnd hS hr (RepS.one_of ⟨⟨fun q hq=>hfit q (List.mem_append_right _ hq),b,_,cc,tt,fz,rfl,hb,hlim,c2,k2,fun m y hy=>?_⟩,rfl⟩) ?_)⟩
  · simp only [List.map_cons,List.map_nil,V1.den,hden]
    exact prField rfl hf
  · have:=hx2 (off+m) y (by rw [List.getElem?_append_right (by omega),show off+m - c1.length=m by omega]; exact hy)
    rwa [← Nat.add_assoc] at this
  · have:=look_okD hk0.2.1 hl
    simpa [AV.okD,pElem] using this
theorem RL.slot {B:Bd} {w:World} {o:Bool}:∀ {ps:List Pd} {cs:List Value},RL (limOf B o) w ps cs→RepS B w (ps.map (.ro o)) cs []
  | [],_,h=>⟨h,rfl⟩
  | _::_,_,⟨c1,c2,e,h1,h2⟩=>⟨c1,c2,[],[],e,rfl,⟨h1,rfl⟩,h2.slot⟩
theorem fit_okD {o:Bool} {r:Rty} {row:List Pd} (hf:r.Fit row) (h1:r.nu.all D=true):(row.map (AV.ro o)).all (AV.okD D)=true:=by
  rw [List.all_eq_true]
  intro a ha
  obtain ⟨p,hp,rfl⟩:=List.mem_map.1 ha
  simp only [AV.okD,List.all_eq_true]
  refine fun t ht=>List.all_eq_true.1 h1 t ?_
  simpa using (hf p hp).1 t (by simpa using ht)
theorem aLd {t ty:TypeId} {i j n:Nat} {sh:Option Nat} {o:Bool} {r:Rty} {row mid:List Pd} {Γ':List (List AV)} (hl:look Γ i j=some (.ro o (pElem r row))) (_hn:sh.getD 1=n) (hm:takeP n row=some mid) (hk:AW P J w0 D Post K Γ' k) (ht:tyOk P t n sh=true:=by kernel_rfl)
    (hΓ:Γ++[mid.map (.ro o)]=Γ':=by (simp only [List.cons_append,List.nil_append,List.map_cons,List.map_nil]) <;> exact rfl):AW P J w0 D Post K Γ (.em (.ld (.load t (.tmp 0)) ty [.s (.c i j)] sh) k):=fun hJ L E u hL hk0=>by
  obtain ⟨_,_,os,S,hnd,hS,hr⟩:=id hk0
  obtain ⟨c,oo,⟨h1,_⟩,h2,_⟩:=look_ok hr hl
  obtain ⟨hfit,b,p,cc,tt,fz,rfl,hb,hlim,x,hx1,hx2⟩:=h1
  obtain ⟨rs,e,hs⟩:=takeP_ok hm
  subst e
  obtain ⟨c1,c2,rfl,k1,k2⟩:=hx1.split
  have hl1:=k1.len
  have hden:(A.c i j).den [] E=.pointer (some ⟨b,p,none⟩):=h2 0 _ rfl
  have hD:=look_okD hk0.2.1 hl
  simp only [AV.okD,pElem] at hD
  refine ⟨c1,k1.one,fun w he hbw=>?_,hk hJ L _ u hL.ext (hΓ ▸ Knows.mk1 hk0.1 hk0.2.1 hnd hS hr (k1.slot) (fit_okD (fun q hq=>hfit q (List.mem_append_left _ hq)) hD))⟩
  have hg:w.heap[b]?=some (.cells cc tt fz):=by
    have hold:(w0.bd S).old b→w.heap[b]?=some (.cells cc tt fz):=fun hlt=>by rw [hbw.block b hlt.1 hlt.2,← hk0.1.block b hlt.1 hlt.2]; exact hb
    cases o with
    | true=>exact hold (hlim.2 _ rfl)
    | false=>
      rcases hlim.1 with h | h
      · exact hold ((w0.bd S).low h)
      · exact he.block b cc tt fz hb (.inr ((hS.at_ b h.2).2.2 _ _ _ hb))
  have hden':(V1.s (A.c i j)).den [] E=.pointer (some ⟨b,p,none⟩):=hden
  simp only [List.map_cons,List.map_nil,hden']
  show (execOp _ _).run P w=_
  have hrun:=run_ldOk (P:=P) (w:=w) (b:=b) (o:=p) (cs:=c1) (t:=t) (sh:=sh) (by rw [hl1,hs]; exact ht) (fun m y hy=>by
    have:=hx2 m y (by rw [List.getElem?_append_left (List.getElem?_eq_some_iff.1 hy).1]; exact hy)
    simp [World.cell?,hg,this])
  simp only [execOp,pe,List.getD_cons_zero]
  simp [hrun]
end rules
end Cin

namespace Cin
open Go Go.RowKit
def setS (v:AV):List AV→Nat→List AV
  | [],_=>[]
  | _::r,0=>v::r
  | a::r,k+1=>a::setS v r (k+1 - a.n)
def setAt (v:AV):List (List AV)→Nat→Nat→List (List AV)
  | [],_,_=>[]
  | s::Γ,0,k=>setS v s k::Γ
  | s::Γ,i+1,k=>s::setAt v Γ i k
def safeE (t:TypeId) (Γ:List (List AV)):Bool:=Γ.all fun s=>s.all (AV.safe t)
section write
variable {B:Bd} {g:Nat} {t:TypeId} {D:TypeId→Bool} {S':Nat→Prop} {u w:World} {a v:AV}
theorem setS_w (hw:Goes B (·=g) D u w) (hS:Gr u B.S S') (hM:∀ b o,u.heap[b]?=some o→NotCells o→b=g→¬ B.S b) (ht:∀ b c t' f,u.heap[b]?=some (Obj.cells c t' f)→b=g→t'=t) (ha:∀ c o,RepV B u a c o→o=[g]∧RepV (B.sh S') w v c o) :
    ∀ {s:List AV} {k:Nat} {cs:List Value} {os:List Nat},RepS B u s cs os→lookS s k=some a→(junkS s k).all (AV.okD D)=true→(junkS s k).all (AV.safe t)=true→os.Nodup→RepS (B.sh S') w (setS v s k) cs os
  | [],_,_,_,_,h,_,_,_=>by simp [lookS] at h
  | b::r,0,_,_,⟨c1,c2,o1,o2,e,e2,h1,h2⟩,h,hD,hs,hn=>by
    simp only [lookS,Option.some.injEq] at h
    subst h
    obtain ⟨rfl,hv⟩:=ha _ _ h1
    simp only [junkS,List.all_cons,Bool.and_eq_true] at hD hs
    subst e2
    have hg:g ∉ o2:=by have:=hn; simp at this; exact this.1
    exact ⟨c1,c2,[g],o2,e,rfl,hv,h2.goes hw hS hM hD.2 (fun b c t' f hb hx=>by rw [ht b c t' f hb hx]; exact hs.2) (fun g' hg' e'=>hg (e' ▸ hg'))⟩
  | b::r,k+1,_,_,⟨c1,c2,o1,o2,e,e2,h1,h2⟩,h,hD,hs,hn=>by
    simp only [lookS] at h
    simp only [junkS,List.all_cons,Bool.and_eq_true] at hD hs
    cases hb:Nat.ble b.n (k+1) with
    | false=>rw [hb] at h; cases h
    | true=>
      rw [hb] at h
      obtain ⟨_,c,_,p1,p,p2,_,_,e5,h3⟩:=lookS_ok h2 h
      obtain ⟨rfl,_⟩:=ha _ _ h3
      subst e2
      have hg:g ∉ o1:=fun hg=>(List.nodup_append.1 hn).2.2 g hg g (by rw [e5]; simp) rfl
      exact ⟨c1,c2,o1,o2,e,rfl,h1.goes hw hS hD.1 (fun b c t' f hb hx=>by rw [ht b c t' f hb hx]; exact hs.1) hM (fun g' hg' e'=>hg (e' ▸ hg')),setS_w hw hS hM ht ha h2 h hD.2 hs.2 (List.nodup_append.1 hn).2.1⟩
theorem setAt_w (hw:Goes B (·=g) D u w) (hS:Gr u B.S S') (hM:∀ b o,u.heap[b]?=some o→NotCells o→b=g→¬ B.S b) (ht:∀ b c t' f,u.heap[b]?=some (Obj.cells c t' f)→b=g→t'=t) (ha:∀ c o,RepV B u a c o→o=[g]∧RepV (B.sh S') w v c o) :
    ∀ {Γ:List (List AV)} {i k:Nat} {E:Env} {os:List Nat},RepE B u Γ E os→look Γ i k=some a→okE D (junkAt Γ i k)=true→safeE t (junkAt Γ i k)=true→os.Nodup→RepE (B.sh S') w (setAt v Γ i k) E os
  | [],_,_,_,_,_,h,_,_,_=>by simp [look] at h
  | s::Γ,0,k,_,_,⟨cs,E',o1,o2,e,e2,h1,h2⟩,h,hD,hs,hn=>by
    have h':lookS s k=some a:=by simpa [look] using h
    obtain ⟨_,c,_,p1,p,p2,_,_,e5,h3⟩:=lookS_ok h1 h'
    obtain ⟨rfl,_⟩:=ha _ _ h3
    simp only [okE,safeE,junkAt,List.all_cons,Bool.and_eq_true] at hD hs
    subst e2
    have hg:g ∉ o2:=fun hg=>(List.nodup_append.1 hn).2.2 g (by rw [e5]; simp) g hg rfl
    exact ⟨cs,E',o1,o2,e,rfl,setS_w hw hS hM ht ha h1 h' hD.1 hs.1 (List.nodup_append.1 hn).1,h2.goes hw hS hM hD.2 (fun b c t' f hb hx=>by rw [ht b c t' f hb hx]; exact hs.2) (fun g' hg' e'=>hg (e' ▸ hg'))⟩
  | s::Γ,i+1,k,_,_,⟨cs,E',o1,o2,e,e2,h1,h2⟩,h,hD,hs,hn=>by
    have h':look Γ i k=some a:=by simpa [look] using h
    obtain ⟨c,o,h3,_,hin⟩:=look_ok h2 h'
    obtain ⟨rfl,_⟩:=ha _ _ h3
    simp only [okE,safeE,junkAt,List.all_cons,Bool.and_eq_true] at hD hs
    subst e2
    have hg:g ∉ o1:=fun hg=>(List.nodup_append.1 hn).2.2 g hg g (hin g (by simp)) rfl
    exact ⟨cs,E',o1,o2,e,rfl,h1.goes hw hS hM hD.1 (fun b c t' f hb hx=>by rw [ht b c t' f hb hx]; exact hs.1) (fun g' hg' e'=>hg (e' ▸ hg')),setAt_w hw hS hM ht ha h2 h' hD.2 hs.2 (List.nodup_append.1 hn).2.1⟩
theorem setS_okD (hv:v.okD D=true):∀ {s:List AV} {k:Nat},s.all (AV.okD D)=true→(setS v s k).all (AV.okD D)=true
  | [],_,_=>rfl
  | a::r,0,h=>by simp only [List.all_cons,Bool.and_eq_true] at h; simp only [setS,List.all_cons,Bool.and_eq_true]; exact ⟨hv,h.2⟩
  | a::r,k+1,h=>by simp only [List.all_cons,Bool.and_eq_true] at h; simp only [setS,List.all_cons,Bool.and_eq_true]; exact ⟨h.1,setS_okD hv h.2⟩
theorem setAt_okE (hv:v.okD D=true):∀ {Γ:List (List AV)} {i k:Nat},okE D Γ=true→okE D (setAt v Γ i k)=true
  | [],_,_,_=>rfl
  | s::Γ,0,k,h=>by simp only [okE,List.all_cons,Bool.and_eq_true] at h; simp only [okE,setAt,List.all_cons,Bool.and_eq_true]; exact ⟨setS_okD hv h.1,h.2⟩
  | s::Γ,i+1,k,h=>by
    simp only [okE,List.all_cons,Bool.and_eq_true] at h
    have:=setAt_okE hv (Γ:=Γ) (i:=i) (k:=k) h.2
    simp only [okE,setAt,List.all_cons,Bool.and_eq_true] at this ⊢; exact ⟨h.1,this⟩
end write
def fitB (r:Rty) (row:List Pd):Bool:=row.all fun p=>p.nu.all r.nu.contains && p.sl.all r.sl.contains
theorem fit_of {r:Rty} {row:List Pd} (h:fitB r row=true):r.Fit row:=fun p hp=>by
  have:=List.all_eq_true.1 h p hp
  simp only [Bool.and_eq_true,List.all_eq_true] at this
  exact ⟨fun t ht=>this.1 t (by simpa using ht),fun t ht=>this.2 t (by simpa using ht)⟩
def zeroC (P:Program) (t:TypeId):Option (List Value):=match (P.info? t).bind (·.zero) with
  | some z=>some z.cells.toList
  | none=>none
theorem zeroC_of {P:Program} {t:TypeId} {zs:List Value} (h:zeroC P t=some zs):∃ ie z,P.info? t=some ie∧ie.zero=some z∧z.cells.toList=zs:=by
  unfold zeroC at h
  cases hi:P.info? t with
  | none=>rw [hi] at h; cases h
  | some ie=>
    rw [hi] at h
    simp only [Option.bind_some] at h
    cases hz:ie.zero with
    | none=>rw [hz] at h; cases h
    | some z=>rw [hz] at h; cases h; exact ⟨ie,z,rfl,hz,rfl⟩
theorem flat_rows {r:Rty} {l:Lm} {w:World}:∀ {rows:List (List Pd)} {xs:List (List Value)},xs.length=rows.length→(∀ (i:Nat) (row:List Pd) (x:List Value),rows[i]?=some row→xs[i]?=some x→x.length=r.n∧RL l w row x)→RowsAt r l w xs.flatten.toArray 0 rows:=by
  intro rows xs hl h i row hi
  have hlt:=(List.getElem?_eq_some_iff.1 hi).1
  obtain ⟨h1,h2⟩:=h i row xs[i] hi (List.getElem?_eq_getElem (by omega))
  refine ⟨xs[i],h1,h2,fun j y hy=>?_⟩
  rw [Nat.zero_add]
  have:=flat_at (n:=r.n) (xs:=xs) (i:=i) (j:=j) (x:=xs[i]) (y:=y) (fun x hx=>by
    obtain ⟨k,hk,rfl⟩:=List.getElem_of_mem hx
    exact (h k _ _ (List.getElem?_eq_getElem (by omega)) (List.getElem?_eq_getElem hk)).1) (List.getElem?_eq_getElem (by omega)) hy
  simpa using this
section rules
variable {P:Program} {J:Jd} {w0:W0} {D:TypeId→Bool} {Post:Ending→World→Prop} {K:LK} {Γ:List (List AV)} {k:Tr}
theorem rep_new {Γ:List (List AV)} {E:Env} {u:Gh} {w w':World} {os:List Nat} {S:Nat→Prop} (h0:Bx w0.bs w) (h1:okE D Γ=true) (hS:SOk w0 S ⟨w,u.S⟩) (hr:RepE (w0.bd S) w Γ E os) (hb:Below w.heap.size w w') :
    RepE (w0.bd (Gh.more ⟨w,S⟩ w w').S) w' Γ E os∧∀ g∈os,g < w.heap.size:=
  ⟨RepE.goes (B:=w0.bd S) (Goes.of_ext (u:=⟨w,u.S⟩) hS h0 (h0.on hb) ((ExtS.refl D ⟨w,u.S⟩).below hb)) (Gr.more (Nat.le_refl _)) (fun _ _ _ _ h=>h.elim) hr h1 (fun _ _ _ _ _ h=>h.elim) (fun _ _ h=>h),fun g hg=>(hr.ge g hg).2⟩
theorem Knows.new {Γ:List (List AV)} {E:Env} {u:Gh} {w w':World} {os o:List Nat} {S:Nat→Prop} {s:List AV} {cs:List Value} (h0:Bx w0.bs w) (h1:okE D Γ=true) (hn:os.Nodup) (hS:SOk w0 S ⟨w,u.S⟩) (hr:RepE (w0.bd S) w Γ E os) (hb:Below w.heap.size w w')
    (hs:RepS (w0.bd (Gh.more ⟨w,S⟩ w w').S) w' s cs o) (ho:o.Nodup) (hlt:∀ g∈o,w.heap.size≤g) (hD:s.all (AV.okD D)=true):Knows w0 D (Γ++[s]) (E++[cs]) (u.more w w'):=by
  obtain ⟨hr',h3⟩:=rep_new (w':=w') (u:=u) h0 h1 hS hr hb
  refine ⟨h0.on hb,?_,os++o,(Gh.more ⟨w,S⟩ w w').S,?_,hS.below h0.size hb,RepE.snoc (B:=w0.bd (Gh.more ⟨w,S⟩ w w').S) hr' hs⟩
  · unfold okE at *; rw [List.all_append,h1]; simp [hD]
  · exact List.nodup_append.2 ⟨hn,ho,fun a ha b hb e=>by have:=h3 a ha; have:=hlt b hb; omega⟩
theorem Knows.alloc {Γ:List (List AV)} {E:Env} {u:Gh} {w:World} {cur:Array Value} {t:TypeId} {s:List AV} {cs:List Value} {os:List Nat} {S:Nat→Prop} (h0:Bx w0.bs w) (h1:okE D Γ=true) (hn:os.Nodup) (hS:SOk w0 S ⟨w,u.S⟩) (hr:RepE (w0.bd S) w Γ E os)
    (hs:RepS (w0.bd (Gh.more ⟨w,S⟩ w (w.alloc (.cells cur t))).S) (w.alloc (.cells cur t)) s cs [w.heap.size]) (hD:s.all (AV.okD D)=true):Knows w0 D (Γ++[s]) (E++[cs]) (u.more w (w.alloc (.cells cur t))):=
  Knows.new h0 h1 hn hS hr (bel_alloc w (.cells cur t)) hs (by simp) (fun g hg=>by simp at hg; omega) hD
theorem Gh.more_new {S:Nat→Prop} {w:World} (o:Obj):(Gh.more ⟨w,S⟩ w (w.alloc o)).S w.heap.size:=.inr ⟨Nat.le_refl _,by rw [World.alloc]; simp⟩
theorem aBuild {T ty:TypeId} {len:Nat} {parts:Array (Nat × Operand)} {ar:List V1} {rows:List (List Pd)} {Γ':Nat→List (List AV)} (r:Rty) (hg:gathL Γ ar=some rows) (hk:∀ g,AW P J w0 D Post K (Γ' g) k)
    (hT:slTb P T r=true:=by kernel_rfl) (hz:(zeroC P r.t).isSome=true:=by kernel_rfl)
    (hparts:∀ E:Env,(parts.toList.map fun p=>(p.1,pe (ar.map (V1.den [] E)) p.2))=((ar.map (V1.den [] E)).zipIdx 0).map fun x=>(x.2,x.1):=by intro; rfl)
    (hlen:Nat.beq ar.length len=true:=by rfl) (hsz:(rows.all fun row=>Nat.beq (szL row) r.n && fitB r row)=true:=by rfl) (hb:(Nat.ble 1 (len * r.n) && Nat.ble (len * r.n) 16777216)=true:=by rfl)
    (hD:r.nu.all D=true:=by rfl) (hΓ:∀ g,Γ++[[.own g r rows]]=Γ' g:=by intros; (simp only [List.cons_append,List.nil_append]) <;> exact rfl) :
    AW P J w0 D Post K Γ (.em (.wx (.buildSlice T len parts) ty ar (some none)) k):=by
  intro hJ L E u hL hk0 w he hbw
  have h1:=hk0.ext he hbw
  obtain ⟨hb1x,hD1,os,S,hnd,hS,hr⟩:=id h1
  obtain ⟨hu,ie,hie,hn⟩:=slT_of hT
  obtain ⟨zs,hzs⟩:=Option.isSome_iff_exists.1 hz
  obtain ⟨ie',z,hie',hz,_⟩:=zeroC_of hzs
  rw [hie] at hie'
  cases hie'
  simp only [Bool.and_eq_true] at hb
  have hb1:=Nat.le_of_ble_eq_true hb.1
  have hb2:=Nat.le_of_ble_eq_true hb.2
  have hlen':ar.length=len:=Nat.eq_of_beq_eq_true hlen
  have key:∀ {ar:List V1} {rows:List (List Pd)},gathL Γ ar=some rows→(rows.all fun row=>Nat.beq (szL row) r.n && fitB r row)=true→rows.length=ar.length ∧
      ∀ (i:Nat) (row:List Pd) (x:List Value),rows[i]?=some row→(ar.map fun y=>y.atoms.map (A.den [] E))[i]?=some x→x.length=r.n∧RL (w0.bd S).nn w row x∧r.Fit row:=by
    intro ar
    induction ar with
    | nil=>intro rows h _; cases h; exact ⟨rfl,fun i row x h=>by simp at h⟩
    | cons y ar ih=>
      intro rows h hs
      simp only [gathL] at h
      split at h
      · rename_i ps hp
        split at h
        · rename_i qs hq
          cases h
          simp only [List.all_cons,Bool.and_eq_true] at hs
          obtain ⟨k1,k2⟩:=ih hq hs.2
          refine ⟨by simp [k1],fun i row x hi hx=>?_⟩
          cases i with
          | zero=>
            simp only [List.getElem?_cons_zero,Option.some.injEq,List.map_cons] at hi hx
            subst hi hx
            have:=gath_ok hr hp
            exact ⟨by rw [this.len]; exact Nat.eq_of_beq_eq_true hs.1.1,this,fit_of hs.1.2⟩
          | succ i=>exact k2 i row x (by simpa using hi) (by simpa using hx)
        · cases h
      · cases h
  obtain ⟨hrl,hrow⟩:=key hg hsz
  have hrn:0 < r.n:=by
    rcases Nat.eq_zero_or_pos r.n with h | h
    · rw [h] at hb1; omega
    · exact h
  have hcell:∀ y∈ar,(V1.den [] E y).cells.toList=y.atoms.map (A.den [] E)∧(y.atoms.map (A.den [] E)).length=r.n:=by
    intro y hy
    obtain ⟨i,hi,rfl⟩:=List.getElem_of_mem hy
    obtain ⟨k1,k2,_⟩:=hrow i rows[i] _ (List.getElem?_eq_getElem (by omega)) (by rw [List.getElem?_map,List.getElem?_eq_getElem hi]; rfl)
    refine ⟨?_,k1⟩
    generalize ar[i]=y at k1 k2 ⊢
    cases y with
    | g l=>simp [V1.den,Value.cells,V1.atoms]
    | s a=>
      have h1:=k2.one
      simp only [V1.atoms,List.map_cons,List.map_nil,List.all_cons,List.all_nil,Bool.and_true] at h1
      show (A.den [] E a).cells.toList=_
      rw [cells_one h1]; rfl
  have hxs:((ar.map (V1.den [] E)).flatMap fun v=>v.cells.toList)=(ar.map fun y=>y.atoms.map (A.den [] E)).flatten:=by
    rw [List.flatMap_def,List.map_map]
    congr 1
    exact List.map_congr_left fun y hy=>(hcell y hy).1
  have hfill:=Great.fill_whole (s:=r.n) hrn (ar.map (V1.den [] E)) ((Array.range (len * r.n)).map (z.cells[· % z.cells.size]!)) (by
    intro v hv
    obtain ⟨y,hy,rfl⟩:=List.mem_map.1 hv
    have:=hcell y hy
    rw [← Array.length_toList,this.1,this.2]) (by simp [hlen'])
  rw [hxs,← hparts E,show (parts.toList.map fun p=>(p.1,pe (ar.map (V1.den [] E)) p.2))=(parts.map fun (i,x)=>(i,pe (ar.map (V1.den [] E)) x)).toList by simp] at hfill
  have hrun:=run_buildSlice (P:=P) w T r.t len _ _ ie z hu hie hz (by rw [hn]; omega) (by rw [hn]; omega) (by rw [hn]; exact hfill)
  refine ⟨[.slice (some ⟨w.heap.size,0,none⟩) len len],w.alloc (.cells (ar.map fun y=>y.atoms.map (A.den [] E)).flatten.toArray r.t),?_,rfl,ChgS.of_below (bel_alloc _ _),hbw.on (bel_alloc _ _),hk w.heap.size hJ L _ _ hL.ext ?_⟩
  · show (execOp _ _).run P w=.ok (.value (.slice (some ⟨w.heap.size,0,none⟩) len len)) _
    simp only [execOp]
    simp [hrun]
  · rw [← hΓ]
    refine Knows.alloc hb1x hD1 hnd hS hr (RepS.one_of ⟨fun row hm=>?_,.inr ⟨len,_,by rw [hrl,hlen'],rfl,⟨.inl hbw.size,Gh.more_new _⟩,heap_alloc_new w _,by omega,?_,?_,?_⟩⟩) (by simpa [AV.okD] using hD)
    · obtain ⟨i,hi,rfl⟩:=List.getElem_of_mem hm
      exact (hrow i _ _ (List.getElem?_eq_getElem hi) (List.getElem?_eq_getElem (by simp; omega))).2.2
    · have:len≤len * r.n:=Nat.le_mul_of_pos_right _ hrn
      simp only [maxLen]; omega
    · have:=flat_len (n:=r.n) (xs:=ar.map fun y=>y.atoms.map (A.den [] E)) (fun x hx=>by
        obtain ⟨y,hy,rfl⟩:=List.mem_map.1 hx
        exact (hcell y hy).2)
      rw [List.size_toArray,this]; simp [hlen']
    · refine flat_rows (by simp [hrl]) (fun i row x hi hx=>?_)
      obtain ⟨k1,k2,k3⟩:=hrow i row x hi hx
      refine ⟨k1,RL.mono (S':=(Gh.more ⟨w,S⟩ w _).S) (nu:=r.nu) (sl:=r.sl) (fun _ h=>.inl h) ⟨by simp,fun b o hb _=>?_⟩ k3 k2⟩
      rw [Below.heap_alloc _ _ _ (Array.getElem?_eq_some_iff.1 hb).1]; exact hb
end rules
end Cin

namespace Cin
open Go Go.RowKit
def AV.obj:AV→Option (Nat × Rty × List (List Pd))
  | .own g r rows=>some (g,r,rows)
  | .var g r row=>some (g,r,[row])
  | .blk g r _ rows=>some (g,r,rows)
  | _=>none
def AV.setRow:AV→Nat→List Pd→AV
  | .own g r rows,m,row=>.own g r (rows.set m row)
  | .var g r _,_,row=>.var g r row
  | .blk g r cap rows,m,row=>.blk g r cap (rows.set m row)
  | a,_,_=>a
theorem obj_ok {B:Bd} {g:Nat} {r:Rty} {rows:List (List Pd)} {w:World} {a:AV} {cs:List Value} {os:List Nat} {m:Nat} {row:List Pd} (h:RepV B w a cs os) (ho:a.obj=some (g,r,rows)) (hm:rows[m]?=some row) :
    os=[g]∧(B.ow g∧B.S g)∧r.Fit row∧∃ cur,w.heap[g]?=some (.cells cur r.t (0,0))∧(m+1) * r.n≤cur.size∧RowsAt r B.nn w cur 0 rows ∧
      ∀ (S':Nat→Prop) w' row' cur',(∀ b,B.S b→S' b)→r.Fit row'→w'.heap[g]?=some (.cells cur' r.t (0,0))→cur'.size=cur.size→RowsAt r (B.sh S').nn w' cur' 0 (rows.set m row')→RepV (B.sh S') w' (a.setRow m row') cs [g]:=by
  have hlt:=(List.getElem?_eq_some_iff.1 hm).1
  cases a with
  | ro _ _=>cases ho
  | junk _=>cases ho
  | map _ _ _=>cases ho
  | iter _ _ _ _=>cases ho
  | own g' r' rows'=>
    cases ho
    rcases h.2 with ⟨_,e,_⟩ | ⟨cap,cur,e,ho,hB,hg,i1,i2,i3,hrow⟩
    · rw [e] at hm; simp at hm
    · refine ⟨ho,hB,h.1 row (List.mem_of_getElem? hm),cur,hg,?_,hrow,fun S' w' row' cur' hS hf hg' hs hr'=>⟨fun x hx=>?_,.inr ⟨cap,cur',by rw [List.length_set]; exact e,rfl,⟨hB.1,hS _ hB.2⟩,hg',by rw [List.length_set]; exact i1,i2,by rw [hs]; exact i3,hr'⟩⟩⟩
      · rw [i3]; exact Nat.mul_le_mul_right _ (by omega)
      · rcases List.mem_or_eq_of_mem_set hx with hx | rfl
        · exact h.1 x hx
        · exact hf
  | var g' r' row0=>
    cases ho
    obtain ⟨hf,e,ho,hB,cur,hg,hs,hrow⟩:=h
    have hm0:m=0:=by simpa using hlt
    subst hm0
    simp only [List.getElem?_cons_zero,Option.some.injEq] at hm
    subst hm
    exact ⟨ho,hB,hf,cur,hg,by omega,hrow,fun S' w' row' cur' hS hf' hg' hs' hr'=>⟨hf',e,rfl,⟨hB.1,hS _ hB.2⟩,cur',hg',by omega,hr'⟩⟩
  | blk g' r' cap rows'=>
    cases ho
    obtain ⟨hf,e,ho,hB,hc,cur,hg,hs,hrow⟩:=h
    refine ⟨ho,hB,hf row (List.mem_of_getElem? hm),cur,hg,?_,hrow,fun S' w' row' cur' hS hf' hg' hs' hr'=>⟨fun x hx=>?_,e,rfl,⟨hB.1,hS _ hB.2⟩,by rw [List.length_set]; exact hc,cur',hg',by rw [hs']; exact hs,hr'⟩⟩
    · rw [hs]; exact Nat.mul_le_mul_right _ (by omega)
    · rcases List.mem_or_eq_of_mem_set hx with hx | rfl
      · exact hf x hx
      · exact hf'
def ptrOf (Γ:List (List AV)):V1→Option (Nat × Nat)
  | .s a=>(match knownA Γ a with
    | some (.pointer (some ⟨g,o,none⟩))=>some (g,o)
    | _=>(match a with
      | .c i j=>(match look Γ i j with | some (.var g _ _)=>some (g,0) | _=>none)
      | _=>none))
  | .g _=>none
theorem ptrOf_ok {B:Bd} {w:World} {Γ:List (List AV)} {E:Env} {os:List Nat} (hr:RepE B w Γ E os) {x:V1} {g o:Nat} (h:ptrOf Γ x=some (g,o)):x.den [] E=.pointer (some ⟨g,o,none⟩):=by
  cases x with
  | g l=>cases h
  | s a=>
    simp only [ptrOf] at h
    split at h
    · rename_i g' o' hk
      cases h
      exact knownA_ok hr hk
    · split at h
      · rename_i i j _ _
        split at h
        · rename_i g' r row hl
          cases h
          obtain ⟨c,o',h1,h2,_⟩:=look_ok hr hl
          have:=h1.2.1
          subst this
          exact h2 0 _ rfl
        · cases h
      · cases h
theorem szL_app:∀ (ps qs:List Pd),szL (ps++qs)=szL ps+szL qs
  | [],qs=>by simp [szL]
  | p::ps,qs=>by rw [List.cons_append,szL,szL,szL_app ps qs,Nat.add_assoc]
theorem known_rl {l:Lm} {w:World}:∀ {zs:List Value},zs.all Value.oneCell'=true→RL l w (zs.map pV) zs
  | [],_=>rfl
  | z::zs,h=>by
    simp only [List.all_cons,Bool.and_eq_true] at h
    exact ⟨[z],zs,rfl,⟨rfl,h.1⟩,known_rl h.2⟩
theorem seg_get (l cs:List Value) (o k:Nat) (h:o+cs.length≤l.length):(l.take o++cs++l.drop (o+cs.length))[k]?=if k < o then l[k]? else if k < o+cs.length then cs[k - o]? else l[k]?:=by
  by_cases h1:k < o
  · rw [if_pos h1,List.append_assoc,List.getElem?_append_left (by simp; omega),List.getElem?_take,if_pos h1]
  · rw [if_neg h1]
    by_cases h2:k < o+cs.length
    · rw [if_pos h2,List.getElem?_append_left (by simp; omega),List.getElem?_append_right (by simp; omega)]
      congr 1; simp; omega
    · rw [if_neg h2,List.getElem?_append_right (by simp; omega),List.getElem?_drop]
      congr 1; simp; omega
theorem RowsAt.write {l l':Lm} {r:Rty} {rows:List (List Pd)} {m f:Nat} {row pre post new:List Pd} {w w':World} {cur:Array Value} {cs:List Value} (h:RowsAt r l w cur 0 rows) (hm:rows[m]?=some row) (hpre:takeP f row=some pre) (hpost:dropP (f+szL new) row=some post) (hnew:RL l' w' new cs)
    (hst:∀ row∈rows,∀ x,RL l w row x→RL l' w' row x) (hsz:m * r.n+f+cs.length≤cur.size):RowsAt r l' w' (cur.toList.take (m * r.n+f)++cs++cur.toList.drop (m * r.n+f+cs.length)).toArray 0 (rows.set m (pre++new++post)):=by
  have hmlt:=(List.getElem?_eq_some_iff.1 hm).1
  have hcl:=hnew.len
  obtain ⟨rs,e1,s1⟩:=takeP_ok hpre
  obtain ⟨rs2,e2,s2⟩:=dropP_ok hpost
  obtain ⟨x1,hl1,hx1,hx2⟩:=h m row hm
  have hx1':=hst row (List.mem_of_getElem? hm) x1 hx1
  obtain ⟨c1,c2,q1,k1,_⟩:=(by rw [e1] at hx1'; exact hx1'.split:∃ c1 c2,x1=c1++c2∧RL l' w' pre c1∧RL l' w' rs c2)
  obtain ⟨d1,d2,q2,k3,k4⟩:=(by rw [e2] at hx1'; exact hx1'.split:∃ d1 d2,x1=d1++d2∧RL l' w' rs2 d1∧RL l' w' post d2)
  have hc1:c1.length=f:=by rw [k1.len,s1]
  have hd1:d1.length=f+szL new:=by rw [k3.len,s2]
  have hd2:f+szL new+d2.length=r.n:=by rw [← hl1,q2,List.length_append,hd1]
  intro i row' hi
  rw [List.getElem?_set] at hi
  by_cases him:m=i
  · subst him
    rw [if_pos rfl,if_pos hmlt] at hi
    cases hi
    refine ⟨c1++cs++d2,by simp only [List.length_append]; omega,(k1.app hnew).app k4,fun j y hj=>?_⟩
    rw [Nat.zero_add,List.getElem?_toArray,seg_get _ _ _ _ (by simpa using hsz)]
    by_cases j1:j < f
    · rw [if_pos (by omega)]
      have:=hx2 j y (by rw [q1,List.getElem?_append_left (by omega)]; rw [List.append_assoc,List.getElem?_append_left (by omega)] at hj; exact hj)
      simpa using this
    · rw [if_neg (by omega)]
      by_cases j2:j < f+cs.length
      · rw [if_pos (by omega),show m * r.n+j - (m * r.n+f)=j - f by omega]
        rw [List.getElem?_append_left (by simp; omega),List.getElem?_append_right (by omega),hc1] at hj
        exact hj
      · rw [if_neg (by omega)]
        have:=hx2 j y (by rw [q2,List.getElem?_append_right (by omega),hd1]; rw [List.getElem?_append_right (by simp; omega)] at hj; simp only [List.length_append,hc1,hcl] at hj; exact hj)
        simpa using this
  · rw [if_neg him] at hi
    obtain ⟨x,hl,hx,hc⟩:=h i row' hi
    refine ⟨x,hl,hst row' (List.mem_of_getElem? hi) x hx,fun j y hj=>?_⟩
    have hjl:=(List.getElem?_eq_some_iff.1 hj).1
    have:=hc j y hj
    rw [Nat.zero_add] at this ⊢
    rw [List.getElem?_toArray,seg_get _ _ _ _ (by simpa using hsz)]
    have hlo:i < m→i * r.n+j < m * r.n:=fun hlt=>by
      have:(i+1) * r.n≤m * r.n:=Nat.mul_le_mul_right _ (by omega)
      rw [Nat.succ_mul] at this; omega
    have hhi:m < i→m * r.n+r.n≤i * r.n:=fun hlt=>by
      have:(m+1) * r.n≤i * r.n:=Nat.mul_le_mul_right _ (by omega)
      rw [Nat.succ_mul] at this; omega
    by_cases hlt:i < m
    · rw [if_pos (by have:=hlo hlt; omega)]; simpa using this
    · have h3:=hhi (by omega)
      rw [if_neg (by omega),if_neg (by omega)]; simpa using this
theorem setAt_len (v:AV):∀ (Γ:List (List AV)) (i k:Nat),(setAt v Γ i k).length=Γ.length
  | [],_,_=>rfl
  | _::_,0,_=>rfl
  | _::Γ,i+1,k=>by simp [setAt,setAt_len v Γ i k]
section rules
variable {P:Program} {J:Jd} {w0:W0} {D:TypeId→Bool} {Post:Ending→World→Prop} {K:LK} {Γ:List (List AV)} {k:Tr}
theorem aLdK (a b m f:Nat) {t ty:TypeId} {x:V1} {sh:Option Nat} {g off n:Nat} {r:Rty} {rows:List (List Pd)} {row mid:List Pd} {Γ':List (List AV)} (hx:ptrOf Γ x=some (g,off)) (ho:(look Γ a b).bind AV.obj=some (g,r,rows)) (hrow:rows[m]?=some row) (hoff:off=m * r.n+f) (_hn:sh.getD 1=n) (hm:(dropP f row).bind (takeP n)=some mid) (hk:AW P J w0 D Post K Γ' k) (ht:tyOk P t n sh=true:=by kernel_rfl)
    (hΓ:Γ++[mid.map (.ro false)]=Γ':=by (simp only [List.cons_append,List.nil_append,List.map_cons,List.map_nil]) <;> exact rfl):AW P J w0 D Post K Γ (.em (.ld (.load t (.tmp 0)) ty [x] sh) k):=fun hJ L E u hL hk0=>by
  obtain ⟨_,_,os,S,hnd,hS,hr⟩:=id hk0
  have hden:=ptrOf_ok hr hx
  cases hla:look Γ a b with
  | none=>rw [hla] at ho; cases ho
  | some av=>
    rw [hla] at ho
    obtain ⟨c,oo,hv,h2,_⟩:=look_ok hr hla
    obtain ⟨_,hB,hfit,cur,hg,_,hat,_⟩:=obj_ok hv ho hrow
    obtain ⟨x1,hl1,hx1,hx2⟩:=hat m row hrow
    cases hd:dropP f row with
    | none=>rw [hd] at hm; cases hm
    | some row'=>
      rw [hd] at hm
      obtain ⟨pre,e1,s1⟩:=dropP_ok hd
      obtain ⟨post,e2,s2⟩:=takeP_ok (show takeP n row'=some mid from hm)
      subst e1 e2
      obtain ⟨c1,c2,rfl,k1,k2⟩:=hx1.split
      obtain ⟨c3,c4,rfl,k3,k4⟩:=k2.split
      have hcl1:=k1.len
      have hcl3:=k3.len
      have hDa:=look_okD hk0.2.1 hla
      have hD3:r.nu.all D=true:=by
        cases av with
        | own g' r' rows'=>cases ho; simpa [AV.okD] using hDa
        | var g' r' row'=>cases ho; simpa [AV.okD] using hDa
        | blk g' r' cap' rows'=>cases ho; simpa [AV.okD] using hDa
        | ro _ _=>cases ho
        | junk _=>cases ho
        | map _ _ _=>cases ho
        | iter _ _ _ _=>cases ho
      have hg':∀ w,ExtS D u w→w.heap[g]?=some (.cells cur r.t (0,0)):=fun w he=>he.block g _ _ _ hg (.inr ((hS.at_ g hB.2).2.2 _ _ _ hg))
      refine ⟨c3,k3.one,fun w he hbw=>?_,hk hJ L _ u hL.ext (hΓ ▸ Knows.mk1 hk0.1 hk0.2.1 hnd hS hr (RL.slot (B:=w0.bd S) (o:=false) k3) (fit_okD (o:=false) (fun q hq=>hfit q (by simp [hq])) hD3))⟩
      simp only [List.map_cons,List.map_nil,hden]
      show (execOp _ _).run P w=_
      have hrun:=run_ldOk (P:=P) (w:=w) (b:=g) (o:=off) (cs:=c3) (t:=t) (sh:=sh) (by rw [hcl3,s2]; exact ht) (fun j y hy=>by
        have h3:=(List.getElem?_eq_some_iff.1 hy).1
        have:=hx2 (f+j) y (by rw [List.getElem?_append_right (by omega),show f+j - c1.length=j by omega,List.getElem?_append_left h3]; exact hy)
        rw [Nat.zero_add,← Nat.add_assoc,← hoff] at this
        simp [World.cell?,hg' w he,this])
      simp only [execOp,pe,List.getD_cons_zero]
      simp [hrun]
def tySz (P:Program) (t:TypeId) (n:Nat):Bool:=match P.info? t with | some i=>i.size == n | none=>false
theorem run_stOk {P:Program} {w:World} {t e:TypeId} {g o:Nat} {cur:Array Value} {v:Value} {cs:List Value} (hs:tySz P t cs.length=true) (hg:w.heap[g]?=some (.cells cur e (0,0))) (hv:v.cells=cs.toArray) (h1:∀ v∈cs,v.oneCell'=true) (hl:o+cs.length≤cur.size) :
    (Instr.storeAt t (.pointer (some ⟨g,o,none⟩)) v).run P w=.ok () (w.setRow g (cur.toList.take o++cs++cur.toList.drop (o+cs.length)).toArray):=by
  unfold tySz at hs
  split at hs
  · rename_i i hi
    have h:=run_storeCells_at P g o e cs 0 cur w hg (by simpa using hl) h1
    simp only [Nat.add_zero] at h
    have hs':i.size=cs.length:=by simpa using hs
    rw [List.append_assoc] at h
    simp [Instr.storeAt,Instr.sureAddr,storeVar,Go.sizeOf,typeInfo,hi,hv,hs',h]
  · cases hs
theorem setRow_gr {S:Nat→Prop} {w:World} {g:Nat} {cur':Array Value}:Gr w S (Gh.more ⟨w,S⟩ w (w.setRow g cur')).S:=Gr.more (Nat.le_refl _)
theorem write_goes {S:Nat→Prop} {w:World} {g:Nat} (hB:(w0.bd S).ow g) (cur':Array Value):Goes (w0.bd S) (·=g) D w (w.setRow g cur'):=
  ⟨by simp,fun b hb=>setRow_other w g b cur' (fun e=>by
    subst e
    rcases hB with h | h
    · have h1:b < w0.w.heap.size:=hb.1
      have h:w0.w.heap.size≤b:=h
      omega
    · exact hb.2 h),fun b c t' f hb _ hne=>by rw [setRow_other w g b cur' hne]; exact hb,fun b o hb _ hne=>by rw [setRow_other w g b cur' hne]; exact hb⟩
theorem Knows.write {Γ:List (List AV)} {E:Env} {u:Gh} {w:World} {g a b:Nat} {cur cur':Array Value} {t:TypeId} {av v:AV} {os:List Nat} {S:Nat→Prop} (h1:Bx w0.bs w) (h2:okE D Γ=true) (hn:os.Nodup) (hS:SOk w0 S ⟨w,u.S⟩) (hr:RepE (w0.bd S) w Γ E os)
    (hg:w.heap[g]?=some (.cells cur t (0,0))) (hB:(w0.bd S).ow g) (hl:look Γ a b=some av) (hs:safeE t (junkAt Γ a b)=true) (hv:v.okD D=true)
    (ha:∀ c o,RepV (w0.bd S) w av c o→o=[g]∧RepV (w0.bd (Gh.more ⟨w,S⟩ w (w.setRow g cur')).S) (w.setRow g cur') v c o):Knows w0 D (setAt v Γ a b) E (u.more w (w.setRow g cur')):=
  ⟨h1.setRow hB cur',setAt_okE hv h2,os,_,hn,hS.more h1.size (by simp) (fun b c t' f _ hc hlt=>by
    by_cases e:b=g
    · subst e; exact ⟨_,_,_,hg⟩
    · rw [setRow_other w g b cur' e] at hc; exact ⟨_,_,_,hc⟩),setAt_w (B:=w0.bd S) (write_goes hB cur') setRow_gr (fun b o hb hno e=>by subst e; rw [hg] at hb; cases hb; exact absurd rfl (hno _ _ _)) (fun b c t' f hb e=>by subst e; rw [hg] at hb; cases hb; rfl) ha hr hl (junkAt_okE h2) hs hn⟩
theorem aStore (a b m f:Nat) {t ty:TypeId} {x y:V1} {q:Operand} {g off:Nat} {r:Rty} {rows:List (List Pd)} {row pre post new:List Pd} {av:AV} {Γ':List (List AV)} (hx:ptrOf Γ x=some (g,off)) (hla:look Γ a b=some av) (ho:av.obj=some (g,r,rows)) (hy:gath Γ y.atoms.length y.atoms=some new)
    (hrow:rows[m]?=some row) (hoff:off=m * r.n+f) (hpre:takeP f row=some pre) (hpost:dropP (f+szL new) row=some post) (hk:AW P J w0 D Post K Γ' k) (hq:∀ (E:Env) s,pe [s,y.den [] E] q=y.den [] E:=by intros; rfl) (hi:tySz P t (szL new)=true:=by kernel_rfl)
    (hfit:fitB r new=true:=by rfl) (hs:safeE r.t (junkAt Γ a b)=true:=by rfl) (hself:(!r.nu.contains r.t && !r.sl.contains r.t)=true:=by rfl)
    (hΓ:setAt (av.setRow m (pre++new++post)) Γ a b++[[]]=Γ':=by (simp only [setAt,setS,AV.setRow,List.cons_append,List.nil_append,List.append_nil]) <;> exact rfl):AW P J w0 D Post K Γ (.em (.wx (.store t (.tmp 0) q) ty [x,y] none) k):=by
  intro hJ L E u hL hk0 w he hbw
  have h1:=hk0.ext he hbw
  obtain ⟨hb1x,hD1,os,S,hnd,hS,hr⟩:=id h1
  have hden:=ptrOf_ok hr hx
  obtain ⟨c,oo,hv,_,_⟩:=look_ok hr hla
  obtain ⟨_,hB,hfr,cur,hg,hsz,hat,_⟩:=obj_ok hv ho hrow
  have hB0:(w0.bd S).ow g:=hB.1
  have hnew:=gath_ok hr hy
  have hnl:=hnew.len
  obtain ⟨rs,e1,s1⟩:=takeP_ok hpre
  obtain ⟨rs2,e2,s2⟩:=dropP_ok hpost
  have hDa:=look_okD hk0.2.1 hla
  have hD3:r.nu.all D=true∧∀ m row,(av.setRow m row).okD D=true:=by
    cases av with
    | own g' r' rows'=>cases ho; exact ⟨hDa,fun _ _=>hDa⟩
    | var g' r' row'=>cases ho; exact ⟨hDa,fun _ _=>hDa⟩
    | blk g' r' cap' rows'=>cases ho; exact ⟨hDa,fun _ _=>hDa⟩
    | ro _ _=>cases ho
    | junk _=>cases ho
    | map _ _ _=>cases ho
    | iter _ _ _ _=>cases ho
  simp only [Bool.and_eq_true,Bool.not_eq_true'] at hself
  have hcs:∀ v∈y.atoms.map (A.den [] E),v.oneCell'=true:=fun v hv=>List.all_eq_true.1 hnew.one v hv
  have hlen:f+szL new≤r.n:=by
    obtain ⟨x1,hl1,hx1,_⟩:=hat m row hrow
    have:=hx1.len
    rw [e2,szL_app,s2] at this
    omega
  have hoff2:off+(y.atoms.map (A.den [] E)).length≤cur.size:=by
    rw [hnl,hoff]
    rw [Nat.succ_mul] at hsz; omega
  have hcell:(y.den [] E).cells=(y.atoms.map (A.den [] E)).toArray:=by
    cases y with
    | g l=>rfl
    | s a=>have:=cells_one (hcs (A.den [] E a) (by simp [V1.atoms])); simpa [V1.atoms,V1.den] using this
  have hrun:=run_stOk (P:=P) (w:=w) (t:=t) (e:=r.t) (g:=g) (o:=off) (cur:=cur) (v:=y.den [] E) (cs:=y.atoms.map (A.den [] E)) (by rw [hnl]; exact hi) hg hcell hcs hoff2
  generalize hc':(cur.toList.take off++y.atoms.map (A.den [] E)++cur.toList.drop (off+(y.atoms.map (A.den [] E)).length)).toArray=cur' at hrun
  have hgo:Goes (w0.bd S) (·=g) D w (w.setRow g cur'):=write_goes hB0 cur'
  have hM:∀ b o,w.heap[b]?=some o→NotCells o→b=g→¬ S b:=fun b o hb hno e=>by subst e; rw [hg] at hb; cases hb; exact absurd rfl (hno _ _ _)
  have hrl:∀ {row:List Pd} {x:List Value},r.Fit row→RL (w0.bd S).nn w row x→RL (w0.bd (Gh.more ⟨w,S⟩ w (w.setRow g cur')).S).nn (w.setRow g cur') row x:=fun hf hx=>Goes.rl (B:=w0.bd S) (S':=(Gh.more ⟨w,S⟩ w (w.setRow g cur')).S) hgo (fun _ h=>.inl h) hD3.1 (fun b c t' f hb e=>by subst e; rw [hg] at hb; cases hb; exact hself) hM hf hx
  have hput:∀ c o,RepV (w0.bd S) w av c o→o=[g]∧RepV (w0.bd (Gh.more ⟨w,S⟩ w (w.setRow g cur')).S) (w.setRow g cur') (av.setRow m (pre++new++post)) c o:=by
    intro c o hv
    obtain ⟨rfl,_,hfr,cur2,hg2,hsz2,hat2,hput2⟩:=obj_ok hv ho hrow
    rw [hg] at hg2
    cases hg2
    have hfrows:∀ row∈rows,r.Fit row:=by
      cases av with
      | own g' r' rows'=>cases ho; exact hv.1
      | var g' r' row'=>cases ho; intro row hr; simp at hr; subst hr; exact hv.1
      | blk g' r' cap' rows'=>cases ho; exact hv.1
      | ro _ _=>cases ho
      | junk _=>cases ho
      | map _ _ _=>cases ho
      | iter _ _ _ _=>cases ho
    refine ⟨rfl,hput2 (Gh.more ⟨w,S⟩ w (w.setRow g cur')).S _ _ cur' (fun _ h=>.inl h) ?_ (setRow_heap w g cur cur' r.t (0,0) hg) ?_ ?_⟩
    · intro p hp
      rcases List.mem_append.1 hp with hp | hp
      · rcases List.mem_append.1 hp with hp | hp
        · exact hfr p (by rw [e1]; simp [hp])
        · exact fit_of hfit p hp
      · exact hfr p (by rw [e2]; simp [hp])
    · rw [← hc']
      simp only [List.size_toArray,List.length_append,List.length_take,List.length_drop,Array.length_toList]
      omega
    · have h9:=hat2.write hrow hpre hpost (hrl (fit_of hfit) hnew) (fun row hm x hx=>hrl (hfrows row hm) hx) (by rw [← hoff]; exact hoff2)
      rw [← hoff,hc'] at h9
      exact h9
  refine ⟨[],w.setRow g cur',?_,rfl,⟨by simp,fun b c t' f hb hor=>?_⟩,hbw.setRow hB0 cur',hk hJ L _ _ hL.ext ?_⟩
  · show (execOp _ _).run P w=.ok .skip _
    have hq':=hq E (.pointer (some ⟨g,off,none⟩))
    have hp0:pe ([x,y].map (V1.den [] E)) (.tmp 0)=.pointer (some ⟨g,off,none⟩):=hden
    have hq0:pe ([x,y].map (V1.den [] E)) q=y.den [] E:=by
      have:=hq E (x.den [] E)
      exact this
    simp only [execOp,hp0,hq0]
    simp [hrun]
  · by_cases hne:b=g
    · subst hne
      rw [hg] at hb
      cases hb
      rcases hor with h | h
      · exact absurd ((hS.at_ b hB.2).2.2 _ _ _ hg) h.2
      · cases h
    · rw [setRow_other w g b cur' hne]; exact hb
  · rw [← hΓ]
    have:=Knows.write (u:=u) hb1x hD1 hnd hS hr hg hB0 hla hs (hD3.2 _ _) hput
    exact this.snoc (fun os _ _ hr=>⟨[],⟨rfl,rfl⟩,List.nodup_nil,fun g hg=>by cases hg⟩) rfl
end rules
end Cin

namespace Cin
open Go Go.RowKit
theorem RowsAt.flat {l:Lm} {r:Rty} {w:World} {cur:Array Value} {rows:List (List Pd)} (h:RowsAt r l w cur 0 rows) (hs:rows.length * r.n≤cur.size) :
    ∃ xs:List (List Value),xs.length=rows.length∧(∀ (i:Nat) (row:List Pd) (x:List Value),rows[i]?=some row→xs[i]?=some x→x.length=r.n∧RL l w row x)∧cur.toList.take (rows.length * r.n)=xs.flatten:=by
  have hx:∀ i,∃ x:List Value,∀ row,rows[i]?=some row→x.length=r.n∧RL l w row x∧∀ (j:Nat) (y:Value),x[j]?=some y→cur[0+i * r.n+j]?=some y:=by
    intro i
    cases hi:rows[i]? with
    | none=>exact ⟨[],fun row h=>by cases h⟩
    | some row=>
      obtain ⟨x,h1,h2,h3⟩:=h i row hi
      exact ⟨x,fun row' e=>by cases e; exact ⟨h1,h2,h3⟩⟩
  obtain ⟨F,hF⟩:∃ F:Nat→List Value,∀ (i:Nat) (row:List Pd),rows[i]?=some row→(F i).length=r.n∧RL l w row (F i)∧∀ (j:Nat) (y:Value),(F i)[j]?=some y→cur[0+i * r.n+j]?=some y:=⟨fun i=>Classical.choose (hx i),fun i=>Classical.choose_spec (hx i)⟩
  refine ⟨(List.range rows.length).map F,by simp,?_,?_⟩
  · intro i row x hi hxi
    have hlt:=(List.getElem?_eq_some_iff.1 hi).1
    simp only [List.getElem?_map,List.getElem?_range hlt,Option.map_some,Option.some.injEq] at hxi
    subst hxi
    obtain ⟨h1,h2,_⟩:=hF i row hi
    exact ⟨h1,h2⟩
  · have hall:∀ x∈(List.range rows.length).map F,x.length=r.n:=by
      intro x hm
      obtain ⟨i,hi,rfl⟩:=List.mem_map.1 hm
      have hlt:i < rows.length:=by simpa using hi
      exact (hF i rows[i] (List.getElem?_eq_getElem hlt)).1
    have hfl:=flat_len hall
    rw [List.length_map,List.length_range] at hfl
    refine List.ext_getElem? fun k=>?_
    by_cases hk:k < rows.length * r.n
    · have hn:0 < r.n:=by rcases Nat.eq_zero_or_pos r.n with h | h; rw [h] at hk; omega; exact h
      have hi:k / r.n < rows.length:=(Nat.div_lt_iff_lt_mul hn).2 hk
      have hj:k % r.n < r.n:=Nat.mod_lt _ hn
      obtain ⟨h1,_,h3⟩:=hF (k / r.n) rows[k / r.n] (List.getElem?_eq_getElem hi)
      have hkk:k / r.n * r.n+k % r.n=k:=by rw [Nat.mul_comm]; exact Nat.div_add_mod k r.n
      have e1:=flat_at (n:=r.n) (xs:=(List.range rows.length).map F) (i:=k / r.n) (j:=k % r.n) (x:=F (k / r.n)) (y:=(F (k / r.n))[k % r.n]'(by omega)) hall (by simp [hi]) (List.getElem?_eq_getElem (by omega))
      have e2:=h3 (k % r.n) _ (List.getElem?_eq_getElem (by omega))
      rw [hkk] at e1
      rw [Nat.zero_add,hkk] at e2
      rw [e1,List.getElem?_take,if_pos hk]
      simpa using e2
    · rw [List.getElem?_eq_none (by simp; omega),List.getElem?_eq_none (by omega)]
theorem OwnR.owns {B:Bd} {g:Nat} {r:Rty} {rows:List (List Pd)} {w:World} {cs:List Value} {os:List Nat} (h:OwnR B g r rows w cs os):∃ (v:Value) (xs:List (List Value)),cs=[v]∧w.ownsRow 0 r.t r.n v rows.length xs.flatten∧xs.length=rows.length ∧
    (∀ (i:Nat) (row:List Pd) (x:List Value),rows[i]?=some row→xs[i]?=some x→x.length=r.n∧RL B.nn w row x)∧((v.ownBlock=some g∧os=[g]∧B.S g∧∃ cur,w.heap[g]?=some (.cells cur r.t (0,0)))∨(v.ownBlock=none∧os=[])):=by
  rcases h.2 with ⟨rfl,rfl,rfl⟩ | ⟨cap,cur,rfl,rfl,hB,hg,i1,i2,i3,hrow⟩
  · exact ⟨_,[],rfl,⟨by simp,.inl ⟨rfl,rfl⟩⟩,rfl,fun i row x h=>by simp at h,.inr ⟨rfl,rfl⟩⟩
  · obtain ⟨xs,h1,h2,h3⟩:=hrow.flat (by rw [i3]; exact Nat.mul_le_mul_right _ i1)
    refine ⟨_,xs,rfl,⟨?_,.inr ⟨g,cap,cur,rfl,Nat.zero_le _,hg,i1,i2,i3,h3⟩⟩,h1,h2,.inl ⟨rfl,rfl,hB.2,cur,hg⟩⟩
    have h4:=Nat.mul_le_mul_right r.n i1
    have h5:cur.toList.length=cap * r.n:=by rw [Array.length_toList,i3]
    rw [← h3,List.length_take,h5]
    omega
theorem rowsAt_of {l:Lm} {r:Rty} {w:World} {cur:Array Value} {rows:List (List Pd)} {xs:List (List Value)} (hl:xs.length=rows.length) (h:∀ (i:Nat) (row:List Pd) (x:List Value),rows[i]?=some row→xs[i]?=some x→x.length=r.n∧RL l w row x) (ht:cur.toList.take (rows.length * r.n)=xs.flatten):RowsAt r l w cur 0 rows:=by
  intro i row hi
  have hlt:=(List.getElem?_eq_some_iff.1 hi).1
  obtain ⟨x,h1,h2,h3⟩:=flat_rows hl h i row hi
  refine ⟨x,h1,h2,fun j y hy=>?_⟩
  have h4:=h3 j y hy
  rw [Nat.zero_add] at h4 ⊢
  rw [List.getElem?_toArray,← ht,List.getElem?_take] at h4
  split at h4
  · simpa using h4
  · cases h4
def junkL:List (List AV)→List (Nat × Nat)→List (List AV)
  | Γ,[]=>Γ
  | Γ,(i,j)::r=>junkL (junkAt Γ i j) r
theorem junkAt_rep {B:Bd} {w:World}:∀ {Γ:List (List AV)} {i k:Nat} {E:Env} {os:List Nat},RepE B w Γ E os→∃ os',RepE B w (junkAt Γ i k) E os'∧os'.Sublist os:=by
  intro Γ
  induction Γ with
  | nil=>intro i k E os h; exact ⟨os,h,List.Sublist.refl _⟩
  | cons s Γ ih=>
    intro i k E os h
    obtain ⟨cs,E',o1,o2,e,e2,h1,h2⟩:=h
    cases i with
    | zero=>
      have key:∀ {s:List AV} {k:Nat} {cs:List Value} {o:List Nat},RepS B w s cs o→∃ o',RepS B w (junkS s k) cs o'∧o'.Sublist o:=by
        intro s
        induction s with
        | nil=>intro k cs o h; exact ⟨o,h,List.Sublist.refl _⟩
        | cons a s ihs=>
          intro k cs o h
          obtain ⟨c1,c2,p1,p2,f1,f2,h1,h2⟩:=h
          cases k with
          | zero=>exact ⟨p2,⟨c1,c2,[],p2,f1,rfl,h1.junk,h2⟩,by rw [f2]; exact List.sublist_append_right _ _⟩
          | succ k=>
            obtain ⟨o',h3,h4⟩:=ihs (k:=k+1 - a.n) h2
            exact ⟨p1++o',⟨c1,c2,p1,o',f1,rfl,h1,h3⟩,by rw [f2]; exact List.Sublist.append_left h4 _⟩
      obtain ⟨o',h3,h4⟩:=key (k:=k) h1
      exact ⟨o'++o2,⟨cs,E',o',o2,e,rfl,h3,h2⟩,by rw [e2]; exact List.Sublist.append_right h4 _⟩
    | succ i=>
      obtain ⟨o',h3,h4⟩:=ih (i:=i) (k:=k) h2
      exact ⟨o1++o',⟨cs,E',o1,o',e,rfl,h1,h3⟩,by rw [e2]; exact List.Sublist.append_left h4 _⟩
theorem Knows.junk {w0:W0} {D:TypeId→Bool} {E:Env} {u:Gh}:∀ {js:List (Nat × Nat)} {Γ:List (List AV)},Knows w0 D Γ E u→Knows w0 D (junkL Γ js) E u
  | [],_,h=>h
  | (i,j)::js,Γ,⟨h1,h2,os,S,hn,hS,hr⟩=>by
    obtain ⟨os',h3,h4⟩:=junkAt_rep (i:=i) (k:=j) hr
    exact Knows.junk (js:=js) (Γ:=junkAt Γ i j) ⟨h1,junkAt_okE h2,os',S,hn.sublist h4,hS,h3⟩
section rules
variable {P:Program} {J:Jd} {w0:W0} {D:TypeId→Bool} {Post:Ending→World→Prop} {K:LK} {Γ:List (List AV)} {k:Tr}
end rules
end Cin
