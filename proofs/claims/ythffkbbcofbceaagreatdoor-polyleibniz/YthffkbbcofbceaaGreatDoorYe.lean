/- The walk that is reckoned: one operation. No program. -/
import Derived.Test.YthffkbbcofbceaaGreatDoorYd
namespace Cin
open Go Go.RowKit
section ops
variable {D:TypeId→Bool} {w0:Bs} {w w':World} {u:Gh} {st:St} {ρ:List Nat} {E:Env} {a:Act} {P:Program}
theorem run_part_load {t tt:TypeId} {l:List A} {off b:Nat} {x:V1} (hp:partOf P t l off=some x) (hb:w.heap[b]?=some (.cells (l.map (A.den ρ E)).toArray tt (0,0))) :
    (loadVar t ⟨b,off,none⟩).run P w=.ok (x.den ρ E) w:=by
  unfold partOf at hp
  split at hp
  · rename_i d i hu hi
    split at hp
    · rename_i hd
      split at hp
      · rename_i hl
        cases hp
        have e:((l.drop off).take i.size).length=i.size:=by simp; omega
        refine run_loadVar_mid w b off t (((l.drop off).take i.size).map (A.den ρ E)) d ?_ hu hd (by rw [hi,List.length_map,e]; rfl)
        intro j v hv
        simp only [World.cell?,hb,Option.isSome_none,Bool.false_eq_true,if_false]
        rw [List.getElem?_map,List.getElem?_take] at hv
        split at hv
        · rw [List.getElem?_drop] at hv
          simpa using hv
        · simp at hv
      · cases hp
    · rename_i hd
      cases ho:l[off]? with
      | none=>simp [ho] at hp
      | some x'=>
        simp only [ho,Option.map_some,Option.some.injEq] at hp
        subst hp
        have hagg:(isAgg t).run P w=.ok false w:=by
          unfold isAgg
          rw [Sem.run_bind,run_underlying hu w]
          cases d <;> simp_all
        have hc:w.cell? ⟨b,off,none⟩=some (x'.den ρ E):=by simp [World.cell?,hb,ho]
        simp [loadVar,Sem.run_bind,hagg,hc,V1.den]
  · cases hp
theorem run_part {t:TypeId} {l:List A} {off:Nat} {x:V1} (hp:partOf P t l off=some x):(part t (l.map (A.den ρ E)).toArray off).run P w=.ok (x.den ρ E) w:=by
  unfold partOf at hp
  split at hp
  · rename_i d i hu hi
    split at hp
    · rename_i hd
      split at hp
      · rename_i hl
        cases hp
        have hagg:(isAgg t).run P w=.ok true w:=by
          unfold isAgg
          rw [Sem.run_bind,run_underlying hu w]
          cases d <;> simp_all
        simp [part,Sem.run_bind,hagg,Go.sizeOf,typeInfo,hi,V1.den,List.extract_eq_take_drop]
      · cases hp
    · rename_i hd
      cases ho:l[off]? with
      | none=>simp [ho] at hp
      | some x'=>
        simp only [ho,Option.map_some,Option.some.injEq] at hp
        subst hp
        have hagg:(isAgg t).run P w=.ok false w:=by
          unfold isAgg
          rw [Sem.run_bind,run_underlying hu w]
          cases d <;> simp_all
        simp [part,Sem.run_bind,hagg,ho,V1.den]
  · cases hp
theorem setAll_map (off:Nat):∀ (l:List (A × Nat)) (cells:List A),((l.foldl (fun cs (c,j)=>cs.set (off+j) c) cells).map (A.den ρ E)).toArray =
    (l.map (fun x=>(x.1.den ρ E,x.2))).foldl (fun cs (c,j)=>cs.setIfInBounds (off+j) c) (cells.map (A.den ρ E)).toArray
  | [],_=>rfl
  | (c,j)::l,cells=>by
    simp only [List.foldl_cons,List.map_cons]
    rw [setAll_map off l (cells.set (off+j) c)]
    congr 1
    simp [List.map_set]
theorem zipIdx_map {α β:Type} (f:α→β):∀ (l:List α) (n:Nat),(l.map f).zipIdx n=(l.zipIdx n).map (fun x=>(f x.1,x.2))
  | [],_=>rfl
  | x::l,n=>by simp [zipIdx_map f l (n+1)]
theorem fillA_ok (hE:∀ cs∈E,∀ v∈cs,v.oneCell'=true) (place:Nat→Option (Nat × Nat)):∀ (ps:List (Nat × V1)) (cells l:List A),fillA place cells ps=some l →
    Instr.fill place (cells.map (A.den ρ E)).toArray (ps.map fun p=>(p.1,p.2.den ρ E))=some (l.map (A.den ρ E)).toArray
  | [],cells,l,h=>by cases h; rfl
  | (i,x)::ps,cells,l,h=>by
    unfold fillA at h
    simp only [List.map_cons]
    unfold Instr.fill
    cases hp:place i with
    | none=>simp [hp] at h
    | some q=>
      obtain ⟨off,size⟩:=q
      simp only [hp] at h ⊢
      split at h
      · rename_i hc
        obtain ⟨h1,h2,h3⟩:=hc
        have ih:=fillA_ok hE place ps _ l h
        rw [V1.den_cells hE h3]
        have hcond:(decide ((x.atoms.map (A.den ρ E)).toArray.size≠size) || decide (off+(x.atoms.map (A.den ρ E)).toArray.size > (cells.map (A.den ρ E)).toArray.size))=false:=by
          simp [h1]; omega
        rw [if_neg (by rw [hcond]; decide)]
        rw [← ih]
        congr 1
        unfold setAll
        rw [setAll_map,← zipIdx_map]
        simp
      · cases h
theorem cells_k (z:Value):(z.cells.toList.map A.k).map (A.den ρ E)=z.cells.toList:=by
  rw [List.map_map]; exact List.map_id'' (fun _=>rfl) _
theorem builtA_ok (hE:∀ cs∈E,∀ v∈cs,v.oneCell'=true) {t:TypeId} {ps:List (Nat × V1)} {l:List A} (h:builtA P t ps=some l) :
    P.built t (ps.map fun p=>(p.1,p.2.den ρ E))=some (l.map (A.den ρ E)).toArray:=by
  unfold builtA at h
  unfold Program.built
  cases hi:P.info? t with
  | none=>simp [hi] at h
  | some it=>
    cases hu:P.underlying t with
    | none=>simp [hi,hu] at h
    | some d=>
      cases d <;> try (simp [hi,hu] at h; done)
      case array n e=>
        simp only [hi,hu] at h ⊢
        cases hz:it.zero with
        | none=>simp [hz] at h
        | some z=>
          cases he:P.info? e with
          | none=>simp [hz,he] at h
          | some ie=>
            simp only [hz,he] at h ⊢
            have:=fillA_ok (ρ:=ρ) hE _ ps _ l h
            rw [cells_k] at this
            simpa using this
      case struct fs=>
        simp only [hi,hu] at h ⊢
        cases hz:it.zero with
        | none=>simp [hz] at h
        | some z=>
          cases he:fs.toList.mapM (fun f=>(P.info? f.type).map fun i=>(f.offset,i.size)) with
          | none=>simp [hz,he] at h
          | some places=>
            simp only [hz,he] at h ⊢
            have:=fillA_ok (ρ:=ρ) hE _ ps _ l h
            rw [cells_k] at this
            simpa using this
theorem Inv.parts (h:Inv D w0 st ρ E u a w):∀ {xs:List (Nat × Operand)} {ys:List (Nat × V1)},st.parts xs=some ys→xs.map (fun p=>(p.1,a.eval p.2))=ys.map (fun p=>(p.1,p.2.den ρ E))
  | [],ys,e=>by cases e; rfl
  | (i,x)::xs,ys,e=>by
    unfold St.parts at e
    split at e
    · rename_i y ys' h1 h2
      cases e
      simp only [List.map_cons,h.ev_v h1,h.parts h2]
    · cases e
theorem foldI_ok {op:BinOp} {k:IntKind} {p q:Int} {v:Value} (t:TypeId) (h:foldI op k p q=some v) (w':World):(binOp op t (.int k p) (.int k q)).run P w'=.ok v w':=by
  unfold foldI at h
  split at h
  · split at h
    · rename_i e; cases h; simp [binOp,Op.intArith,e]
    · cases h
  · split at h
    · rename_i e; cases h; simp [binOp,Op.intArith,e]
    · cases h
  all_goals first
    | (cases h; simp [binOp,Op.intCmp]; done)
    | (cases h; simp [binOp,Op.intCmp,bne,Bool.beq_eq_decide_eq]; done)
    | cases h
theorem arrAt_ok {t:TypeId} {i:Int} {e:TypeId} {off:Nat} (h:arrAt P t i=some (e,off)):∃ (n:Nat) (ie:TypeInfo),P.underlying t=some (.array n e)∧P.info? e=some ie∧0≤i∧i < n∧ie.size≠0∧off=i.toNat * ie.size:=by
  unfold arrAt at h
  split at h
  · rename_i n e' hu
    split at h
    · rename_i ie hie
      split at h
      · rename_i hc
        simp only [Option.some.injEq,Prod.mk.injEq] at h
        obtain ⟨rfl,rfl⟩:=h
        exact ⟨n,ie,hu,hie,hc.1,hc.2.1,hc.2.2,rfl⟩
      · cases h
    · cases h
  · cases h
theorem rd0_ok {S:World→Prop} {okL:Nat→Bool} (h:Inv D w0 st ρ E u a w)
    (hS:∀ w',S w'→∀ j b c t,okL j=true→st.at ρ E j=some (b,c,t)→w'.heap[b]?=some (Obj.cells c t (0,0)))
    {o:Oper} {s:SV} (hr:rd0 P okL st o.op=some s):∃ v,s.Rep ρ E v∧∀ w',S w'→(execOp a.eval o).run P w'=.ok (.value v) w':=by
  unfold rd0 at hr
  split at hr
  · rename_i x ho
    cases hr
    exact ⟨_,h.ev x,fun w' _=>by simp [execOp,ho]⟩
  · rename_i x ho
    cases hr
    exact ⟨_,h.ev x,fun w' _=>by simp [execOp,ho]⟩
  · rename_i t x ho
    split at hr
    · rename_i j off hx
      split at hr
      · rename_i hok
        split at hr
        · rename_i b hb
          cases hp:partOf P t b.1 off with
          | none=>simp [hp] at hr
          | some y=>
            simp only [hp,Option.map_some,Option.some.injEq] at hr
            subst hr
            refine ⟨y.den ρ E,fun _=>rfl,fun w' hw=>?_⟩
            have hat:=St.at_of (ρ:=ρ) (E:=E) hb
            have:=run_part_load (P:=P) hp (hS w' hw j _ _ _ hok hat)
            have hev:=h.ev_v hx
            simp only [V1.den,A.den] at hev
            generalize ρ.getD j 0=B at hev this
            simp [execOp,ho,Instr.loadAt,hev,Instr.sureAddr,this]
        · cases hr
      · cases hr
    · cases hr
  · rename_i s' x f ho
    split at hr
    · rename_i j off fs hx hu
      split at hr
      · rename_i fd hf
        split at hr
        · rename_i i hi
          split at hr
          · cases hr
          · rename_i hz
            cases hr
            refine ⟨_,fun _=>rfl,fun w' _=>?_⟩
            have hev:=h.ev_v hx
            simp only [V1.den,A.den] at hev
            have hadd:(⟨ρ.getD j 0,off,none⟩:Addr).add fd.offset=⟨ρ.getD j 0,off+fd.offset,none⟩:=by unfold Addr.add; split <;> simp_all
            simp only [SV.den,V1.den,A.den]
            generalize ρ.getD j 0=B at hev hadd ⊢
            simp [execOp,ho,Instr.fieldAt,run_underlying hu,hf,hev,Instr.sureAddr,fieldPlace,Go.sizeOf,typeInfo,hi,hz,hadd]
        · cases hr
      · cases hr
    · cases hr
  · rename_i t x f ho
    split at hr
    · rename_i l fs hx hu
      split at hr
      · rename_i fd hf
        cases hp:partOf P fd.type l fd.offset with
        | none=>simp [hp] at hr
        | some y=>
          simp only [hp,Option.map_some,Option.some.injEq] at hr
          subst hr
          refine ⟨y.den ρ E,fun _=>rfl,fun w' _=>?_⟩
          have hev:=h.ev_v hx
          simp only [V1.den] at hev
          simp [execOp,ho,Instr.field,run_underlying hu,hf,hev,asAgg,run_part (P:=P) (ρ:=ρ) (E:=E) hp]
      · cases hr
    · cases hr
  · rename_i x i ho
    split at hr
    · rename_i l hx
      cases hl:l[i]? with
      | none=>simp [hl] at hr
      | some y=>
        simp only [hl,Option.map_some,Option.some.injEq] at hr
        subst hr
        refine ⟨y.den ρ E,fun _=>rfl,fun w' _=>?_⟩
        simp [execOp,ho,Instr.extract,h.ev_t hx,hl]
    · cases hr
  · rename_i t parts ho
    split at hr
    · rename_i ps hps
      cases hb:builtA P t ps with
      | none=>simp [hb] at hr
      | some l=>
        simp only [hb,Option.map_some,Option.some.injEq] at hr
        subst hr
        refine ⟨_,fun _=>rfl,fun w' _=>?_⟩
        have hbu:=builtA_ok (ρ:=ρ) h.plain hb
        rw [← h.parts hps] at hbu
        have:=run_build (P:=P) w' t (parts.map fun p=>(p.1,a.eval p.2)) _ (by simpa using hbu)
        simp only [SV.den,V1.den]
        simp [execOp,ho,this]
    · cases hr
  · rename_i c x y ho
    split at hr
    · rename_i b hc
      cases hr
      refine ⟨_,h.ev _,fun w' _=>?_⟩
      have hev:a.eval c=.bool b:=h.ev_v hc
      cases b <;> simp [execOp,ho,hev,asBool]
    · cases hr
  · rename_i x ho
    split at hr
    · rename_i j off hx
      cases hr
      refine ⟨_,fun _=>rfl,fun w' _=>?_⟩
      have hev:=h.ev_v hx
      simp only [V1.den,A.den] at hev
      simp [execOp,ho,hev,SV.den,V1.den,A.den]
    · rename_i f hx
      cases hr
      refine ⟨_,fun _=>rfl,fun w' _=>?_⟩
      have hev:=h.ev_v hx
      simp only [V1.den,A.den] at hev
      simp [execOp,ho,hev,SV.den,V1.den,A.den]
    · cases hr
  · rename_i t x ho
    split at hr
    · rename_i b hx
      cases hr
      refine ⟨_,fun _=>rfl,fun w' _=>?_⟩
      have hev:a.eval x=.bool b:=h.ev_v hx
      simp [execOp,ho,hev,Op.unary,SV.den,V1.den,A.den]
    · cases hr
  · rename_i op t x y t2 ho
    split at hr
    · split at hr
      · rename_i k p k' q hx hy
        split at hr
        · rename_i hk
          subst hk
          cases hf:foldI op k p q with
          | none=>simp [hf] at hr
          | some v=>
            simp only [hf,Option.map_some,Option.some.injEq] at hr
            subst hr
            refine ⟨_,fun _=>rfl,fun w' _=>?_⟩
            have e1:a.eval x=.int k p:=h.ev_v hx
            have e2:a.eval y=.int k q:=h.ev_v hy
            have:=foldI_ok (P:=P) t hf w'
            have hg:(eqGuard op t x y (.int k p) (.int k q)).run P w'=.ok () w':=by unfold eqGuard; split <;> simp
            simp [execOp,ho,e1,e2,hg,this,SV.den,V1.den,A.den]
        · cases hr
      · cases hr
    · cases hr
  · rename_i t x i ho
    split at hr
    · split at hr
      · rename_i l k n hx hi
        split at hr
        · rename_i e off ha
          cases hp:partOf P e l off with
          | none=>simp [hp] at hr
          | some y=>
            simp only [hp,Option.map_some,Option.some.injEq] at hr
            subst hr
            refine ⟨y.den ρ E,fun _=>rfl,fun w' _=>?_⟩
            obtain ⟨len,ie,hu,hie,h0,h1,_,rfl⟩:=arrAt_ok ha
            have e1:=h.ev_v hx
            have e2:a.eval i=.int k n:=h.ev_v hi
            simp only [V1.den] at e1
            simp [execOp,ho,e1,e2,Instr.index,asIntOf,run_underlying hu,h0,h1,Go.sizeOf,typeInfo,hie,run_part (P:=P) (ρ:=ρ) (E:=E) hp]
        · cases hr
      · cases hr
    · cases hr
  · rename_i t x i ho
    split at hr
    · split at hr
      · rename_i j o' k n hx hi
        split at hr
        · rename_i e off ha
          cases hr
          refine ⟨_,fun _=>rfl,fun w' _=>?_⟩
          obtain ⟨len,ie,hu,hie,h0,h1,hz,rfl⟩:=arrAt_ok ha
          have e1:=h.ev_v hx
          have e2:a.eval i=.int k n:=h.ev_v hi
          simp only [V1.den,A.den] at e1
          have hadd:(⟨ρ.getD j 0,o',none⟩:Addr).add (n.toNat * ie.size)=⟨ρ.getD j 0,o'+n.toNat * ie.size,none⟩:=by unfold Addr.add; split <;> simp_all
          simp only [SV.den,V1.den,A.den]
          generalize ρ.getD j 0=B at e1 hadd ⊢
          simp [execOp,ho,e1,e2,Instr.indexAt,asIntOf,run_underlying hu,Instr.sureAddr,h0,h1,Go.sizeOf,typeInfo,hie,hadd]
        · cases hr
      · cases hr
    · cases hr
  · cases hr
end ops
end Cin

namespace Cin
open Go Go.RowKit
section step
variable {D Z:TypeId→Bool} {w0:Bs} {w w':World} {u:Gh} {st st':St} {ρ:List Nat} {E:Env} {a:Act} {P:Program}
theorem pe_ab (a:Act) (xs:List Operand) (i:Nat) (x:Operand) (h:xs[i]?=some x):pe (xs.map a.eval) (ab i x)=a.eval x:=by
  cases x with
  | const v=>rfl
  | tmp t=>simp [ab,pe,List.getD_eq_getElem?_getD,h]
  | global g=>simp [ab,pe,List.getD_eq_getElem?_getD,h]
  | func f=>simp [ab,pe,List.getD_eq_getElem?_getD,h]
theorem eqGuard_ab (op:BinOp) (t:TypeId) (i j:Nat) (x y:Operand) (p q:Value):eqGuard op t (ab i x) (ab j y) p q=eqGuard op t x y p q:=by
  cases x <;> cases y <;> rfl
theorem pm_ok {o:Oper} {op:Op} {xs:List Operand} (h:pm o.op=some (op,xs)) (a:Act):execOp a.eval o=execOp (pe (xs.map a.eval)) ⟨none,op,o.type,"",#[],none⟩:=by
  unfold pm at h
  split at h
  · rename_i b t x y t2 ho
    cases h
    simp only [execOp,ho,pe_ab a [x,y] 0 x rfl,pe_ab a [x,y] 1 y rfl,eqGuard_ab]
  · rename_i b t x ho
    cases h
    simp only [execOp,ho,pe_ab a [x] 0 x rfl]
  · rename_i s d x ho
    cases h
    simp only [execOp,ho,pe_ab a [x] 0 x rfl]
  · rename_i t x i ho
    cases h
    simp only [execOp,ho,pe_ab a [x,i] 0 x rfl,pe_ab a [x,i] 1 i rfl]
  · rename_i t x f ho
    cases h
    simp only [execOp,ho,pe_ab a [x] 0 x rfl]
  · rename_i x ho
    cases h
    simp only [execOp,ho,pe_ab a [x] 0 x rfl]
  · rename_i t x i ho
    cases h
    simp only [execOp,ho,pe_ab a [x,i] 0 x rfl,pe_ab a [x,i] 1 i rfl]
  · rename_i f x ho
    cases h
    have e1:=pe_ab a [x] 0 x rfl
    simp only [List.map_cons,List.map_nil] at e1
    simp only [execOp,ho,List.map_toArray,List.map_cons,List.map_nil,e1]
  · rename_i f x y ho
    cases h
    have e1:=pe_ab a [x,y] 0 x rfl
    have e2:=pe_ab a [x,y] 1 y rfl
    simp only [List.map_cons,List.map_nil] at e1 e2
    simp only [execOp,ho,List.map_toArray,List.map_cons,List.map_nil,e1,e2]
  · rename_i t x ho
    cases h
    simp only [execOp,ho,pe_ab a [x] 0 x rfl,Option.map_none]
  · rename_i t x l ho
    cases h
    simp only [execOp,ho,pe_ab a [x,l] 0 x rfl,Option.map_none,Option.map_some,pe_ab a [x,l] 1 l rfl]
  · rename_i t x l ho
    cases h
    simp only [execOp,ho,pe_ab a [x,l] 0 x rfl,Option.map_none,Option.map_some,pe_ab a [x,l] 1 l rfl]
  · rename_i t x l k ho
    cases h
    simp only [execOp,ho,pe_ab a [x,l,k] 0 x rfl,Option.map_none,Option.map_some,pe_ab a [x,l,k] 1 l rfl,pe_ab a [x,l,k] 2 k rfl]
  · rename_i b args ts ho
    split at h
    · rename_i x hx
      obtain rfl:args=#[x]:=by rw [← Array.toArray_toList (xs:=args),hx]
      cases h
      cases x <;> simp [execOp,ho,resolve,ab,pe,Act.eval]
    · rename_i x y hx
      obtain rfl:args=#[x,y]:=by rw [← Array.toArray_toList (xs:=args),hx]
      cases h
      cases x <;> cases y <;> simp [execOp,ho,resolve,ab,pe,Act.eval]
    · rename_i x y hx
      obtain rfl:args=#[x,y]:=by rw [← Array.toArray_toList (xs:=args),hx]
      cases h
      cases x <;> cases y <;> simp [execOp,ho,resolve,ab,pe,Act.eval]
    · cases h
  · cases h
theorem lm_ok {o:Oper} {op:Op} {xs:List Operand} {sh:Option Nat} (h:lm P o=some (op,xs,sh)) (a:Act):execOp a.eval o=execOp (pe (xs.map a.eval)) ⟨none,op,o.type,"",#[],none⟩:=by
  unfold lm at h
  split at h
  · rename_i t x ho
    split at h
    · cases h
      simp only [execOp,ho,pe_ab a [x] 0 x rfl]
    · cases h
  · rename_i t x i ho
    split at h
    · cases h
    · split at h
      · cases h
        simp only [execOp,ho,pe_ab a [x,i] 0 x rfl,pe_ab a [x,i] 1 i rfl]
      · cases h
  · rename_i t x i ho
    split at h
    · split at h
      · cases h
        simp only [execOp,ho,pe_ab a [x,i] 0 x rfl,pe_ab a [x,i] 1 i rfl]
      · cases h
    · cases h
  · rename_i args ts ho
    split at h
    · rename_i x t hx _
      obtain rfl:args=#[x]:=by rw [← Array.toArray_toList (xs:=args),hx]
      split at h
      · cases h
        cases x <;> simp [execOp,ho,resolve,ab,pe,Act.eval]
      · cases h
    · cases h
  · cases h
theorem lm2_ok {o:Oper} {op:Op} {xs:List Operand} {sh:List (Option Nat)} (h:lm2 P D o=some (op,xs,sh)) (a:Act):execOp a.eval o=execOp (pe (xs.map a.eval)) ⟨none,op,o.type,"",#[],none⟩:=by
  unfold lm2 at h
  split at h
  · rename_i t x i ho
    split at h
    · split at h
      · cases h
        simp only [execOp,ho,pe_ab a [x,i] 0 x rfl,pe_ab a [x,i] 1 i rfl]
      · cases h
    · cases h
  · rename_i x ho
    split at h
    · cases h
      simp only [execOp,ho,pe_ab a [x] 0 x rfl]
    · cases h
  · cases h
theorem nxt_ok {o:Oper} {x:Operand} (h:o.op=.next x false) (a:Act):execOp a.eval o=execOp (pe ([x].map a.eval)) ⟨none,.next (ab 0 x) false,o.type,"",#[],none⟩:=by
  simp only [execOp,h,pe_ab a [x] 0 x rfl]
theorem abL_ok (a:Act) (xs:List Operand):(abL xs).map (pe (xs.map a.eval))=(xs.map a.eval).toArray:=by
  unfold abL
  rw [List.map_toArray]
  congr 1
  refine List.ext_getElem? fun k=>?_
  simp only [List.getElem?_map,List.getElem?_zipIdx]
  cases hk:xs[k]? with
  | none=>rfl
  | some x=>simp only [Option.map_some,Nat.zero_add]; rw [pe_ab a xs k x hk]
theorem abL_map {β:Type} (f:Operand→β) (xs:Array Operand) (hf:∀ i x,f (ab i x)=f x):(abL xs.toList).map f=xs.map f:=by
  unfold abL
  rw [List.map_toArray]
  have:(xs.toList.zipIdx.map fun (x,i)=>ab i x).map f=xs.toList.map f:=by
    refine List.ext_getElem? fun k=>?_
    simp only [List.getElem?_map,List.getElem?_zipIdx]
    cases hk:xs.toList[k]? with
    | none=>rfl
    | some x=>simp only [Option.map_some,hf]
  rw [this,← List.map_toArray,Array.toArray_toList]
theorem abP_ok (a:Act) (ps:List (Nat × Operand)):((ps.zipIdx.map fun (p,i)=>(p.1,ab i p.2)).toArray).map (fun (i,x)=>(i,pe ((ps.map (·.2)).map a.eval) x))=(ps.map fun (i,x)=>(i,a.eval x)).toArray:=by
  rw [List.map_toArray]
  congr 1
  refine List.ext_getElem? fun k=>?_
  simp only [List.getElem?_map,List.getElem?_zipIdx]
  cases hk:ps[k]? with
  | none=>rfl
  | some p=>simp only [Option.map_some,Nat.zero_add]; rw [pe_ab a (ps.map (·.2)) k p.2 (by rw [List.getElem?_map,hk]; rfl)]
theorem wm_ok {o:Oper} {op:Op} {xs:List Operand} {sh:Option (Option Nat)} (h:wm D o.op=some (op,xs,sh)) (a:Act):execOp a.eval o=execOp (pe (xs.map a.eval)) ⟨none,op,o.type,"",#[],none⟩:=by
  unfold wm at h
  split at h
  · rename_i t len parts ho
    cases h
    simp only [execOp,ho]
    rw [abP_ok a parts.toList,← List.map_toArray,Array.toArray_toList]
  · rename_i t l c ho
    cases h
    simp only [execOp,ho,pe_ab a [l,c] 0 l rfl,pe_ab a [l,c] 1 c rfl]
  · rename_i t ho
    split at h
    · cases h; simp only [execOp,ho]
    · cases h
  · rename_i t x ho
    split at h
    · cases h; simp only [execOp,ho,pe_ab a [x] 0 x rfl]
    · cases h
  · rename_i t x y ho
    cases h
    simp only [execOp,ho,pe_ab a [x,y] 0 x rfl,pe_ab a [x,y] 1 y rfl]
  · rename_i b args ts ho
    have e1:args.map a.eval=(abL args.toList).map (pe (args.toList.map a.eval)):=by rw [abL_ok,← List.map_toArray,Array.toArray_toList]
    split at h
    · cases h
      simp only [execOp,ho,resolve,e1]
      rw [abL_map (β:=Bool) _ args (fun i x=>by cases x <;> rfl)]
    · cases h
      simp only [execOp,ho,resolve,e1]
      rw [abL_map (β:=Bool) _ args (fun i x=>by cases x <;> rfl)]
    · cases h
  · rename_i t ho
    cases h; simp only [execOp,ho,Option.map_none]
  · rename_i t r ho
    cases h; simp only [execOp,ho,Option.map_some,pe_ab a [r] 0 r rfl]
  · rename_i t m k x ho
    cases h; simp only [execOp,ho,pe_ab a [m,k,x] 0 m rfl,pe_ab a [m,k,x] 1 k rfl,pe_ab a [m,k,x] 2 x rfl]
  · rename_i t m k x ho
    cases h; simp only [execOp,ho,pe_ab a [m,k,x] 0 m rfl,pe_ab a [m,k,x] 1 k rfl,pe_ab a [m,k,x] 2 x rfl]
  · rename_i t x ho
    cases h; simp only [execOp,ho,pe_ab a [x] 0 x rfl]
  · cases h
theorem wm2_ok {o:Oper} {op:Op} {xs:List Operand} {sh:List (Option Nat)} (h:wm2 o.op=some (op,xs,sh)) (a:Act):execOp a.eval o=execOp (pe (xs.map a.eval)) ⟨none,op,o.type,"",#[],none⟩:=by
  unfold wm2 at h
  split at h
  · rename_i args ts ho
    have e1:args.map a.eval=(abL args.toList).map (pe (args.toList.map a.eval)):=by rw [abL_ok,← List.map_toArray,Array.toArray_toList]
    cases h
    simp only [execOp,ho,resolve,e1]
    rw [abL_map (β:=Bool) _ args (fun i x=>by cases x <;> rfl)]
  · cases h
def outX (sh:Option (Option Nat)) (cs:List Value):Next:=
  match sh with
  | some s=>.value ((v1of 0 0 s).den [] [cs])
  | none=>.skip
def nxV (sh:List (Option Nat)) (cs:List Value):Value:=
  match cs with
  | .bool true::_=>(SV.t (.s (.k (.bool true))::svs 0 1 sh)).den [] [cs]
  | _=>.tuple #[.bool false]
def Enters (P:Program) (f:FuncId):Prop:=∃ fn,P.funcs[f]?=some fn∧(fn.name == "runtime.NumGoroutine")=false∧fn.body.isNone=false
def emI (P:Program) (w0:Bs) (D Z:TypeId→Bool) (em:Option Em) (C:Env→Gh→Prop) (E:Env) (u:Gh):Prop:=
  match em with
  | none=>C E u
  | some (.call f ar sh)=>∀ w,ExtS D u w→Bx w0 w→Calls P f (ar.map (V1.den [] E)).toArray w fun e w'=>
      ∃ cs:List Value,e=.returned ((mkSV sh 0).den [] [cs])∧cs.all Value.oneCell'=true∧(Below w.heap.size w w'∨(wrF D f=true∧ChgS D Z u.S w w'∧Bx w0 w'))∧C (E++[cs]) (u.more w w')
  | some (.pr op ty ar)=>∃ v,PrimOk P op ty (ar.map (V1.den [] E)) v∧v.oneCell'=true∧C (E++[[v]]) u
  | some (.ld op ty ar sh)=>∃ cs:List Value,cs.all Value.oneCell'=true ∧
      (∀ w,ExtS D u w→Bx w0 w→(execOp (pe (ar.map (V1.den [] E))) ⟨none,op,ty,"",#[],none⟩).run P w=.ok (.value ((v1of 0 0 sh).den [] [cs])) w)∧C (E++[cs]) u
  | some (.wx op ty ar sh)=>∀ w,ExtS D u w→Bx w0 w→∃ (cs:List Value) (w':World),
      (execOp (pe (ar.map (V1.den [] E))) ⟨none,op,ty,"",#[],none⟩).run P w=.ok (outX sh cs) w'∧cs.all Value.oneCell'=true∧ChgS D Z u.S w w'∧Bx w0 w'∧C (E++[cs]) (u.more w w')
  | some (.lt op ty ar sh)=>∃ cs:List Value,cs.all Value.oneCell'=true ∧
      (∀ w,ExtS D u w→Bx w0 w→(execOp (pe (ar.map (V1.den [] E))) ⟨none,op,ty,"",#[],none⟩).run P w=.ok (.value ((mkSV sh 0).den [] [cs])) w)∧C (E++[cs]) u
  | some (.wt op ty ar sh)=>∀ w,ExtS D u w→Bx w0 w→∃ (cs:List Value) (w':World),
      (execOp (pe (ar.map (V1.den [] E))) ⟨none,op,ty,"",#[],none⟩).run P w=.ok (.value ((mkSV sh 0).den [] [cs])) w'∧cs.all Value.oneCell'=true∧ChgS D Z u.S w w'∧Bx w0 w'∧C (E++[cs]) (u.more w w')
  | some (.nx op ty ar sh)=>∀ w,ExtS D u w→Bx w0 w→∃ (cs:List Value) (w':World),
      (execOp (pe (ar.map (V1.den [] E))) ⟨none,op,ty,"",#[],none⟩).run P w=.ok (.value (nxV sh cs)) w'∧cs.all Value.oneCell'=true∧ChgS D Z u.S w w'∧Bx w0 w'∧((∃ r,cs=.bool true::r)∨cs=[.bool false])∧C (E++[cs]) (u.more w w')
  | some (.cv g ar sh)=>∀ w,ExtS D u w→Bx w0 w→∃ (f:FuncId) (caps:Array Value),g.den [] E=.func (.func f) #[] caps∧Enters P f∧Calls P f ((ar.map (V1.den [] E)).toArray++caps) w fun e w'=>
      ∃ cs:List Value,e=.returned ((mkSV sh 0).den [] [cs])∧cs.all Value.oneCell'=true∧Below w.heap.size w w'∧C (E++[cs]) (u.more w w')
def Stab (okS:Nat→Bool) (st:St) (ρ:List Nat) (E:Env) (st':St) (ρ':List Nat) (E':Env):Prop:=
  ∀ j x,okS j=false→st.at ρ E j=some x→st'.at ρ' E' j=some x
theorem getD_new {α:Type} (l:List α) (x d:α):(l++[x]).getD l.length d=x:=by
  rw [List.getD_eq_getElem?_getD,List.getElem?_append_right (Nat.le_refl _)]; simp
theorem v1of_den {ρ:List Nat} (E:Env) (cs:List Value) (i:Nat) (s:Option Nat):(v1of E.length i s).den ρ (E++[cs])=(v1of 0 i s).den [] [cs]:=by
  cases s with
  | none=>simp only [v1of,V1.den,A.den,getD_new]; rfl
  | some m=>
    simp only [v1of,V1.den,List.map_map]
    congr 2
    refine List.map_congr_left fun k _=>?_
    simp only [Function.comp,A.den,getD_new]; rfl
theorem svs_den {ρ:List Nat} (E:Env) (cs:List Value):∀ (sh:List (Option Nat)) (i:Nat),(svs E.length i sh).map (V1.den ρ (E++[cs]))=(svs 0 i sh).map (V1.den [] [cs])
  | [],_=>rfl
  | s::r,i=>by simp only [svs,List.map_cons,v1of_den,svs_den E cs r]
theorem mkSV_den {ρ:List Nat} (E:Env) (cs:List Value) (sh:List (Option Nat)):(mkSV sh E.length).den ρ (E++[cs])=(mkSV sh 0).den [] [cs]:=by
  unfold mkSV
  split
  · simp only [SV.den,v1of_den]
  · simp only [SV.den,svs_den]
theorem Stab.refl_put {okS:Nat→Bool} (dst:Option Tmp) (s:SV):Stab okS st ρ E (st.put dst s) ρ E:=fun j x _ h=>by rw [St.at_put]; exact h
theorem Stab.more {okS:Nat→Bool} (hI:Inv D w0 st ρ E u a w) (hs:st.sc=true) (cs:List Value) (dst:Option Tmp) (s:SV):Stab okS st ρ E ({ st with nv:=st.nv+1:St }.put dst s) ρ (E++[cs]):=fun j x _ h=>by
  rw [St.at_put]
  have:=St.at_ext hs hI.nv ρ (fun _ _=>rfl) [cs] j
  rw [h] at this; exact this
theorem stp_rd {S:World→Prop} {okL okS:Nat→Bool} {o:Oper} {em:Option Em} {C:Env→Gh→Prop} {la nx:Bool} (h:stp P D okL okS true la nx st o=some (em,st')) (hI:Inv D w0 st ρ E u a w)
    (hS:∀ w',S w'→∀ j b c t,okL j=true→st.at ρ E j=some (b,c,t)→w'.heap[b]?=some (Obj.cells c t (0,0))) (hSE:la=true→∀ w',S w'→ExtS D u w'∧Bx w0 w') (hem:emI P w0 D Z em C E u) :
    ∃ v E',(∀ w',S w'→(execOp a.eval o).run P w'=.ok (.value v) w')∧Inv D w0 st' ρ E' u (a.put o.dst v) w∧C E' u∧Stab okS st ρ E st' ρ E'∧Adv Z st ρ E u st' ρ E' u:=by
  unfold stp at h
  rw [if_pos rfl] at h
  split at h
  · rename_i s hs
    cases h
    obtain ⟨v,hv,hr⟩:=rd0_ok hI hS hs
    exact ⟨v,E,hr,hI.put hv _,hem,Stab.refl_put _ _,Adv.put _ _ _ _ _ _⟩
  · split at h
    · rename_i op xs sh hp
      split at h
      · rename_i ar has
        split at h
        · rename_i hsc
          cases h
          simp only [Bool.and_eq_true,Bool.or_eq_true,Bool.not_eq_true'] at hsc
          obtain ⟨hsc,hla⟩:=hsc
          have hla:la=true:=hla.resolve_left (by decide)
          obtain ⟨cs,h1,hv,hC⟩:=hem
          refine ⟨(v1of 0 0 sh).den [] [cs],E++[cs],fun w' hw=>?_,?_,hC,Stab.more hI hsc _ _ _,Adv.more _ _ _ (Ext.refl _ _) _ _ _ _⟩
          · rw [lm_ok hp a,hI.args has]; exact hv w' (hSE hla w' hw).1 (hSE hla w' hw).2
          · refine (hI.more hsc (cs:=cs) (fun v' hv'=>List.all_eq_true.1 h1 v' hv')).put (fun _=>?_) _
            simp only [SV.den,← hI.nv]; exact (v1of_den E cs 0 sh).symm
        · cases h
      · cases h
    · split at h
      · rename_i op xs sh hp
        split at h
        · rename_i ar has
          split at h
          · rename_i hsc
            cases h
            simp only [Bool.and_eq_true,Bool.or_eq_true,Bool.not_eq_true'] at hsc
            obtain ⟨hsc,hla⟩:=hsc
            have hla:la=true:=hla.resolve_left (by decide)
            obtain ⟨cs,h1,hv,hC⟩:=hem
            refine ⟨(mkSV sh 0).den [] [cs],E++[cs],fun w' hw=>?_,?_,hC,Stab.more hI hsc _ _ _,Adv.more _ _ _ (Ext.refl _ _) _ _ _ _⟩
            · rw [lm2_ok hp a,hI.args has]; exact hv w' (hSE hla w' hw).1 (hSE hla w' hw).2
            · refine (hI.more hsc (cs:=cs) (fun v' hv'=>List.all_eq_true.1 h1 v' hv')).put (fun _=>?_) _
              rw [← hI.nv,mkSV_den]
          · cases h
        · cases h
      split at h
      · rename_i op xs hp
        split at h
        · rename_i ar has
          split at h
          · rename_i hsc
            cases h
            obtain ⟨v,hv,h1,hC⟩:=hem
            refine ⟨v,E++[[v]],fun w' _=>?_,?_,hC,Stab.more hI hsc _ _ _,Adv.more _ _ _ (Ext.refl _ _) _ _ _ _⟩
            · rw [pm_ok hp a,hI.args has]; exact hv w'
            · refine (hI.more hsc (cs:=[v]) (fun v' hv'=>by rw [List.mem_singleton.1 hv']; exact h1)).put (fun _=>?_) _
              simp only [SV.den,V1.den,A.den,← hI.nv,getD_new]; rfl
          · cases h
        · cases h
      · simp at h
theorem wp_value {o:Oper} {next:Act→World→Prop} {Q:Exit→Act→World→Prop} {v:Value} (h:(execOp a.eval o).run P w=.ok (.value v) w') (hn:next (a.put o.dst v) w'):o.wp P a w next Q:=by
  unfold Oper.wp; rw [h]; exact hn
theorem stp_eff {okL okS:Nat→Bool} {o:Oper} {em:Option Em} {C:Env→Gh→Prop} {la nx:Bool} (hZ:∀ t,Z t=true→D t=true) (h:stp P D okL okS false la nx st o=some (em,st')) (hI:Inv D w0 st ρ E u a w) (hem:emI P w0 D Z em C E u)
    {next:Act→World→Prop} {Q:Exit→Act→World→Prop} (hn:∀ ρ' E' u' a' w',Inv D w0 st' ρ' E' u' a' w'→C E' u'→Stab okS st ρ E st' ρ' E'→Adv Z st ρ E u st' ρ' E' u'→(nx=true→ExtG D u u')→(nx=true→isCall o.op=false→u'=u)→next a' w'):o.wp P a w next Q:=by
  have hn0:=fun ρ' E' a' w' h1 h2 h3 h4=>hn ρ' E' u a' w' h1 h2 h3 h4 (fun _=>ExtG.refl _ _) (fun _ _=>rfl)
  unfold stp at h
  simp only [Bool.false_eq_true,if_false] at h
  split at h
  · rename_i s hs
    cases h
    obtain ⟨v,hv,hr⟩:=rd0_ok (S:=fun w'=>w'=w) hI (fun w' hw j b c t _ hj=>by subst hw; exact (hI.blk j b c t hj).1) hs
    exact wp_value (hr w rfl) (hn0 _ _ _ _ (hI.put hv _) hem (Stab.refl_put _ _) (Adv.put _ _ _ _ _ _))
  · split at h
    · rename_i op xs sh hp
      split at h
      · rename_i ar has
        split at h
        · rename_i hsc
          cases h
          simp only [Bool.and_eq_true] at hsc
          obtain ⟨cs,h1,hv,hC⟩:=hem
          refine wp_value (v:=(v1of 0 0 sh).den [] [cs]) (w':=w) ?_ (hn0 _ _ _ _ ?_ hC (Stab.more hI hsc.1 _ _ _) (Adv.more _ _ _ (Ext.refl _ _) _ _ _ _))
          · rw [lm_ok hp a,hI.args has]; exact hv w hI.ext hI.below
          · refine (hI.more hsc.1 (cs:=cs) (fun v' hv'=>List.all_eq_true.1 h1 v' hv')).put (fun _=>?_) _
            simp only [SV.den,← hI.nv]; exact (v1of_den E cs 0 sh).symm
        · cases h
      · cases h
    · split at h
      · rename_i op xs sh hp
        split at h
        · rename_i ar has
          split at h
          · rename_i hsc
            cases h
            simp only [Bool.and_eq_true] at hsc
            obtain ⟨cs,h1,hv,hC⟩:=hem
            refine wp_value (v:=(mkSV sh 0).den [] [cs]) (w':=w) ?_ (hn0 _ _ _ _ ?_ hC (Stab.more hI hsc.1 _ _ _) (Adv.more _ _ _ (Ext.refl _ _) _ _ _ _))
            · rw [lm2_ok hp a,hI.args has]; exact hv w hI.ext hI.below
            · refine (hI.more hsc.1 (cs:=cs) (fun v' hv'=>List.all_eq_true.1 h1 v' hv')).put (fun _=>?_) _
              rw [← hI.nv,mkSV_den]
          · cases h
        · cases h
      split at h
      · rename_i op xs hp
        split at h
        · rename_i ar has
          split at h
          · rename_i hsc
            cases h
            obtain ⟨v,hv,h1,hC⟩:=hem
            refine wp_value (v:=v) (w':=w) ?_ (hn0 _ _ _ _ ?_ hC (Stab.more hI hsc _ _ _) (Adv.more _ _ _ (Ext.refl _ _) _ _ _ _))
            · rw [pm_ok hp a,hI.args has]; exact hv w
            · refine (hI.more hsc (cs:=[v]) (fun v' hv'=>by rw [List.mem_singleton.1 hv']; exact h1)).put (fun _=>?_) _
              simp only [SV.den,V1.den,A.den,← hI.nv,getD_new]; rfl
          · cases h
        · cases h
      · split at h
        · rename_i bl s g he
          split at h
          · cases h
          · rename_i hg
            cases h
            unfold eff at he
            have new:∀ {st1:St} {l:List A} {t:TypeId} {c:Array Value},Inv D w0 st1 ρ E u a w→st1.sc=true→(∀ j y,okS j=false→st.at ρ E j=some y→st1.at ρ E j=some y)→({ st1 with blocks:=bl:St }).put o.dst s=({ st with blocks:=bl:St }).put o.dst s →
                D t=false→mkBl st1 o.dst l t=some (.blk bl s g)→(∀ d,c=(l.map (A.den (ρ.set d w.heap.size) E)).toArray) →
                (execOp a.eval o).run P w=.ok (.value (.pointer (some ⟨w.heap.size,0,none⟩))) (w.alloc (.cells c t))→o.wp P a w next Q:=by
              intro st1 l t c hI1 hsc hat1 hput1 hD hm hc hrun
              unfold mkBl at hm
              split at hm
              · rename_i d hdst
                split at hm
                · rename_i hd
                  cases hm
                  have hdl:d < ρ.length:=by rw [hI1.nb]; exact (List.getElem?_eq_some_iff.1 hd).1
                  have hA:=hI1.alloc hsc hd hD (hc d)
                  rw [← hput1] at hn0
                  refine wp_value hrun (hn0 _ _ _ _ (hA.put (fun _=>?_) _) hem ?_ (Adv.same _ _ _ _ _ _))
                  · simp only [SV.den,V1.den,A.den]
                    rw [getD_set,if_pos ⟨rfl,hdl⟩]
                  · intro j y hok hj
                    rw [St.at_put]
                    replace hj:=hat1 j y hok hj
                    obtain ⟨x,hx,rfl⟩:=St.of_at hj
                    have hdj:d≠j:=fun e=>by subst e; rw [hd] at hx; cases hx
                    have e1:=St.at_ext (ρ:=ρ) hsc hI1.nv (ρ.set d w.heap.size) (fun k hk=>by
                      rw [getD_set,if_neg]
                      rintro ⟨rfl,_⟩
                      obtain ⟨b,hb⟩:=Bl.has_iff.1 hk
                      rw [hd] at hb; cases hb) [] j
                    rw [List.append_nil,hj] at e1
                    rw [← e1]
                    unfold St.at
                    simp only [List.getElem?_set_ne hdj]
                · cases hm
              · cases hm
            split at he
            ·
              rename_i t ho
              split at he
              · rename_i z hz
                split at he
                · rename_i x hx
                  split at he
                  · cases he
                  · rename_i hD
                    cases hi:P.info? t with
                    | none=>simp [hi] at hz
                    | some i=>
                      simp only [hi,Option.bind_some] at hz
                      have hcells:∀ ρ',z.cells=(x.atoms.map (A.den ρ' E)).toArray:=by
                        intro ρ'
                        unfold toV1 at hx
                        split at hx
                        · rename_i cs
                          split at hx
                          · cases hx
                            simp [V1.atoms,Value.cells,Function.comp_def,A.den]
                          · cases hx
                        · cases hx
                        · rename_i h1 h2
                          cases hx
                          cases z <;> first | rfl | exact absurd rfl (h1 _) | exact absurd rfl (h2 _)
                      simp only [Bool.or_eq_true,Bool.not_eq_true',not_or,Bool.not_eq_true,Bool.not_eq_false] at hD
                      obtain ⟨hD,hsc1⟩:=hD
                      have hclr:Inv D w0 (st.clr okS o.dst) ρ E u a w∧(∀ j y,okS j=false→st.at ρ E j=some y→(st.clr okS o.dst).at ρ E j=some y)∧({ st.clr okS o.dst with blocks:=bl:St }).put o.dst s=({ st with blocks:=bl:St }).put o.dst s:=by
                        unfold St.clr
                        split
                        · rename_i d hdst
                          rw [hdst]
                          split
                          · rename_i hc
                            simp only [Bool.and_eq_true] at hc
                            exact ⟨hI.drop d,fun j y hok hj=>by rw [St.at_drop (fun e=>by subst e; rw [hc.1.2] at hok; cases hok)]; exact hj,St.put_drop _ _ _ _⟩
                          · exact ⟨hI,fun _ _ _ h=>h,rfl⟩
                        · exact ⟨hI,fun _ _ _ h=>h,rfl⟩
                      refine new hclr.1 hsc1 hclr.2.1 hclr.2.2 hD he (fun d=>hcells _) ?_
                      simp [execOp,ho,Instr.alloc,zeroValue,typeInfo,hi,hz,newVar,newRow]
                · cases he
              · cases he
            ·
              rename_i t x ho
              split at he
              · rename_i y hx
                split at he
                · cases he
                · rename_i hD
                  simp only [Bool.or_eq_true,Bool.not_eq_true',not_or,Bool.not_eq_true,Bool.not_eq_false] at hD
                  have hgt:g=true∧∃ d,o.dst=some d∧st.blocks[d]?=some none:=by
                    unfold mkBl at he
                    split at he
                    · rename_i d hd
                      split at he
                      · rename_i hdb; cases he; exact ⟨rfl,d,hd,hdb⟩
                      · cases he
                    · cases he
                  have hsc:st.sc=true:=by simpa [hgt.1] using hg
                  have hya:y.atoms.all (A.sc E.length st.blocks)=true:=by
                    rw [hI.nv]
                    cases x with
                    | tmp t=>have:=St.sc_tmps hsc t; simp only [St.ev] at hx; rw [hx] at this; exact this
                    | const v=>
                      cases v <;> simp only [St.ev,SV.v.injEq] at hx <;> first | (cases hx; done) | (subst hx; simp [V1.atoms,A.sc])
                    | global g=>simp only [St.ev,SV.v.injEq] at hx; subst hx; simp [V1.atoms,A.sc]
                    | func f=>simp only [St.ev,SV.v.injEq] at hx; subst hx; simp [V1.atoms,A.sc]
                  obtain ⟨_,d0,hd0,hdb⟩:=hgt
                  have hρ:∀ k,st.blocks.has k=true→(ρ.set d0 w.heap.size).getD k 0=ρ.getD k 0:=by
                    intro k hk
                    rw [getD_set,if_neg]
                    rintro ⟨rfl,_⟩
                    obtain ⟨b,hb⟩:=Bl.has_iff.1 hk
                    rw [hdb] at hb; cases hb
                  have hcells:(y.den ρ E).cells=(y.atoms.map (A.den (ρ.set d0 w.heap.size) E)).toArray:=by
                    rw [V1.den_cells hI.plain hD.2]
                    have:=den_list_ext (e:=[]) hya hρ
                    rw [List.append_nil] at this; rw [this]
                  unfold mkBl at he
                  simp only [hd0,hdb] at he
                  cases he
                  have hA:=hI.alloc hsc hdb hD.1 hcells
                  have hdl:d0 < ρ.length:=by rw [hI.nb]; exact (List.getElem?_eq_some_iff.1 hdb).1
                  refine wp_value (v:=.pointer (some ⟨w.heap.size,0,none⟩)) (w':=w.alloc (.cells (y.den ρ E).cells t)) ?_ (hn0 _ _ _ _ (hA.put (fun _=>?_) _) hem ?_ (Adv.same _ _ _ _ _ _))
                  · simp [execOp,ho,Instr.box,hI.ev_v hx,newVar,newRow]
                  · simp only [SV.den,V1.den,A.den]
                    rw [getD_set,if_pos ⟨rfl,hdl⟩]
                  · intro j y' _ hj
                    rw [St.at_put]
                    obtain ⟨x',hx',rfl⟩:=St.of_at hj
                    have hdj:d0≠j:=fun e=>by subst e; rw [hdb] at hx'; cases hx'
                    have e1:=St.at_ext hsc hI.nv (ρ.set d0 w.heap.size) hρ [] j
                    rw [List.append_nil,hj] at e1
                    rw [← e1]
                    unfold St.at
                    simp only [List.getElem?_set_ne hdj]
              · cases he
            ·
              rename_i t x y ho
              split at he
              · rename_i j off z i hx hy hi
                split at he
                · rename_i b hb
                  split at he
                  · rename_i hc
                    cases he
                    simp only [Bool.and_eq_true,decide_eq_true_eq] at hc
                    obtain ⟨⟨⟨hok,hsz⟩,hfit⟩,hfi⟩:=hc
                    have hat:=St.at_of (ρ:=ρ) (E:=E) hb
                    obtain ⟨h1,h2,h3⟩:=hI.blk j _ _ _ hat
                    have hcells:=V1.den_cells (ρ:=ρ) hI.plain hfi
                    have hrun:=run_storeCells_at P (ρ.getD j 0) off b.2 (z.atoms.map (A.den ρ E)) 0 _ w h1 (by simp; omega) (fun v hv=>by
                      obtain ⟨q,hq,rfl⟩:=List.mem_map.1 hv
                      exact A.den_fine hI.plain (List.all_eq_true.1 hfi q hq))
                    have hS:=hI.store hb (b.1.take off++z.atoms++b.1.drop (off+z.atoms.length)) rfl
                    have hev:=hI.ev_v hx
                    simp only [V1.den,A.den] at hev
                    have hw:(execOp a.eval o).run P w=.ok .skip (w.setRow (ρ.getD j 0) ((b.1.take off++z.atoms++b.1.drop (off+z.atoms.length)).map (A.den ρ E)).toArray):=by
                      generalize ρ.getD j 0=B at hev hrun ⊢
                      have e2:(List.map (A.den ρ E) z.atoms).length=i.size:=by simp [hsz]
                      simp only [Nat.add_zero,← List.map_take,← List.map_drop,← List.map_append,List.length_map] at hrun
                      simp [execOp,ho,Instr.storeAt,hev,Instr.sureAddr,storeVar,Go.sizeOf,typeInfo,hi,hI.ev_v hy,hcells,hsz,hrun]
                    unfold Oper.wp
                    rw [hw]
                    refine hn0 _ _ _ _ (hS.put (fun _=>rfl) _) hem ?_ (Adv.same _ _ _ _ _ _)
                    intro k y' hk hj
                    rw [St.at_put]
                    unfold St.at at hj ⊢
                    have hne:j≠k:=fun e=>by subst e; rw [hok] at hk; cases hk
                    simp only [List.getElem?_set_ne hne]; exact hj
                  · cases he
                · cases he
              · cases he
            ·
              split at he
              · split at he <;> cases he
              · split at he
                · split at he
                  · cases he
                  · split at he <;> cases he
                · cases he
            · cases he
        · rename_i f ar sh he
          split at h
          · rename_i hsc
            simp only [Bool.and_eq_true,Bool.not_eq_true'] at hsc
            obtain ⟨hsc,hnw⟩:=hsc
            cases h
            unfold eff at he
            have nomk:∀ {st1:St} {l:List A} {t:TypeId},mkBl st1 o.dst l t≠some (.cl f ar sh):=by
              intro st1 l t hm
              unfold mkBl at hm
              split at hm
              · split at hm <;> cases hm
              · cases hm
            split at he
            · split at he
              · split at he
                · split at he
                  · cases he
                  · exact absurd he nomk
                · cases he
              · cases he
            · split at he
              · split at he
                · cases he
                · exact absurd he nomk
              · cases he
            · split at he
              · split at he
                · split at he <;> cases he
                · cases he
              · cases he
            · rename_i x' args ts ho
              split at he
              · split at he <;> cases he
              rename_i f' hcal
              split at he
              · rename_i ar' fn has hf
                split at he
                · cases he
                · rename_i hb
                  split at he
                  · rename_i sh' hsh
                    cases he
                    simp only [Bool.or_eq_true,not_or,Bool.not_eq_true] at hb
                    have hb1:¬ fn.name="runtime.NumGoroutine":=by simpa using hb.1
                    have hb2:¬ fn.body=none:=fun e=>by simp [e] at hb
                    have hev:a.eval x'=.func (.func f) #[] #[]:=by
                      unfold calleeOf at hcal
                      split at hcal
                      · rename_i hx'; cases hcal; exact hI.ev_v hx'
                      · cases hcal
                    have hw:(execOp a.eval o).run P w=.ok (.enter f (ar.map (V1.den [] E)).toArray) w:=by
                      have e1:args.map a.eval=(ar.map (V1.den [] E)).toArray:=by
                        rw [← hI.args has,← Array.toList_map,Array.toArray_toList]
                      simp [execOp,ho,resolve,hev,Deferred.ofValue,invoke,callFunc,hf,hb1,hb2,e1]
                    unfold Oper.wp
                    rw [hw]
                    show Calls _ _ _ _ _
                    refine (hem w hI.ext hI.below).mono ?_
                    rintro e w2 ⟨cs,rfl,hpl,hbel,hC⟩
                    rcases hbel with hbel | ⟨hwr,hch,hbx⟩
                    · refine hn _ _ _ _ _ (((hI.called hbel).more hsc (fun v hv=>List.all_eq_true.1 hpl v hv)).put (fun _=>?_) _) hC ?_ ?_ (fun _=>hI.ext.more hbel) (fun _ hc=>absurd hc (by simp [isCall,ho]))
                      · rw [← hI.nv,mkSV_den]
                      · exact Stab.more hI hsc _ _ _
                      · exact Adv.more _ _ _ ((hI.ext.below hbel).ext.weak hZ) _ _ _ _
                    · have hnx:¬ nx=true:=fun e=>by rw [e,hwr] at hnw; cases hnw
                      refine hn _ _ _ _ _ (((hI.chg hch hbx).more hsc (fun v hv=>List.all_eq_true.1 hpl v hv)).put (fun _=>?_) _) hC ?_ ?_ (fun e=>absurd e hnx) (fun e _=>absurd e hnx)
                      · rw [← hI.nv,mkSV_den]
                      · exact Stab.more hI hsc _ _ _
                      · exact Adv.more _ _ _ ((hI.ext.ext.weak hZ).trans hch.ext) _ _ _ _
                  · cases he
              · cases he
            · cases he
          · cases h
        · rename_i g ar sh he
          split at h
          · rename_i hsc
            cases h
            unfold eff at he
            have nomk:∀ {st1:St} {l:List A} {t:TypeId},mkBl st1 o.dst l t≠some (.cv g ar sh):=by
              intro st1 l t hm
              unfold mkBl at hm
              split at hm
              · split at hm <;> cases hm
              · cases hm
            split at he
            · split at he
              · split at he
                · split at he
                  · cases he
                  · exact absurd he nomk
                · cases he
              · cases he
            · split at he
              · split at he
                · cases he
                · exact absurd he nomk
              · cases he
            · split at he
              · split at he
                · split at he <;> cases he
                · cases he
              · cases he
            · rename_i x' args ts ho
              split at he
              · split at he
                · rename_i ci ck ar' sh' hcell has hout
                  cases he
                  obtain ⟨f,caps,hg,⟨fn,hf,hb1,hb2⟩,hcalls⟩:=hem w hI.ext hI.below
                  have hb1:¬ fn.name="runtime.NumGoroutine":=by simpa using hb1
                  have hb2:¬ fn.body=none:=fun e=>by simp [e] at hb2
                  have hev:a.eval x'=.func (.func f) #[] caps:=by
                    unfold cellOf at hcell
                    split at hcell
                    · rename_i hx'
                      cases hcell
                      rw [hI.ev_v hx']; exact hg
                    · cases hcell
                  have hw:(execOp a.eval o).run P w=.ok (.enter f ((ar.map (V1.den [] E)).toArray++caps)) w:=by
                    have e1:args.map a.eval=(ar.map (V1.den [] E)).toArray:=by
                      rw [← hI.args has,← Array.toList_map,Array.toArray_toList]
                    simp [execOp,ho,resolve,hev,Deferred.ofValue,invoke,callFunc,hf,hb1,hb2,e1]
                  unfold Oper.wp
                  rw [hw]
                  show Calls _ _ _ _ _
                  refine hcalls.mono ?_
                  rintro e w2 ⟨cs,rfl,hpl,hbel,hC⟩
                  refine hn _ _ _ _ _ (((hI.called hbel).more hsc (fun v hv=>List.all_eq_true.1 hpl v hv)).put (fun _=>?_) _) hC ?_ ?_ (fun _=>hI.ext.more hbel) (fun _ hc=>absurd hc (by simp [isCall,ho]))
                  · rw [← hI.nv,mkSV_den]
                  · exact Stab.more hI hsc _ _ _
                  · exact Adv.more _ _ _ ((hI.ext.below hbel).ext.weak hZ) _ _ _ _
                · cases he
              · split at he
                · split at he
                  · cases he
                  · split at he <;> cases he
                · cases he
            · cases he
          · cases h
        · split at h
          · cases h
          · rename_i hnx
            split at h
            · rename_i op xs sh hp
              split at h
              · rename_i ar has
                split at h
                · rename_i hsc
                  cases h
                  obtain ⟨cs,w2,hr,h1,hch,hbl,hC⟩:=hem w hI.ext hI.below
                  have hw:(execOp a.eval o).run P w=.ok (outX sh cs) w2:=by rw [wm_ok hp a,hI.args has]; exact hr
                  have hI2:=(hI.chg hch hbl).more hsc (cs:=cs) (fun v hv=>List.all_eq_true.1 h1 v hv)
                  have hA:∀ dst s,Adv Z st ρ E u ({ st with nv:=st.nv+1:St }.put dst s) ρ (E++[cs]) (u.more w w2):=fun dst s=>Adv.more _ _ _ ((hI.ext.ext.weak hZ).trans hch.ext) _ _ _ _
                  cases sh with
                  | none=>
                    unfold Oper.wp
                    rw [hw]
                    exact hn _ _ _ _ _ (hI2.put (fun _=>rfl) _) hC (Stab.more hI hsc _ _ _) (hA _ _) (fun e=>absurd e hnx) (fun e _=>absurd e hnx)
                  | some s=>
                    refine wp_value hw (hn _ _ _ _ _ (hI2.put (fun _=>?_) _) hC (Stab.more hI hsc _ _ _) (hA _ _) (fun e=>absurd e hnx) (fun e _=>absurd e hnx))
                    simp only [wxSV,SV.den,← hI.nv]; exact (v1of_den E cs 0 s).symm
                · cases h
              · cases h
            · split at h
              · rename_i op xs sh hp
                split at h
                · rename_i ar has
                  split at h
                  · rename_i hsc
                    cases h
                    obtain ⟨cs,w2,hr,h1,hch,hbl,hC⟩:=hem w hI.ext hI.below
                    have hw:(execOp a.eval o).run P w=.ok (.value ((mkSV sh 0).den [] [cs])) w2:=by rw [wm2_ok hp a,hI.args has]; exact hr
                    have hI2:=(hI.chg hch hbl).more hsc (cs:=cs) (fun v hv=>List.all_eq_true.1 h1 v hv)
                    refine wp_value hw (hn _ _ _ _ _ (hI2.put (fun _=>?_) _) hC (Stab.more hI hsc _ _ _) (Adv.more _ _ _ ((hI.ext.ext.weak hZ).trans hch.ext) _ _ _ _) (fun e=>absurd e hnx) (fun e _=>absurd e hnx))
                    rw [← hI.nv,mkSV_den]
                  · cases h
                · cases h
              · cases h
theorem nxt_eff {o:Oper} {em:Em} {st1 st2:St} {C1 C2:Env→Gh→Prop} {b nx:Bool} (hZ:∀ t,Z t=true→D t=true) (h:nxt P D b nx st o=some (em,st1,st2)) (hI:Inv D w0 st ρ E u a w)
    (hem:emI P w0 D Z (some em) (fun E u=>∃ b,A.den [] E (.c st.nv 0)=.bool b∧(b=true→C1 E u)∧(b=false→C2 E u)) E u) {okS:Nat→Bool} {next:Act→World→Prop} {Q:Exit→Act→World→Prop}
    (hn1:∀ ρ' E' u' a' w',Inv D w0 st1 ρ' E' u' a' w'→C1 E' u'→Stab okS st ρ E st1 ρ' E'→Adv Z st ρ E u st1 ρ' E' u'→nx=false→next a' w')
    (hn2:∀ ρ' E' u' a' w',Inv D w0 st2 ρ' E' u' a' w'→C2 E' u'→Stab okS st ρ E st2 ρ' E'→Adv Z st ρ E u st2 ρ' E' u'→nx=false→next a' w'):o.wp P a w next Q:=by
  unfold nxt at h
  split at h
  · rename_i x ho
    split at h
    · rename_i ar k e has hsh
      split at h
      · rename_i hc
        simp only [Bool.and_eq_true,Bool.not_eq_true'] at hc
        obtain ⟨⟨_,hnx⟩,hsc⟩:=hc
        cases h
        obtain ⟨cs,w2,hr,h1,hch,hbl,hcs,bb,hb,k1,k2⟩:=hem w hI.ext hI.below
        have hw:(execOp a.eval o).run P w=.ok (.value (nxV [k,e] cs)) w2:=by rw [nxt_ok ho a,hI.args has]; exact hr
        have hI2:=(hI.chg hch hbl).more hsc (cs:=cs) (fun v hv=>List.all_eq_true.1 h1 v hv)
        have hA:∀ dst s,Adv Z st ρ E u ({ st with nv:=st.nv+1:St }.put dst s) ρ (E++[cs]) (u.more w w2):=fun dst s=>Adv.more _ _ _ ((hI.ext.ext.weak hZ).trans hch.ext) _ _ _ _
        have hget:A.den [] (E++[cs]) (.c st.nv 0)=cs.getD 0 (.bool false):=by
          show ((E++[cs]).getD st.nv []).getD 0 (.bool false)=_
          rw [← hI.nv,getD_new]
        rw [hget] at hb
        rcases hcs with ⟨r,rfl⟩ | rfl
        · have hbt:bb=true:=by
            have:Value.bool true=.bool bb:=hb
            injection this with this; exact this.symm
          refine wp_value hw (hn1 _ _ _ _ _ (hI2.put (fun _=>?_) _) (k1 hbt) (Stab.more hI hsc _ _ _) (hA _ _) hnx)
          show (SV.t (.s (.k (.bool true))::svs 0 1 [k,e])).den [] [.bool true::r]=_
          simp only [SV.den,List.map_cons,← hI.nv]
          rw [svs_den]
          rfl
        · have hbt:bb=false:=by
            have:Value.bool false=.bool bb:=hb
            injection this with this; exact this.symm
          exact wp_value hw (hn2 _ _ _ _ _ (hI2.put (fun _=>rfl) _) (k2 hbt) (Stab.more hI hsc _ _ _) (hA _ _) hnx)
      · cases h
    · cases h
  · cases h
end step
end Cin
