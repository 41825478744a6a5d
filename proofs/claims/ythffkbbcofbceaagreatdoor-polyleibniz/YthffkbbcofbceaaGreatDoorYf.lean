/- The walk that is reckoned: a whole function. No program. -/
import Derived.Test.YthffkbbcofbceaaGreatDoorYe
import Derived.Deep.LoopGhost
import Derived.LoopN
import Derived.Test.YthffkbbcofbceaaGreatDoorYa
namespace Cin
open Go Go.RowKit
abbrev LC:=Nat→List Value→Gh→Prop
def updL (L:LC) (d:Nat) (C:List Value→Gh→Prop):LC:=fun i=>if i=d then C else L i
def interp (P:Program) (w0:Bs) (D Z:TypeId→Bool) (Post:Ending→World→Prop):Tr→LC→Env→Gh→Prop
  | .ret x,_,E,u=>∀ w,ExtS D u w→Bx w0 w→Post (.returned (x.den [] E)) w
  | .em e k,L,E,u=>emI P w0 D Z (some e) (interp P w0 D Z Post k L) E u
  | .cond a x y,L,E,u=>∃ b,a.den [] E=.bool b∧(b=true→interp P w0 D Z Post x L E u)∧(b=false→interp P w0 D Z Post y L E u)
  | .both x y,L,E,u=>interp P w0 D Z Post x L E u∧interp P w0 D Z Post y L E u
  | .loop d init body,L,E,u=>∃ (I:Nat→List Value→Gh→Prop) (n0:Nat),I n0 (init.map (A.den [] E)) u ∧
      ∀ n cs u',cs.length=init.length→cs.all Value.oneCell'=true→Ext Z u.w u'.w→I n cs u'→interp P w0 D Z Post body (updL L d fun cs' u''=>∃ n',n' < n∧I n' cs' u'') (E++[cs]) u'
  | .back d vals,L,E,u=>L d (vals.map (A.den [] E)) u
  | .ifeq a v x y,L,E,u=>(a.den [] E=v∧interp P w0 D Z Post x L E u)∨interp P w0 D Z Post y L E u
  | .nope,_,_,_=>False
section walk
variable {D Z:TypeId→Bool} {w0:Bs} {w w':World} {u:Gh} {st st':St} {ρ:List Nat} {E:Env} {a:Act} {P:Program} {Post:Ending→World→Prop} {L:LC}
theorem bool_ne {b c:Bool} (h:b≠c):b=!c:=by cases b <;> cases c <;> first | rfl | exact absurd rfl h
def rI (P:Program) (w0:Bs) (D Z:TypeId→Bool) (C:St→Env→Gh→Prop):RT→Env→Gh→Prop
  | .leaf st,E,u=>C st E u
  | .em e k,E,u=>emI P w0 D Z (some e) (rI P w0 D Z C k) E u
  | .cond a x y,E,u=>∃ b,a.den [] E=.bool b∧(b=true→rI P w0 D Z C x E u)∧(b=false→rI P w0 D Z C y E u)
  | .both x y,E,u=>rI P w0 D Z C x E u∧rI P w0 D Z C y E u
theorem emI_mono {e:Option Em} {C C':Env→Gh→Prop} (h:∀ E u,C E u→C' E u) {E:Env} {u:Gh} (hi:emI P w0 D Z e C E u):emI P w0 D Z e C' E u:=by
  cases e with
  | none=>exact h _ _ hi
  | some e=>
    cases e with
    | call f ar sh=>exact fun w h1 h2=>(hi w h1 h2).mono fun e w' ⟨cs,e1,e2,e3,e4⟩=>⟨cs,e1,e2,e3,h _ _ e4⟩
    | pr op ty ar=>obtain ⟨v,h1,h2,h3⟩:=hi; exact ⟨v,h1,h2,h _ _ h3⟩
    | ld op ty ar sh=>obtain ⟨v,h1,h2,h3⟩:=hi; exact ⟨v,h1,h2,h _ _ h3⟩
    | wx op ty ar sh=>intro w h1 h2; obtain ⟨cs,w',e1,e2,e3,e4,e5⟩:=hi w h1 h2; exact ⟨cs,w',e1,e2,e3,e4,h _ _ e5⟩
    | lt op ty ar sh=>obtain ⟨v,h1,h2,h3⟩:=hi; exact ⟨v,h1,h2,h _ _ h3⟩
    | wt op ty ar sh=>intro w h1 h2; obtain ⟨cs,w',e1,e2,e3,e4,e5⟩:=hi w h1 h2; exact ⟨cs,w',e1,e2,e3,e4,h _ _ e5⟩
    | nx op ty ar sh=>intro w h1 h2; obtain ⟨cs,w',e1,e2,e3,e4,e5,e6⟩:=hi w h1 h2; exact ⟨cs,w',e1,e2,e3,e4,e5,h _ _ e6⟩
    | cv g ar sh=>intro w h1 h2; obtain ⟨f,caps,e1,e2,e3⟩:=hi w h1 h2; exact ⟨f,caps,e1,e2,e3.mono fun e w' ⟨cs,k1,k2,k3,k4⟩=>⟨cs,k1,k2,k3,h _ _ k4⟩⟩
theorem one_ok {C:St→Env→Gh→Prop} {e:Option Em} {r:RQ} (hi:rI P w0 D Z C (one e r).1 E u):emI P w0 D Z e (rI P w0 D Z C r.1) E u:=by
  cases e <;> exact hi
abbrev Same (q:List (RT × RT)):Prop:=∀ p∈q,p.1=p.2
theorem one_q {e:Option Em} {r:RQ}:(one e r).2=r.2:=by cases e <;> rfl
theorem bind_ok {K:St→Option (Tr × List (RT × RT))}:∀ {r:RT} {tr:Tr} {q:List (RT × RT)},r.bind K=some (tr,q)→Same q→∀ E u,interp P w0 D Z Post tr L E u →
    rI P w0 D Z (fun st E u=>∃ t q',K st=some (t,q')∧Same q'∧interp P w0 D Z Post t L E u) r E u
  | .leaf st,tr,q,h,hq,E,u,hi=>⟨tr,q,h,hq,hi⟩
  | .em e k,tr,q,h,hq,E,u,hi=>by
    unfold RT.bind at h
    split at h
    · rename_i t q' hk
      cases h
      exact emI_mono (fun E u h=>bind_ok hk hq E u h) hi
    · cases h
  | .cond a x y,tr,q,h,hq,E,u,hi=>by
    unfold RT.bind at h
    split at h
    · rename_i t1 q1 t2 q2 h1 h2
      cases h
      obtain ⟨b,hb,k1,k2⟩:=hi
      exact ⟨b,hb,fun e=>bind_ok h1 (fun p hp=>hq p (List.mem_append_left _ hp)) E u (k1 e),fun e=>bind_ok h2 (fun p hp=>hq p (List.mem_append_right _ hp)) E u (k2 e)⟩
    · cases h
  | .both x y,tr,q,h,hq,E,u,hi=>by
    unfold RT.bind at h
    split at h
    · rename_i t1 q1 t2 q2 h1 h2
      cases h
      exact ⟨bind_ok h1 (fun p hp=>hq p (List.mem_append_left _ hp)) E u hi.1,bind_ok h2 (fun p hp=>hq p (List.mem_append_right _ hp)) E u hi.2⟩
    · cases h
theorem same_all {x:RQ}:∀ {ys:List RQ},Same (x.2++ys.flatMap (fun y=>(x.1,y.1)::y.2))→∀ y∈x::ys,y.1=x.1∧Same y.2:=by
  intro ys hq y hy
  rcases List.mem_cons.1 hy with rfl | hy
  · exact ⟨rfl,fun p hp=>hq p (List.mem_append_left _ hp)⟩
  · exact ⟨(hq (x.1,y.1) (List.mem_append_right _ (List.mem_flatMap.2 ⟨y,hy,List.mem_cons_self⟩))).symm,fun p hp=>hq p (List.mem_append_right _ (List.mem_flatMap.2 ⟨y,hy,List.mem_cons_of_mem _ hp⟩))⟩
theorem joinQ_ok {C:St→Env→Gh→Prop}:∀ {n:Nat} {x:RQ} {ys:List RQ},Same (joinQ n x ys).2→∀ {E:Env} {u:Gh},rI P w0 D Z C (joinQ n x ys).1 E u→∀ y∈x::ys,Same y.2∧rI P w0 D Z C y.1 E u
  | 0,x,ys,hq,E,u,hi=>fun y hy=>by
    obtain ⟨h1,h2⟩:=same_all hq y hy
    exact ⟨h2,by rw [h1]; exact hi⟩
  | n+1,x,ys,hq,E,u,hi=>fun y hy=>by
    unfold joinQ at hq hi
    split at hq
    · rename_i hf
      rw [hf] at hi
      obtain ⟨h1,h2⟩:=same_all hq y hy
      exact ⟨h2,by rw [h1]; exact hi⟩
    · rename_i d ds hf
      rw [hf] at hi
      have q1:=same_all (x:=x) (ys:=ys.filter fun y=>eqN x.1.fp y.1.fp) fun p hp=>hq p (List.mem_append_left _ hp)
      have q2:Same (joinQ n d ds).2:=fun p hp=>hq p (List.mem_append_right _ hp)
      have key:∀ y∈x::ys.filter (fun y=>eqN x.1.fp y.1.fp),Same y.2∧rI P w0 D Z C y.1 E u:=fun y hy=>by
        obtain ⟨h1,h2⟩:=q1 y hy
        exact ⟨h2,by rw [h1]; exact hi.1⟩
      rcases List.mem_cons.1 hy with rfl | hy
      · exact key _ List.mem_cons_self
      · cases he:eqN x.1.fp y.1.fp with
        | true=>exact key y (List.mem_cons_of_mem _ (List.mem_filter.2 ⟨hy,he⟩))
        | false=>exact joinQ_ok q2 hi.2 y (by rw [← hf]; exact List.mem_filter.2 ⟨hy,by rw [he]; rfl⟩)
theorem gd_any {ops:Array Oper} {j:Nat} (hI:Inv D w0 st ρ E u a w) {s:SV} (h:gd ops st j=s) (hs:s.isAny=false) :
    (∃ v,((ops[j]?).bind (·.dst)).bind (a.tmps[·]?)=some v∧v=s.den ρ E)∨(s=.u∧(ops[j]?).bind (·.dst)=none):=by
  unfold gd at h
  split at h
  · rename_i d hd
    left
    rw [hd]
    rw [List.getD_eq_getElem?_getD] at h
    cases hq:st.tmps[d]? with
    | none=>rw [hq] at h; subst h; simp [SV.isAny] at hs
    | some q=>
      rw [hq] at h
      have hl:d < st.tmps.length:=(List.getElem?_eq_some_iff.1 hq).1
      have:=hI.tmps d
      rw [List.getD_eq_getElem?_getD,hq,Array.getD_eq_getD_getElem?,Array.getElem?_eq_getElem (by rw [hI.size]; exact hl)] at this
      refine ⟨_,by simp only [Option.bind_some]; exact Array.getElem?_eq_getElem (by rw [hI.size]; exact hl),?_⟩
      simp only [Option.getD_some] at h this
      subst h
      exact this hs
  · rename_i hd
    exact .inr ⟨h.symm,hd⟩
theorem yld_u {ops:Array Oper} {j:Nat} (hI:Inv D w0 st ρ E u a w) (h:gd ops st j=.u):yielded ops a.tmps j=none:=by
  unfold yielded
  rcases gd_any hI h rfl with ⟨v,hv,rfl⟩ | ⟨_,hd⟩
  · rw [hv]; rfl
  · rw [hd]; rfl
theorem yld_b {ops:Array Oper} {j:Nat} (hI:Inv D w0 st ρ E u a w) {x:A} {b:Bool} (h:gd ops st j=.v (.s x)) (hb:x.den ρ E=.bool b):yielded ops a.tmps j=some b:=by
  unfold yielded
  rcases gd_any hI h rfl with ⟨v,hv,rfl⟩ | ⟨hu,_⟩
  · rw [hv]; simp only [SV.den,V1.den,hb]
  · cases hu
theorem gst_eff (hZ:∀ t,Z t=true→D t=true) {la nx:Bool} {ops:Array Oper} {okL okS:Nat→Bool} {C:St→Env→Gh→Prop} {K:St→Option RQ} {next:Act→World→Prop} {Q:Exit→Act→World→Prop} {i:Nat} {r:RT} {q:List (RT × RT)}
    (h:gst P D ops okL okS false la nx st i K=some (r,q)) (hq:Same q) (hI:Inv D w0 st ρ E u a w) (hi:rI P w0 D Z C r E u)
    (hn:∀ st' r' q',K st'=some (r',q')→Same q'→∀ ρ' E' u' a' w',Inv D w0 st' ρ' E' u' a' w'→rI P w0 D Z C r' E' u'→Stab okS st ρ E st' ρ' E'→Adv Z st ρ E u st' ρ' E' u'→(nx=true→ExtG D u u')→(nx=true→(∀ o,ops[i]?=some o→isCall o.op=false)→u'=u)→next a' w'):wpOp P ops Q i next a w:=by
  unfold gst at h
  have hput:∀ {st0:St} (o:Oper),Inv D w0 st0 ρ E u a w→Inv D w0 (st0.put o.dst .u) ρ E u (a.put o.dst undef) w:=fun o hI=>hI.put (s:=.u) (v:=undef) (fun _=>rfl) o.dst
  have go:∀ {st0:St} {o:Oper} {r':RQ},ops[i]?=some o→Inv D w0 st0 ρ E u a w→(∀ j x,st.at ρ E j=some x→st0.at ρ E j=some x)→(∀ {st' ρ' E' u'},Adv Z st0 ρ E u st' ρ' E' u'→Adv Z st ρ E u st' ρ' E' u')→Same r'.2 →
      (match stp P D okL okS false la nx st0 o with | some (e,st')=>(K st').map (one e) | none=>none)=some r'→rI P w0 D Z C r'.1 E u→o.wp P a w next Q:=by
    intro st0 o r' ho hI0 hat hadv hq' h' hi'
    split at h'
    · rename_i e st' hs
      cases hk:K st' with
      | none=>simp [hk] at h'
      | some rq=>
        simp only [hk,Option.map_some,Option.some.injEq] at h'
        subst h'
        rw [one_q] at hq'
        exact stp_eff hZ hs hI0 (one_ok hi') (fun ρ' E' u' a' w' hI' hC hst ha hx1 hx2=>hn st' rq.1 rq.2 hk hq' ρ' E' u' a' w' hI' hC (fun j x hj hx=>hst j x hj (hat j x hx)) (hadv ha) hx1 (fun e hc=>hx2 e (hc o ho)))
    · cases h'
  unfold wpOp
  split at h
  · cases h
  · rename_i o ho
    simp only [ho]
    split at h
    · rename_i hg
      rw [if_pos (by simp [Region.wanted,hg])]
      split at h
      · rename_i e st' hs
        exact .inl (go ho hI (fun _ _ h=>h) (fun h=>h) (r':=(r,q)) hq (by rw [hs]; exact h) hi)
      · split at h
        · rename_i e s1 s2 hs
          split at h
          · rename_i t1 t2 h1 h2
            simp only [one,Option.some.injEq] at h
            obtain ⟨rfl,rfl⟩:(RT.em e (two (.c st.nv 0) t1 t2).1)=r∧(two (.c st.nv 0) t1 t2).2=q:=by
              have:=Prod.mk.inj h; exact this
            refine .inl (nxt_eff (okS:=okS) (C1:=rI P w0 D Z C t1.1) (C2:=rI P w0 D Z C t2.1) hZ hs hI hi (fun ρ' E' u' a' w' hI' hC hst ha hx=>?_) (fun ρ' E' u' a' w' hI' hC hst ha hx=>?_))
            · exact hn s1 t1.1 t1.2 h1 (fun p hp=>hq p (List.mem_append_left _ hp)) ρ' E' u' a' w' hI' hC hst ha (fun e=>by rw [hx] at e; cases e) (fun e _=>by rw [hx] at e; cases e)
            · exact hn s2 t2.1 t2.2 h2 (fun p hp=>hq p (List.mem_append_right _ hp)) ρ' E' u' a' w' hI' hC hst ha (fun e=>by rw [hx] at e; cases e) (fun e _=>by rw [hx] at e; cases e)
          · cases h
        · cases h
    · rename_i j want hg
      have hwt:∀ y,yielded ops a.tmps j=y→Region.wanted o (yielded ops a.tmps)=(y == some want):=by intro y hy; simp only [Region.wanted,hg,hy]
      split at h
      · rename_i hgd
        rw [if_neg (by rw [hwt _ (yld_u hI hgd)]; simp)]
        exact hn _ r q h hq ρ E u _ w (hput o hI) hi (fun j x _ hx=>by rw [St.at_put]; exact hx) (Adv.put _ _ _ _ _ _) (fun _=>ExtG.refl _ _) (fun _ _=>rfl)
      · rename_i x hgd
        have hy:=yld_b hI hgd rfl
        split at h
        · rename_i hxw
          rw [if_pos (by rw [hwt _ hy,hxw]; simp)]
          exact .inl (go ho hI (fun _ _ h=>h) (fun h=>h) (r':=(r,q)) hq h hi)
        · rename_i hxw
          rw [if_neg (by rw [hwt _ hy]; simpa using hxw)]
          exact hn _ r q h hq ρ E u _ w (hput o hI) hi (fun j x _ hx=>by rw [St.at_put]; exact hx) (Adv.put _ _ _ _ _ _) (fun _=>ExtG.refl _ _) (fun _ _=>rfl)
      · rename_i ci ck hgd
        split at h
        · rename_i e st' hs
          split at h
          · rename_i t1 t2 h1 h2
            have h1':(match stp P D okL okS false la nx (st.sub ci ck (.bool want)) o with | some (e,st')=>(K st').map (one e) | none=>none)=some (one e t1):=by rw [hs]; simp [h1]
            have key:∀ b,A.den [] E (.c ci ck)=.bool b→Same (one e t1).2→Same t2.2→(b=want→rI P w0 D Z C (one e t1).1 E u)→(b≠want→rI P w0 D Z C t2.1 E u) →
                if Region.wanted o (yielded ops a.tmps) then o.wp P a w next Q∨(o.asks P a w∧LetsOut Q) else next (a.put o.dst undef) w:=by
              intro b hb q1 q2 k1 k2
              have hy:=yld_b (b:=b) hI hgd hb
              by_cases hbw:b=want
              · rw [if_pos (by rw [hwt _ hy,hbw]; simp)]
                exact .inl (go ho (hI.sub (hbw ▸ hb)) (fun j x hx=>by rw [St.at_sub (hbw ▸ hb)]; exact hx) Adv.of_sub q1 h1' (k1 hbw))
              · rw [if_neg (by rw [hwt _ hy]; simpa using hbw)]
                have hbw':b=!want:=bool_ne hbw
                exact hn _ t2.1 t2.2 h2 q2 ρ E u _ w (hput o (hI.sub (hbw' ▸ hb))) (k2 hbw) (fun j x _ hx=>by rw [St.at_put,St.at_sub (hbw' ▸ hb)]; exact hx) (Adv.of_sub (Adv.put _ _ _ _ _ _)) (fun _=>ExtG.refl _ _) (fun _ _=>rfl)
            cases want
            · rw [if_neg (by decide)] at h
              cases h
              obtain ⟨b,hb,k1,k2⟩:=hi
              exact key b hb (fun p hp=>hq p (List.mem_append_right _ hp)) (fun p hp=>hq p (List.mem_append_left _ hp)) (fun e=>k2 e) (fun e=>k1 (by simpa using e))
            · rw [if_pos rfl] at h
              cases h
              obtain ⟨b,hb,k1,k2⟩:=hi
              exact key b hb (fun p hp=>hq p (List.mem_append_left _ hp)) (fun p hp=>hq p (List.mem_append_right _ hp)) (fun e=>k1 e) (fun e=>k2 (by simpa using e))
          · cases h
        · cases h
      · cases h
theorem gst_rd {la nx:Bool} {ops:Array Oper} {okL okS:Nat→Bool} {C:St→Env→Gh→Prop} {K:St→Option RQ} {S:World→Prop} {i:Nat} {r:RT} {q:List (RT × RT)}
    (h:gst P D ops okL okS true la nx st i K=some (r,q)) (hq:Same q) (hI:Inv D w0 st ρ E u a w) (hi:rI P w0 D Z C r E u)
    (hS:∀ w',S w'→∀ j b c t,okL j=true→st.at ρ E j=some (b,c,t)→w'.heap[b]?=some (Obj.cells c t (0,0))) (hSE:la=true→∀ w',S w'→ExtS D u w'∧Bx w0 w') :
    ∃ o v st' r' q' E',ops[i]?=some o∧YieldsIf P ops S o v a∧K st'=some (r',q')∧Same q'∧Inv D w0 st' ρ E' u (a.put o.dst v) w∧rI P w0 D Z C r' E' u∧Stab okS st ρ E st' ρ E'∧Adv Z st ρ E u st' ρ E' u:=by
  unfold gst at h
  have hput:∀ {st0:St} (o:Oper),Inv D w0 st0 ρ E u a w→Inv D w0 (st0.put o.dst .u) ρ E u (a.put o.dst undef) w:=fun o hI=>hI.put (s:=.u) (v:=undef) (fun _=>rfl) o.dst
  have go:∀ {st0:St} {o:Oper} {r':RQ},ops[i]?=some o→Region.wanted o (yielded ops a.tmps)=true→Inv D w0 st0 ρ E u a w→(∀ j,st0.at ρ E j=st.at ρ E j)→(∀ {st' ρ' E' u'},Adv Z st0 ρ E u st' ρ' E' u'→Adv Z st ρ E u st' ρ' E' u')→Same r'.2 →
      (match stp P D okL okS true la nx st0 o with | some (e,st')=>(K st').map (one e) | none=>none)=some r'→rI P w0 D Z C r'.1 E u →
      ∃ o v st' r' q' E',ops[i]?=some o∧YieldsIf P ops S o v a∧K st'=some (r',q')∧Same q'∧Inv D w0 st' ρ E' u (a.put o.dst v) w∧rI P w0 D Z C r' E' u∧Stab okS st ρ E st' ρ E'∧Adv Z st ρ E u st' ρ E' u:=by
    intro st0 o r' ho hw hI0 hat hadv hq' h' hi'
    split at h'
    · rename_i e st' hs
      cases hk:K st' with
      | none=>simp [hk] at h'
      | some rq=>
        simp only [hk,Option.map_some,Option.some.injEq] at h'
        subst h'
        rw [one_q] at hq'
        obtain ⟨v,E',hr,hI',hC,hst,had⟩:=stp_rd (S:=S) hs hI0 (fun w' hw' j b c t hj hx=>hS w' hw' j b c t hj (by rw [← hat]; exact hx)) hSE (one_ok hi')
        exact ⟨o,v,st',rq.1,rq.2,E',ho,.inl ⟨hw,hr⟩,hk,hq',hI',hC,fun j x hj hx=>hst j x hj (by rw [hat]; exact hx),hadv had⟩
    · cases h'
  have skip:∀ {st0:St} {o:Oper} {r':RQ},ops[i]?=some o→Region.wanted o (yielded ops a.tmps)=false→Inv D w0 st0 ρ E u a w→(∀ j,st0.at ρ E j=st.at ρ E j)→(∀ {st' ρ' E' u'},Adv Z st0 ρ E u st' ρ' E' u'→Adv Z st ρ E u st' ρ' E' u')→Same r'.2 →
      K (st0.put o.dst .u)=some r'→rI P w0 D Z C r'.1 E u →
      ∃ o v st' r' q' E',ops[i]?=some o∧YieldsIf P ops S o v a∧K st'=some (r',q')∧Same q'∧Inv D w0 st' ρ E' u (a.put o.dst v) w∧rI P w0 D Z C r' E' u∧Stab okS st ρ E st' ρ E'∧Adv Z st ρ E u st' ρ E' u:=by
    intro st0 o r' ho hw hI0 hat hadv hq' h' hi'
    exact ⟨o,undef,_,r'.1,r'.2,E,ho,.inr ⟨hw,rfl⟩,h',hq',hput o hI0,hi',fun j x _ hx=>by rw [St.at_put,hat]; exact hx,hadv (Adv.put _ _ _ _ _ _)⟩
  split at h
  · cases h
  · rename_i o ho
    split at h
    · rename_i hg
      split at h
      · rename_i e st' hs
        exact go ho (by simp [Region.wanted,hg]) hI (fun _=>rfl) (fun h=>h) (r':=(r,q)) hq (by rw [hs]; exact h) hi
      · have hno:nxt P D true nx st o=none:=by
          unfold nxt
          split
          · split
            · simp
            · rfl
          · rfl
        rw [hno] at h
        cases h
    · rename_i j want hg
      have hwt:∀ y,yielded ops a.tmps j=y→Region.wanted o (yielded ops a.tmps)=(y == some want):=by intro y hy; simp only [Region.wanted,hg,hy]
      split at h
      · rename_i hgd
        exact skip ho (by rw [hwt _ (yld_u hI hgd)]; rfl) hI (fun _=>rfl) (fun h=>h) (r':=(r,q)) hq h hi
      · rename_i x hgd
        have hy:=yld_b hI hgd rfl
        split at h
        · rename_i hxw
          exact go ho (by rw [hwt _ hy,hxw]; simp) hI (fun _=>rfl) (fun h=>h) (r':=(r,q)) hq h hi
        · rename_i hxw
          exact skip ho (by rw [hwt _ hy]; simpa using hxw) hI (fun _=>rfl) (fun h=>h) (r':=(r,q)) hq h hi
      · rename_i ci ck hgd
        split at h
        · rename_i e st' hs
          split at h
          · rename_i t1 t2 h1 h2
            have h1':(match stp P D okL okS true la nx (st.sub ci ck (.bool want)) o with | some (e,st')=>(K st').map (one e) | none=>none)=some (one e t1):=by rw [hs]; simp [h1]
            have key:∀ b,A.den [] E (.c ci ck)=.bool b→Same (one e t1).2→Same t2.2→(b=want→rI P w0 D Z C (one e t1).1 E u)→(b≠want→rI P w0 D Z C t2.1 E u) →
                ∃ o v st' r' q' E',ops[i]?=some o∧YieldsIf P ops S o v a∧K st'=some (r',q')∧Same q'∧Inv D w0 st' ρ E' u (a.put o.dst v) w∧rI P w0 D Z C r' E' u∧Stab okS st ρ E st' ρ E'∧Adv Z st ρ E u st' ρ E' u:=by
              intro b hb q1 q2 k1 k2
              have hy:=yld_b (b:=b) hI hgd hb
              by_cases hbw:b=want
              · exact go ho (by rw [hwt _ hy,hbw]; simp) (hI.sub (hbw ▸ hb)) (fun j=>St.at_sub (hbw ▸ hb) j) Adv.of_sub q1 h1' (k1 hbw)
              · have hbw':b=!want:=bool_ne hbw
                exact skip ho (by rw [hwt _ hy]; simpa using hbw) (hI.sub (hbw' ▸ hb)) (fun j=>St.at_sub (hbw' ▸ hb) j) Adv.of_sub q2 h2 (k2 hbw)
            cases want
            · rw [if_neg (by decide)] at h
              cases h
              obtain ⟨b,hb,k1,k2⟩:=hi
              exact key b hb (fun p hp=>hq p (List.mem_append_right _ hp)) (fun p hp=>hq p (List.mem_append_left _ hp)) (fun e=>k2 e) (fun e=>k1 (by simpa using e))
            · rw [if_pos rfl] at h
              cases h
              obtain ⟨b,hb,k1,k2⟩:=hi
              exact key b hb (fun p hp=>hq p (List.mem_append_left _ hp)) (fun p hp=>hq p (List.mem_append_right _ hp)) (fun e=>k1 e) (fun e=>k2 (by simpa using e))
          · cases h
        · cases h
      · cases h
theorem exL_ok (hZ:∀ t,Z t=true→D t=true) {ops:Array Oper} {C:St→Env→Gh→Prop} {Q:Exit→Act→World→Prop} :
    ∀ (l:List Nat) (st:St) (r:RT) (q:List (RT × RT)),exL P D ops l st=some (r,q)→Same q→∀ ρ E u a w,Inv D w0 st ρ E u a w→rI P w0 D Z C r E u →
      (∀ st' ρ' E' u' a' w',Inv D w0 st' ρ' E' u' a' w'→C st' E' u'→Adv Z st ρ E u st' ρ' E' u'→Q .normal a' w')→wpOps P ops Q l a w
  | [],st,r,q,h,_,ρ,E,u,a,w,hI,hi,hC=>by cases h; exact hC st ρ E u a w hI hi (Adv.refl _ _ _ _ _)
  | i::l,st,r,q,h,hq,ρ,E,u,a,w,hI,hi,hC=>by
    rw [wpOps_cons]
    exact gst_eff hZ h hq hI hi (fun st' r' q' hk hq' ρ' E' u' a' w' hI' hi' _ ha _ _=>exL_ok hZ l st' r' q' hk hq' ρ' E' u' a' w' hI' hi' (fun st2 ρ2 E2 u2 a2 w2 hI2 hC2 ha2=>hC st2 ρ2 E2 u2 a2 w2 hI2 hC2 (ha.trans ha2)))
theorem allOf_ok {g:Nat→Option RQ}:∀ {rs:List Nat} {xs:List RQ},allOf g rs=some xs→∀ i∈rs,∃ x∈xs,g i=some x
  | [],_,_,i,hm=>by cases hm
  | k::rs,xs,h,i,hm=>by
    unfold allOf at h
    split at h
    · rename_i x xs' h1 h2
      cases h
      rcases List.mem_cons.1 hm with rfl | hm
      · exact ⟨x,List.mem_cons_self,h1⟩
      · obtain ⟨y,hy,hg⟩:=allOf_ok h2 i hm
        exact ⟨y,List.mem_cons_of_mem _ hy,hg⟩
    · cases h
theorem notMem {X:List Nat} {i:Nat}:X.contains i=false↔i ∉ X:=by simp
theorem exT_ok (hZ:∀ t,Z t=true→D t=true) {ops:Array Oper} {okL:Nat→Bool} {X:List Nat} {C:St→Env→Gh→Prop} {Q:Exit→Act→World→Prop} {G:Nat→Option (Nat × Array Value × TypeId)} {S0:World→Prop} {u0:Gh}
    (hSG:∀ w',S0 w'↔∀ j b c t,okL j=true→G j=some (b,c,t)→w'.heap[b]?=some (Obj.cells c t (0,0))) (hG:∀ j,okL j=true→(G j).isSome=true) (hs:Region.noSelect ops=true)
    (hP:∀ c a d v w,Q (.panic c) (Act.put a d v) w→Q (.panic c) a w) :
    ∀ (f:Nat) (listed:Array Bool) (fr:Bool) (st:St) (r:RT) (q:List (RT × RT)),exT P D ops okL X f listed fr st=some (r,q)→Same q→∀ ρ E u a w,Inv D w0 st ρ E u a w→rI P w0 D Z C r E u →
      (∀ j x,okL j=true→G j=some x→st.at ρ E j=some x)→(fr=true→u=u0)→(noX X listed→ExtG D u0 u)→(∀ st' ρ' E' u' a' w',Inv D w0 st' ρ' E' u' a' w'→C st' E' u'→Adv Z st ρ E u st' ρ' E' u'→Q .normal a' w') →
      wpAnyX P .any ops Q S0 (fun w'=>ExtS D u0 w'∧Bx w0 w') X f listed a w
  | 0,listed,fr,st,r,q,h,hq,ρ,E,u,a,w,hI,hi,hg,hf,hx,hC=>by
    unfold exT at h
    split at h
    · rename_i hr
      cases h
      exact wpAnyX_done (by simpa using hr) (hC st ρ E u a w hI hi (Adv.refl _ _ _ _ _)) 0
    · cases h
  | f+1,listed,fr,st,r,q,h,hq,ρ,E,u,a,w,hI,hi,hg,hf,hx,hC=>by
    have ih:=exT_ok hZ (ops:=ops) (okL:=okL) (X:=X) (C:=C) (Q:=Q) (u0:=u0) hSG hG hs hP f
    have hSI:∀ {st' ρ' E' u' a' w'},Inv D w0 st' ρ' E' u' a' w'→(∀ j x,okL j=true→G j=some x→st'.at ρ' E' j=some x)→S0 w':=by
      intro st' ρ' E' u' a' w' hI' hg'
      exact (hSG w').2 fun j b c t hj hx=>(hI'.blk j b c t (hg' j _ hj hx)).1
    have hrd:∀ w',S0 w'→∀ j b c t,okL j=true→st.at ρ E j=some (b,c,t)→w'.heap[b]?=some (Obj.cells c t (0,0)):=by
      intro w' hw j b c t hj hat
      cases hq:G j with
      | none=>have:=hG j hj; rw [hq] at this; cases this
      | some x=>
        have:=hg j x hj hq
        rw [hat] at this
        cases this
        exact (hSG w').1 hw j b c t hj hq
    have hst:∀ {st' ρ' E'},Stab (fun j=>!okL j) st ρ E st' ρ' E'→(∀ j x,okL j=true→G j=some x→st'.at ρ' E' j=some x):=
      fun hs j x hj hx=>hs j x (by simp [hj]) (hg j x hj hx)
    have hSS:S0 w∧(noX X listed→ExtS D u0 w∧Bx w0 w):=⟨hSI hI hg,fun h=>⟨(hx h).ext hI.ext,hI.below⟩⟩
    unfold exT at h
    simp only at h
    split at h
    · rename_i hr
      cases h
      exact wpAnyX_done (by simpa using hr) (hC st ρ E u a w hI hi (Adv.refl _ _ _ _ _)) _
    · rename_i hr
      split at h
      · rename_i i hf'
        have hp:=List.find?_some hf'
        simp only [Bool.and_eq_true,Bool.not_eq_true',notMem] at hp
        have hm:=List.mem_of_find?_eq_some hf'
        obtain ⟨o,v,st',r',q',E',ho,hy,hk,hq',hI',hi',hstab,had⟩:=gst_rd (S:=S0) h hq hI hi hrd (fun e=>by cases e)
        exact wpAnyX_take ho hs hp.1.1 hm hp.1.2 (fun c a w=>hP c a _ _ w) hy hSS (ih _ fr st' r' q' hk hq' ρ E' u _ w hI' hi' (hst hstab) hf (fun h=>hx ((noX_set hp.1.2).1 h)) (fun st2 ρ2 E2 u2 a2 w2 hI2 hC2 ha2=>hC st2 ρ2 E2 u2 a2 w2 hI2 hC2 (had.trans ha2)))
      · split at h
        · rename_i i hf'
          have hp:=List.find?_some hf'
          simp only [Bool.and_eq_true,Bool.not_eq_true',Bool.or_eq_true,notMem] at hp
          obtain ⟨⟨⟨⟨hfr,hfree⟩,hnX⟩,_⟩,hwt⟩:=hp
          have hm:=List.mem_of_find?_eq_some hf'
          have hu:=hf hfr
          subst hu
          obtain ⟨o,v,st',r',q',E',ho,hy,hk,hq',hI',hi',hstab,had⟩:=gst_rd (S:=fun w'=>S0 w'∧(ExtS D u w'∧Bx w0 w')) h hq hI hi (fun w' hw=>hrd w' hw.1) (fun _ w' hw=>hw.2)
          have hcont:=ih _ fr st' r' q' hk hq' ρ E' u _ w hI' hi' (hst hstab) hf (fun h=>hx ((noX_set hnX).1 h)) (fun st2 ρ2 E2 u2 a2 w2 hI2 hC2 ha2=>hC st2 ρ2 E2 u2 a2 w2 hI2 hC2 (had.trans ha2))
          exact wpAnyX_wait' ho hs hfree hm hnX hwt (fun c a w=>hP c a _ _ w) hy hSS hcont
        · split at h
          · rename_i x xs hxs
            obtain ⟨rfl,rfl⟩:(joinQ xs.length x xs).1=r∧(joinQ xs.length x xs).2=q:=by rw [Option.some.inj h]; exact ⟨rfl,rfl⟩
            refine wpAnyX_all rfl (by simpa using hr) fun i hi'=>?_
            obtain ⟨y,hy,hgi⟩:=allOf_ok hxs i hi'
            have hyr:=joinQ_ok hq hi y hy
            refine gst_eff hZ (r:=y.1) (q:=y.2) hgi hyr.1 hI hyr.2 (fun st' r' q' hk hq' ρ' E' u' a' w' hI' hi'' hstab had hx1 hx2=>?_)
            have hx':noX X (listed.setIfInBounds i true)→ExtG D u0 u':=fun h=>(hx (noX_sub h)).trans (hx1 (by simpa using noX_not h))
            refine ⟨⟨hSI hI' (hst hstab),fun h=>⟨(hx' h).ext hI'.ext,hI'.below⟩⟩,ih _ _ st' r' q' hk hq' ρ' E' u' a' w' hI' hi'' (hst hstab) (fun e=>?_) hx' (fun st2 ρ2 E2 u2 a2 w2 hI2 hC2 ha2=>hC st2 ρ2 E2 u2 a2 w2 hI2 hC2 (had.trans ha2))⟩
            simp only [Bool.and_eq_true,stays] at e
            obtain ⟨e1,e2,e3⟩:=e
            rw [hx2 e2 (fun o ho=>by rw [ho] at e3; simpa using e3)]
            exact hf e1
          · cases h
inductive SI where
  | code (c:Code)
  | blk (id:Nat)
  | back (N:Act→World→Prop)
def goK (P:Program) (Qf:Exit→Act→World→Prop):List SI→Exit→Act→World→Prop
  | []=>Qf
  | .code c::k=>Exit.then (c.wp P (goK P Qf k)) (goK P Qf k)
  | .blk id::k=>Exit.inBlock id (goK P Qf k)
  | .back N::k=>Exit.then N (goK P Qf k)
def KR (P:Program) (Qf:Exit→Act→World→Prop) (D Z:TypeId→Bool) (w0:Bs) (L:LC) (st:St) (ρ:List Nat) (E:Env) (u:Gh):List KI→List SI→Prop
  | [],[]=>True
  | .code c::k,.code c'::s=>c=c'∧KR P Qf D Z w0 L st ρ E u k s
  | .blk i::k,.blk i'::s=>i=i'∧KR P Qf D Z w0 L st ρ E u k s
  | .back d hd m::k,.back N::s=>d=depth k∧(∃ E0,∃ u0:Gh,(∃ e,E=E0++e)∧hd.nv=E0.length+1∧hd.sc=true∧Ext Z u0.w u.w ∧
      ∀ ρ' cs u' a w,cs.length=m→Inv D w0 hd ρ' (E0++[cs]) u' a w→Ext Z u0.w u'.w→L d cs u'→N a w)∧KR P Qf D Z w0 L st ρ E u k s
  | .again c m::k,.back N::s=>N=Code.rounds P c (goK P Qf s) m∧KR P Qf D Z w0 L st ρ E u k s
  | _,_=>False
theorem depth_subK {i n:Nat} {v:Value}:∀ k:List KI,depth (subK i n v k)=depth k
  | []=>rfl
  | .back _ _ _::k=>by simp only [subK,depth,depth_subK k]
  | .code _::k=>by simp only [subK,depth,depth_subK k]
  | .blk _::k=>by simp only [subK,depth,depth_subK k]
  | .again _ _::k=>by simp only [subK,depth,depth_subK k]
theorem KR.adv {Qf:Exit→Act→World→Prop} {st':St} {ρ':List Nat} {E':Env} {u':Gh} (ha:Adv Z st ρ E u st' ρ' E' u'):∀ {k:List KI} {s:List SI},KR P Qf D Z w0 L st ρ E u k s→KR P Qf D Z w0 L st' ρ' E' u' k s
  | [],[],_=>trivial
  | .code _::_,.code _::_,h=>⟨h.1,KR.adv ha h.2⟩
  | .blk _::_,.blk _::_,h=>⟨h.1,KR.adv ha h.2⟩
  | .back d hd m::k,.back N::s,h=>by
    obtain ⟨hd1,⟨E0,u0,⟨e,he⟩,h2,h3,h5,h7⟩,hr⟩:=h
    obtain ⟨e',he'⟩:=ha.env
    exact ⟨hd1,⟨E0,u0,⟨e++e',by rw [he',he,List.append_assoc]⟩,h2,h3,h5.trans ha.ext,h7⟩,KR.adv ha hr⟩
  | .again _ _::_,.back _::_,h=>⟨h.1,KR.adv ha h.2⟩
  | .again _ _::_,[],h=>h.elim
  | .again _ _::_,.code _::_,h=>h.elim
  | .again _ _::_,.blk _::_,h=>h.elim
  | [],.code _::_,h=>h.elim
  | [],.blk _::_,h=>h.elim
  | [],.back _::_,h=>h.elim
  | .code _::_,[],h=>h.elim
  | .code _::_,.blk _::_,h=>h.elim
  | .code _::_,.back _::_,h=>h.elim
  | .blk _::_,[],h=>h.elim
  | .blk _::_,.code _::_,h=>h.elim
  | .blk _::_,.back _::_,h=>h.elim
  | .back _ _ _::_,[],h=>h.elim
  | .back _ _ _::_,.code _::_,h=>h.elim
  | .back _ _ _::_,.blk _::_,h=>h.elim
theorem KR.sub {Qf:Exit→Act→World→Prop} {i n:Nat} {b:Value} {k:List KI} {s:List SI} (h:KR P Qf D Z w0 L st ρ E u k s):KR P Qf D Z w0 L (st.sub i n b) ρ E u k s:=
  KR.adv (Adv.same _ _ _ _ _ _) h
theorem KR.subK {Qf:Exit→Act→World→Prop} {i n:Nat} {v:Value} (hv:A.den [] E (.c i n)=v):∀ {k:List KI} {s:List SI},KR P Qf D Z w0 L st ρ E u k s→KR P Qf D Z w0 L st ρ E u (subK i n v k) s
  | [],[],_=>trivial
  | .code _::_,.code _::_,h=>⟨h.1,KR.subK hv h.2⟩
  | .blk _::_,.blk _::_,h=>⟨h.1,KR.subK hv h.2⟩
  | .again _ _::_,.back _::_,h=>⟨h.1,KR.subK hv h.2⟩
  | .back d hd m::k,.back N::s,h=>by
    obtain ⟨hd1,⟨E0,u0,⟨e,he⟩,h2,h3,h5,h7⟩,hr⟩:=h
    refine ⟨by rw [hd1]; exact (depth_subK k).symm,⟨E0,u0,⟨e,he⟩,?_,?_,h5,?_⟩,KR.subK hv hr⟩
    · split
      · exact h2
      · exact h2
    · split
      · exact St.sc_sub h3
      · exact h3
    · intro ρ' cs u' a w hlen hI hx hl
      split at hI
      · rename_i hlt
        refine h7 ρ' cs u' a w hlen (hI.unsub ?_) hx hl
        rw [h2] at hlt
        have hi:i < E0.length:=by omega
        rw [← hv,he]
        simp only [A.den,List.getD_eq_getElem?_getD,List.getElem?_append_left hi]
      · exact h7 ρ' cs u' a w hlen hI hx hl
  | [],.code _::_,h=>h.elim
  | [],.blk _::_,h=>h.elim
  | [],.back _::_,h=>h.elim
  | .code _::_,[],h=>h.elim
  | .code _::_,.blk _::_,h=>h.elim
  | .code _::_,.back _::_,h=>h.elim
  | .blk _::_,[],h=>h.elim
  | .blk _::_,.code _::_,h=>h.elim
  | .blk _::_,.back _::_,h=>h.elim
  | .again _ _::_,[],h=>h.elim
  | .again _ _::_,.code _::_,h=>h.elim
  | .again _ _::_,.blk _::_,h=>h.elim
  | .back _ _ _::_,[],h=>h.elim
  | .back _ _ _::_,.code _::_,h=>h.elim
  | .back _ _ _::_,.blk _::_,h=>h.elim
theorem KR.upd {Qf:Exit→Act→World→Prop} {d:Nat} {C:List Value→Gh→Prop}:∀ {k:List KI} {s:List SI},KR P Qf D Z w0 L st ρ E u k s→depth k≤d→KR P Qf D Z w0 (updL L d C) st ρ E u k s
  | [],[],_,_=>trivial
  | .code _::_,.code _::_,h,hd=>⟨h.1,KR.upd h.2 hd⟩
  | .blk _::_,.blk _::_,h,hd=>⟨h.1,KR.upd h.2 hd⟩
  | .back d' hd' m::k,.back N::s,h,hd=>by
    obtain ⟨hd1,⟨E0,u0,he,h2,h3,h5,h7⟩,hr⟩:=h
    have hlt:depth k+1≤d:=hd
    refine ⟨hd1,⟨E0,u0,he,h2,h3,h5,fun ρ' cs u' a w hlen hI he hl=>h7 ρ' cs u' a w hlen hI he ?_⟩,KR.upd hr (by omega)⟩
    unfold updL at hl
    rwa [if_neg (by omega)] at hl
  | .again _ _::_,.back _::_,h,hd=>⟨h.1,KR.upd h.2 hd⟩
  | .again _ _::_,[],h,_=>h.elim
  | .again _ _::_,.code _::_,h,_=>h.elim
  | .again _ _::_,.blk _::_,h,_=>h.elim
  | [],.code _::_,h,_=>h.elim
  | [],.blk _::_,h,_=>h.elim
  | [],.back _::_,h,_=>h.elim
  | .code _::_,[],h,_=>h.elim
  | .code _::_,.blk _::_,h,_=>h.elim
  | .code _::_,.back _::_,h,_=>h.elim
  | .blk _::_,[],h,_=>h.elim
  | .blk _::_,.code _::_,h,_=>h.elim
  | .blk _::_,.back _::_,h,_=>h.elim
  | .back _ _ _::_,[],h,_=>h.elim
  | .back _ _ _::_,.code _::_,h,_=>h.elim
  | .back _ _ _::_,.blk _::_,h,_=>h.elim
theorem goK_exit {Qf:Exit→Act→World→Prop} {id:Nat}:∀ {k k':List KI} {s:List SI},exitK id k=some k'→KR P Qf D Z w0 L st ρ E u k s→∃ s',KR P Qf D Z w0 L st ρ E u k' s'∧∀ a w,goK P Qf s' .normal a w→goK P Qf s (.exit id) a w
  | [],_,_,h,_=>by cases h
  | .code c::k,k',s,h,hk=>by
    cases s with
    | nil=>exact hk.elim
    | cons x s=>
      cases x with
      | code c'=>
        obtain ⟨s',hs',hg⟩:=goK_exit (Qf:=Qf) (k:=k) h hk.2
        exact ⟨s',hs',hg⟩
      | blk i=>exact hk.elim
      | back N=>exact hk.elim
  | .back d hd m::k,k',s,h,hk=>by
    cases s with
    | nil=>exact hk.elim
    | cons x s=>
      cases x with
      | code c'=>exact hk.elim
      | blk i=>exact hk.elim
      | back N=>
        obtain ⟨s',hs',hg⟩:=goK_exit (Qf:=Qf) (k:=k) h hk.2.2
        exact ⟨s',hs',hg⟩
  | .again c m::k,k',s,h,hk=>by
    cases s with
    | nil=>exact hk.elim
    | cons x s=>
      cases x with
      | code c'=>exact hk.elim
      | blk i=>exact hk.elim
      | back N=>
        obtain ⟨s',hs',hg⟩:=goK_exit (Qf:=Qf) (k:=k) h hk.2
        exact ⟨s',hs',hg⟩
  | .blk i::k,k',s,h,hk=>by
    cases s with
    | nil=>exact hk.elim
    | cons x s=>
      cases x with
      | code c'=>exact hk.elim
      | back N=>exact hk.elim
      | blk i'=>
        obtain ⟨rfl,hk⟩:=hk
        unfold exitK at h
        split at h
        · rename_i e
          cases h
          refine ⟨s,hk,fun a w hn=>?_⟩
          show (if id=i then goK P Qf s .normal a w else goK P Qf s (.exit id) a w)
          rw [if_pos e.symm]; exact hn
        · rename_i e
          obtain ⟨s',hs',hg⟩:=goK_exit (Qf:=Qf) (k:=k) h hk
          refine ⟨s',hs',fun a w hn=>?_⟩
          show (if id=i then goK P Qf s .normal a w else goK P Qf s (.exit id) a w)
          rw [if_neg (fun e'=>e e'.symm)]; exact hg a w hn
theorem goK_ret {Qf:Exit→Act→World→Prop} (h:Qf .ret a w):∀ k:List SI,goK P Qf k .ret a w
  | []=>h
  | .code _::k=>goK_ret h k
  | .blk _::k=>goK_ret h k
  | .back _::k=>goK_ret h k
def resS (a:Act):ResultVar→Sem Value
  | .tmp t=>pure (a.tmps.getD t undef)
  | .cell ad t=>do loadVar t (← asAddr (a.tmps.getD ad undef))
theorem run_res (hI:Inv D w0 st ρ E u a w):∀ (rs:List ResultVar) (xs:List V1),resL P st rs=some xs →
    (rs.mapM (resS a)).run P w=Result.ok (xs.map (V1.den [] E)) w
  | [],xs,h=>by cases h; rfl
  | r::rs,xs,h=>by
    unfold resL at h
    split at h
    · rename_i y ys h1 h2
      cases h
      have ih:=run_res hI rs ys h2
      rw [List.mapM_cons]
      have e:(resS a r).run P w=Result.ok (y.den [] E) w:=by
        unfold resOf at h1
        split at h1
        · rename_i t
          split at h1
          · rename_i x hx
            split at h1
            · rename_i hn
              cases h1
              have:=hI.tmps t
              rw [hx] at this
              rw [← V1.den_noPtr (ρ:=ρ) hn]
              simp only [resS,Sem.run_pure]
              rw [this rfl]; rfl
            · cases h1
          · cases h1
        · rename_i ad t
          split at h1
          · rename_i j off hx
            split at h1
            · rename_i b hb
              split at h1
              · rename_i x hp
                split at h1
                · rename_i hn
                  cases h1
                  have hat:=St.at_of (ρ:=ρ) (E:=E) hb
                  have hl:=run_part_load (P:=P) hp (hI.blk j _ _ _ hat).1
                  have:=hI.tmps ad
                  rw [hx] at this
                  have this:=this rfl
                  simp only [SV.den,V1.den,A.den] at this
                  rw [← V1.den_noPtr (ρ:=ρ) hn]
                  simp only [resS,this,asAddr,Sem.run_bind,Sem.run_pure,Result.andThen_ok,hl]
                · cases h1
              · cases h1
            · cases h1
          · cases h1
      simp only [Sem.run_bind,e,Result.andThen_ok,ih,Sem.run_pure,List.map_cons]
    · cases h
theorem retT_ok {fn:Func} {tr:Tr} {q:List (RT × RT)} (h:retT P fn st=some (tr,q)) (hI:Inv D w0 st ρ E u a w) (hi:interp P w0 D Z Post tr L E u):∃ v,(results fn a.tmps).run P w=.ok v w∧Post (.returned v) w:=by
  unfold retT at h
  have key:∀ xs,resL P st fn.results.toList=some xs→(results fn a.tmps).run P w=.ok (if h:(xs.map (V1.den [] E)).toArray.size=1 then (xs.map (V1.den [] E)).toArray[0] else .tuple (xs.map (V1.den [] E)).toArray) w:=by
    intro xs hx
    have hr:=run_res hI _ xs hx
    have e:results fn a.tmps=(do let vs ← fn.results.mapM (resS a); pure (if h:vs.size=1 then vs[0] else .tuple vs)):=by
      unfold results
      congr 1
    rw [e,← Array.toArray_toList (xs:=fn.results),List.mapM_toArray]
    simp [hr]
  split at h
  · rename_i x hx
    cases h
    exact ⟨_,key _ hx,by simpa [SV.den] using hi w hI.ext hI.below⟩
  · rename_i l hne hx
    cases h
    refine ⟨_,key _ hx,?_⟩
    have:¬ (l.map (V1.den [] E)).toArray.size=1:=by
      intro e
      simp only [List.size_toArray,List.length_map] at e
      obtain ⟨x,rfl⟩:=List.length_eq_one_iff.1 e
      exact hne x rfl
    rw [dif_neg this]
    exact hi w hI.ext hI.below
  · cases h
theorem rq_ok {x:Option RQ} {K:St→Option (Tr × List (RT × RT))} {tr:Tr} {q:List (RT × RT)} (h:RQ.bind x K=some (tr,q)) (hq:Same q):∃ r q1,x=some (r,q1)∧Same q1 ∧
    ∀ L E u,interp P w0 D Z Post tr L E u→rI P w0 D Z (fun st E u=>∃ t q',K st=some (t,q')∧Same q'∧interp P w0 D Z Post t L E u) r E u:=by
  unfold RQ.bind at h
  split at h
  · rename_i r q1
    split at h
    · rename_i t q2 hb
      cases h
      exact ⟨r,q1,rfl,fun p hp=>hq p (List.mem_append_left _ hp),fun L E u hi=>bind_ok hb (fun p hp=>hq p (List.mem_append_right _ hp)) E u hi⟩
    · cases h
  · cases h
theorem swRun_ok {a:A} {g:Value→Option (Tr × List (RT × RT))}:∀ {vs:List Value} {tr:Tr} {q:List (RT × RT)},swRun a g vs=some (tr,q)→Same q→interp P w0 D Z Post tr L E u →
    ∃ v t q',a.den [] E=v∧g v=some (t,q')∧Same q'∧interp P w0 D Z Post t L E u
  | [],_,_,h,_,hi=>by cases h; exact hi.elim
  | v::r,tr,q,h,hq,hi=>by
    unfold swRun at h
    split at h
    · exact swRun_ok h hq hi
    · rename_i t1 q1 h1
      split at h
      · rename_i t2 q2 h2
        cases h
        rcases hi with ⟨e,hi⟩ | hi
        · exact ⟨v,t1,q1,e,h1,fun p hp=>hq p (List.mem_append_left _ hp),hi⟩
        · exact swRun_ok h2 (fun p hp=>hq p (List.mem_append_right _ hp)) hi
      · cases h
theorem run_ok {fn:Func} (hZ:∀ t,Z t=true→D t=true) (hm:P.follows .mixedOrders=true):∀ (f:Nat) (k:List KI) (st:St) (tr:Tr) (q:List (RT × RT)),run P D fn f k st=some (tr,q)→Same q→∀ s L ρ E u a w,KR P (bodyPost P fn Post) D Z w0 L st ρ E u k s→Inv D w0 st ρ E u a w→interp P w0 D Z Post tr L E u →
    goK P (bodyPost P fn Post) s .normal a w
  | 0,_,_,_,_,h=>by cases h
  | f+1,[],st,tr,q,h=>fun _ s L ρ E u a w hK hI hi=>by
    cases s with
    | nil=>exact ⟨hI.defers,retT_ok h hI hi⟩
    | cons x s=>exact hK.elim
  | f+1,.blk id::k,st,tr,q,h=>fun hq s L ρ E u a w hK hI hi=>by
    cases s with
    | nil=>exact hK.elim
    | cons x s=>
      cases x with
      | code c=>exact hK.elim
      | back N=>exact hK.elim
      | blk i=>exact run_ok hZ hm f k st tr q h hq s L ρ E u a w hK.2 hI hi
  | f+1,.back d hd m::k,st,tr,q,h=>fun hq s L ρ E u a w hK hI hi=>by
    cases s with
    | nil=>exact hK.elim
    | cons x s=>
      cases x with
      | code c=>exact hK.elim
      | blk i=>exact hK.elim
      | back N=>
        obtain ⟨hd1,⟨E0,u0,⟨e,he⟩,h2,h3,h5,h7⟩,_⟩:=hK
        unfold run at h
        split at h
        · rename_i vs hv
          split at h
          · rename_i hlen
            cases h
            have hv':matSt E0.length hd st=some vs:=by rw [← hv,h2]; rfl
            exact h7 ρ _ u a w (by simpa using hlen) (hI.head hv' he h3 h2 rfl (fun _ _=>rfl)) h5 hi
          · cases h
        · cases h
  | f+1,.again c 0::k,st,tr,q,h=>by cases h
  | f+1,.again c (m+1)::k,st,tr,q,h=>fun hq s L ρ E u a w hK hI hi=>by
    cases s with
    | nil=>exact hK.elim
    | cons x s=>
      cases x with
      | code c=>exact hK.elim
      | blk i=>exact hK.elim
      | back N=>
        obtain ⟨rfl,hK⟩:=hK
        unfold run at h
        split at h
        · exact run_ok hZ hm f (.code c::.again c m::k) st tr q h hq (.code c::.back (Code.rounds P c (goK P (bodyPost P fn Post) s) m)::s) L ρ E u a w ⟨rfl,rfl,hK⟩ hI hi
        · cases h
  | f+1,.code c::k,st,tr,q,h=>fun hq s L ρ E u a w hK hI hi=>by
    have ih:=run_ok (fn:=fn) hZ hm f
    cases s with
    | nil=>exact hK.elim
    | cons x s=>
    cases x with
    | blk i=>exact hK.elim
    | back N=>exact hK.elim
    | code c'=>
    obtain ⟨rfl,hK⟩:=hK
    have hC:∀ st' ρ' E' u' a' w',Inv D w0 st' ρ' E' u' a' w'→(∃ t q',run P D fn f k st'=some (t,q')∧Same q'∧interp P w0 D Z Post t L E' u')→Adv Z st ρ E u st' ρ' E' u'→goK P (bodyPost P fn Post) s .normal a' w':=
      fun st' ρ' E' u' a' w' hI' ⟨t,q',hk,hq',hi'⟩ ha=>ih k st' t q' hk hq' s L ρ' E' u' a' w' (hK.adv ha) hI' hi'
    show c.wp P (goK P (bodyPost P fn Post) s) a w
    unfold run at h
    split at h
    · exact wp_skip (ih k st tr q h hq s L ρ E u a w hK hI hi)
    · rename_i x y
      exact wp_seq (ih (.code x::.code y::k) st tr q h hq (.code x::.code y::s) L ρ E u a w ⟨rfl,rfl,hK⟩ hI hi)
    · rename_i id x
      exact wp_block (ih (.code x::.blk id::k) st tr q h hq (.code x::.blk id::s) L ρ E u a w ⟨rfl,rfl,hK⟩ hI hi)
    · rename_i id
      split at h
      · rename_i k' hk
        obtain ⟨s',hK',hg⟩:=goK_exit (P:=P) (Qf:=bodyPost P fn Post) hk hK
        exact wp_exit (hg a w (ih k' st tr q h hq s' L ρ E u a w hK' hI hi))
      · cases h
    · exact wp_ret (goK_ret ⟨hI.defers,retT_ok h hI hi⟩ s)
    · rename_i body
      split at h
      · exact wp_loop_rounds 9 (ih (.code body::.again body 8::k) st tr q h hq (.code body::.back (Code.rounds P body (goK P (bodyPost P fn Post) s) 8)::s) L ρ E u a w ⟨rfl,rfl,hK⟩ hI hi)
      simp only at h
      split at h
      · rename_i init hinit
        split at h
        · rename_i hc
          simp only [Bool.and_eq_true,decide_eq_true_eq] at hc
          obtain ⟨⟨⟨_,hhsc⟩,hnv⟩,_⟩:=hc
          split at h
          · rename_i t q' hrun
            cases h
            obtain ⟨I,n0,h0,hstep⟩:=hi
            generalize havoc fn st body=hd at *
            have hinit':matSt E.length hd st=some init:=by rw [hI.nv]; exact hinit
            have hFin:=(matSt_ok hinit').2.2
            refine wp_loop_ghost (fun n a w=>∃ ρ' cs u',Inv D w0 hd ρ' (E++[cs]) u' a w∧Ext Z u.w u'.w∧I n cs u'∧cs.length=init.length∧cs.all Value.oneCell'=true) n0 ?_ ?_
            · refine ⟨ρ,init.map (A.den [] E),u,hI.head (e:=[]) hinit' (by simp) hhsc (by rw [hnv,hI.nv]) rfl (fun _ _=>rfl),Ext.refl _ _,h0,by simp,?_⟩
              rw [List.all_eq_true]
              intro v hv
              obtain ⟨x,hx,rfl⟩:=List.mem_map.1 hv
              exact A.den_fine hI.plain (hFin x hx).2
            · rintro n a1 w1 ⟨ρ1,cs,u1,hI1,hE1,hI0,hlen,hpl⟩
              have hK1:KR P (bodyPost P fn Post) D Z w0 (updL L (depth k) fun cs' u''=>∃ n',n' < n∧I n' cs' u'') hd ρ1 (E++[cs]) u1 (.code body::.back (depth k) hd init.length::k)
                  (.code body::.back (fun a' w'=>∃ n',n' < n∧∃ ρ' cs' u',Inv D w0 hd ρ' (E++[cs']) u' a' w'∧Ext Z u.w u'.w∧I n' cs' u'∧cs'.length=init.length∧cs'.all Value.oneCell'=true)::s):=by
                refine ⟨rfl,rfl,⟨E,u,⟨[cs],rfl⟩,by rw [hnv,hI.nv],hhsc,hE1,?_⟩,?_⟩
                · intro ρ' cs' u' a' w' hlen' hI' hE' hl
                  unfold updL at hl
                  rw [if_pos rfl] at hl
                  obtain ⟨n',hn',hl⟩:=hl
                  exact ⟨n',hn',ρ',cs',u',hI',hE',hl,hlen',List.all_eq_true.2 (fun v hv=>hI'.plain cs' (by simp) v hv)⟩
                · exact (hK.upd (Nat.le_refl _)).adv ⟨⟨[cs],rfl⟩,hE1⟩
              exact ih _ hd t _ hrun hq _ _ ρ1 (E++[cs]) u1 a1 w1 hK1 hI1 (hstep n cs u1 hlen hpl hE1 hI0)
          · cases h
        · cases h
      · cases h
    · rename_i c x y
      split at h
      · rename_i b hc
        refine wp_cond (t:=b) (hI.ev_v hc) ?_
        exact ih (.code (if b then x else y)::k) st tr q h hq (.code (if b then x else y)::s) L ρ E u a w ⟨rfl,hK⟩ hI hi
      · rename_i i j hc
        split at h
        · rename_i t1 q1 t2 q2 h1 h2
          cases h
          obtain ⟨b,hb,k1,k2⟩:=hi
          refine wp_cond_split (t:=b) ((hI.ev_v hc).trans hb) (fun e=>?_) (fun e=>?_)
          · exact ih (.code x::subK i j (.bool true) k) _ t1 q1 h1 (fun p hp=>hq p (List.mem_append_left _ hp)) (.code x::s) L ρ E u a w ⟨rfl,(hK.subK (e ▸ hb)).sub⟩ (hI.sub (e ▸ hb)) (k1 e)
          · exact ih (.code y::subK i j (.bool false) k) _ t2 q2 h2 (fun p hp=>hq p (List.mem_append_right _ hp)) (.code y::s) L ρ E u a w ⟨rfl,(hK.subK (e ▸ hb)).sub⟩ (hI.sub (e ▸ hb)) (k2 e)
        · cases h
      · cases h
    · rename_i id ops bb
      split at h
      · rename_i i j vs hsw
        obtain ⟨v,t,q',hv,hg,hq',hi'⟩:=swRun_ok h hq hi
        exact ih (.code (.region id ops bb)::subK i j v k) _ t q' hg hq' (.code (.region id ops bb)::s) L ρ E u a w ⟨rfl,(hK.subK hv).sub⟩ (hI.sub hv) hi'
      split at h
      · obtain ⟨r,q1,hx,hq1,hr⟩:=rq_ok (P:=P) (w0:=w0) (D:=D) (Z:=Z) (Post:=Post) h hq
        exact wp_region (exL_ok hZ _ st r q1 hx hq1 ρ E u a w hI (hr L E u hi) hC)
      simp only at h
      split at h
      · rename_i hns
        obtain ⟨r,q1,hx,hq1,hr⟩:=rq_ok (P:=P) (w0:=w0) (D:=D) (Z:=Z) (Post:=Post) h hq
        rw [exM_eq _ _ _ _ (Rel.zero ops.size)] at hx
        refine wp_region_noPanic (wp_region_x hm (X:=xOps D ops st) (S1:=fun w'=>ExtS D u w'∧Bx w0 w') (S0:=fun w'=>∀ j b c t,(st.blocks.has j && !(storedIn ops st).contains j)=true→st.at ρ E j=some (b,c,t)→w'.heap[b]?=some (Obj.cells c t (0,0))) ?_)
        refine exT_ok hZ (Q:=NoPanic _) (G:=st.at ρ E) (u0:=u) (fun w'=>Iff.rfl) ?_ hns (fun _ _ _ _ _ h=>h) _ _ true st r q1 hx hq1 ρ E u a w.drew hI.drew (hr L E u hi) (fun j x _ hx=>hx) (fun _=>rfl) (fun _=>ExtG.refl _ _) hC
        intro j hj
        simp only [Bool.and_eq_true] at hj
        obtain ⟨b,hb⟩:=Bl.has_iff.1 hj.1
        rw [St.at_of hb]; rfl
      · cases h
    · cases h
def preOk (o:Opt) (sh:List (Option Nat)) (E:Env):Prop:=∀ i v,o.at i=some v→sh[i]?=some none→(E.getD i []).getD 0 (.bool false)=v
theorem par0_den {o:Opt} {sh:List (Option Nat)} {E:Env} (h:preOk o sh E) {i:Nat} {s:Option Nat} (hs:sh[i]?=some s) {ρ:List Nat}:(par0 o i s).den ρ E=(SV.v (v1of i 0 s)).den ρ E:=by
  unfold par0
  split
  · rename_i v hv
    have:=h i v hv hs
    simp only [SV.den,v1of,V1.den,A.den]; exact this.symm
  · rfl
theorem rxS {f:FuncId} {o:Opt} {D Z:TypeId→Bool} (hZ:∀ t,Z t=true→D t=true) {tr:Tr} {args:List Value} {E:Env} {w:World} {Post:Ending→World→Prop} (hm:P.follows .mixedOrders=true) (hr:rowOf P D f o=some tr)
    (hq:(eqsOf P D f o).map (·.1)=(eqsOf P D f o).map (·.2))
    (sh0 sh:List (Option Nat)) (hsh:((P.funcs[f]?).map fun fn=>fn.params.toList.mapM (shapeOf P))=some (some sh0)) (hcap:sh=sh0++o.caps) (hE:E.length=sh.length)
    (hargs:args=sh.zipIdx.map (fun (s,i)=>(v1of i 0 s).den [] E)) (hpl:E.all (fun cs=>cs.all Value.oneCell')=true) (hpre:preOk o sh E) (L:LC) (S X:Nat→Prop) (hS:∀ b,S b→b < w.heap.size) (hi:interp P ⟨w,X⟩ D Z Post tr L E ⟨w,S⟩):Calls P f args.toArray w Post:=by
  unfold rowOf at hr
  cases hrq:rowQ P D f o with
  | none=>simp [hrq] at hr
  | some x=>
    obtain ⟨tr',q⟩:=x
    simp only [hrq,Option.map_some,Option.some.injEq] at hr
    subst hr
    have hsame:Same q:=by
      have hq':q.map (·.1)=q.map (·.2):=by unfold eqsOf at hq; simpa [hrq] using hq
      clear hrq hi hq
      induction q with
      | nil=>intro p hp; cases hp
      | cons y q ih=>
        simp only [List.map_cons,List.cons.injEq] at hq'
        intro p hp
        rcases List.mem_cons.1 hp with rfl | hp
        · exact hq'.1
        · exact ih hq'.2 p hp
    unfold rowQ at hrq
    split at hrq
    · rename_i fn hf
      split at hrq
      · rename_i c sh' hb hs'
        rw [hf] at hsh
        simp only [Option.map_some,Option.some.injEq] at hsh
        rw [hs'] at hsh
        cases hsh
        generalize hsq:sh0++o.caps=sh' at *
        subst hcap
        refine calls_of_wp hf hb ?_
        have hlen:args.length=sh.length:=by rw [hargs]; simp
        refine run_ok hZ hm _ _ _ _ _ hrq hsame [.code c] L (List.replicate (sh.length+(fn.ntmps - sh.length)) 0) E ⟨w,S⟩ _ w ⟨rfl,trivial⟩ ⟨by simp,by simp [hE],fun cs hc v hv=>List.all_eq_true.1 (List.all_eq_true.1 hpl cs hc) v hv,?_,?_,rfl,?_,?_,Bx.refl ⟨w,X⟩,ExtS.refl _ _,hS⟩ hi
        · simp [hlen]
        · intro i
          simp only [List.getD_eq_getElem?_getD,Array.getD_eq_getD_getElem?]
          have hnp:∀ (k:Nat) (s:Option Nat),(v1of k 0 s).atoms.all A.noPtr=true:=fun k s=>by
            cases s with
            | none=>rfl
            | some m=>simp [v1of,V1.atoms,A.noPtr]
          by_cases hl:i < sh.length
          · intro _
            rw [Array.getElem?_append_left (by simpa [hlen] using hl),List.getElem?_append_left (by simpa using hl)]
            simp only [List.getElem?_toArray,hargs]
            have hsi:sh[i]?=some (sh[i]'hl):=List.getElem?_eq_getElem hl
            simp only [List.getElem?_map,List.getElem?_zipIdx,hsi,Option.map_some,Option.getD_some,Nat.zero_add,par0_den hpre hsi]
            simp only [SV.den,V1.den_noPtr (hnp _ _)]
          · intro _
            rw [Array.getElem?_append_right (by simpa [hlen] using hl),List.getElem?_append_right (by simpa using hl)]
            simp only [List.size_toArray,hlen,List.length_map,List.length_zipIdx]
            by_cases hl2:i - sh.length < fn.ntmps - sh.length
            · simp [hl2,SV.den]
            · simp [hl2,SV.den]
        · intro j b c t hj
          obtain ⟨x,hx,_⟩:=St.of_at hj
          simp [List.getElem?_replicate] at hx
        · intro i j hi
          obtain ⟨x,hx⟩:=Bl.has_iff.1 hi
          simp [List.getElem?_replicate] at hx
      · cases hrq
    · cases hrq
theorem rx {f:FuncId} {D Z:TypeId→Bool} (hZ:∀ t,Z t=true→D t=true) {tr:Tr} {args:List Value} {E:Env} {w:World} {Post:Ending→World→Prop} (hm:P.follows .mixedOrders=true) (hr:rowOf P D f=some tr)
    (hq:(eqsOf P D f).map (·.1)=(eqsOf P D f).map (·.2))
    (sh:List (Option Nat)) (hsh:((P.funcs[f]?).map fun fn=>fn.params.toList.mapM (shapeOf P))=some (some sh)) (hE:E.length=sh.length)
    (hargs:args=sh.zipIdx.map (fun (s,i)=>(v1of i 0 s).den [] E)) (hpl:E.all (fun cs=>cs.all Value.oneCell')=true) (L:LC) (hi:interp P (Bs.of w) D Z Post tr L E ⟨w,fun _=>False⟩):Calls P f args.toArray w Post:=
  rxS hZ hm hr hq sh sh hsh (by simp [Opt.caps]) hE hargs hpl (fun _ _ h=>by cases h) L _ _ (fun _ h=>h.elim) hi
end walk
end Cin

namespace Cin
open Go Go.RowKit
def us (k:IntKind) (xs:List Nat):List Value:=xs.map fun (x:Nat)=>Value.int k (x:Int)
def Own (t:TypeId) (k:IntKind) (w:World) (base:Nat) (v:Value) (xs:List Nat):Prop:=w.ownsRow base t 1 v xs.length (us k xs)
theorem us_get {k:IntKind} {xs:List Nat} {i:Nat} (h:i < xs.length):(us k xs)[i]?=some (.int k (lim xs i:Nat)):=by
  simp [us,getElem?_lim h]
section
variable {t:TypeId} {k:IntKind} {w w':World} {base:Nat} {v:Value} {xs:List Nat}
theorem Own.nil (t:TypeId) (k:IntKind) (w:World) (base:Nat):Own t k w base (.slice none 0 0) []:=World.ownsRow_nil _ _ _ _
theorem Own.sl (h:Own t k w base v xs):Sl t k w v xs:=by
  rcases h.2 with ⟨rfl,hn⟩ | ⟨g,cap,cur,rfl,hb,hg,hn,hm,hs,ht⟩
  · exact .inl ⟨rfl,List.length_eq_zero_iff.1 hn⟩
  · refine .inr ⟨g,0,cap,cur,rfl,hg,by omega,hn,fun i hi=>?_⟩
    have:=us_get (k:=k) hi
    rw [← ht,List.getElem?_take,if_pos (by omega),Array.getElem?_toList] at this
    rw [Nat.zero_add]; exact this
theorem Own.shape (h:Own t k w base v xs):(v=.slice none 0 0∧xs=[])∨∃ g cap,v=.slice (some ⟨g,0,none⟩) xs.length cap∧base≤g∧g < w.heap.size∧xs.length≤cap:=by
  rcases h.2 with ⟨rfl,hn⟩ | ⟨g,cap,cur,rfl,hb,hg,hn,hm,hs,ht⟩
  · exact .inl ⟨rfl,List.length_eq_zero_iff.1 hn⟩
  · exact .inr ⟨g,cap,rfl,hb,lt_of_heap hg,hn⟩
theorem Own.cell {g n cap:Nat} (h:Own t k w base (.slice (some ⟨g,0,none⟩) n cap) xs) (hn:n=xs.length) {i:Nat} (hi:i < n):w.cell? ⟨g,i,none⟩=some (.int k (lim xs i:Nat)):=by
  subst hn
  rw [World.ownsRow.cellAt h i (by omega)]; exact us_get hi
theorem Own.free {g n cap:Nat} (h:Own t k w base (.slice (some ⟨g,0,none⟩) n cap) xs) (hn:n=xs.length) (i:Nat):w.frozen? ⟨g,i,none⟩=false:=by
  subst hn
  exact World.ownsRow.frozenAt h i
theorem Own.set {g n cap:Nat} (h:Own t k w base (.slice (some ⟨g,0,none⟩) n cap) xs) (hn:n=xs.length) (i x:Nat):Own t k (w.setCell ⟨g,i,none⟩ (.int k (x:Nat))) base (.slice (some ⟨g,0,none⟩) n cap) (xs.set i x):=by
  subst hn
  have:=(World.ownsRow.stored h i (.int k (x:Nat))).1
  unfold Own
  rw [List.length_set,show us k (xs.set i x)=(us k xs).set i (.int k (x:Nat)) by simp [us,List.map_set]]
  exact this
theorem Own.below (h:Own t k w base v xs) (hb:Below w.heap.size w w'):Own t k w' base v xs:=by
  refine ⟨h.1,?_⟩
  rcases h.2 with h2 | ⟨g,cap,cur,rfl,hbg,hg,r⟩
  · exact .inl h2
  · exact .inr ⟨g,cap,cur,rfl,hbg,by rw [hb.block g (lt_of_heap hg)]; exact hg,r⟩
theorem Own.alloc (h:Own t k w base v xs) (o:Obj):Own t k (w.alloc o) base v xs:=h.below (bel_alloc _ _)
theorem Own.made (w:World) (hb:base≤w.heap.size) (n:Nat) (hn:n≤1000000000000):Own t k (w.alloc (.cells (ints k (List.replicate n 0)) t)) base (.slice (some ⟨w.heap.size,0,none⟩) 0 n) []:=
  World.ownsRow_made w _ n hb (by unfold maxLen; omega) (by simp [ints])
theorem Own.of_blk {b:Nat} (h:Blk w b t k xs) (hb:base≤b) (hn:xs.length≤1000000000000):Own t k w base (.slice (some ⟨b,0,none⟩) xs.length xs.length) xs:=by
  refine ⟨by simp [us],.inr ⟨b,_,_,rfl,hb,h,Nat.le_refl _,by unfold maxLen; omega,by simp [ints],?_⟩⟩
  simp [ints,us,List.take_of_length_le]
end
theorem wpList_append_one {P:Program} {ops:Array Oper} {rest:List Oper} {o:Oper} {a:Act} {Q:Exit→Act→World→Prop} (wr:World) (hgd:o.guard=none) (s x:Operand) (t:TypeId)
    (ho:o.op=.call { callee:=.builtin .append,args:=#[s,x],argTypes:=#[t,t] }) (base:Nat) (e:TypeId) (i:TypeInfo) (k:IntKind) (bytes:Nat)
    (ht:P.underlying t=some (.slice e)) (hi:P.info? e=some i) (hz:i.zero=some (.int k 0)) (hsize:i.size=1) (hby:i.bytes=bytes)
    (v:Value) (xs:List Nat) (hs:a.eval s=v) (hown:Own e k wr base v xs) (c:Nat) (hx:a.eval x=.slice (some ⟨wr.heap.size,0,none⟩) 1 1)
    (hlen:xs.length≤1000000000) (hbytes:(xs.length+1) * bytes≤140737488355328) (hbase:base≤wr.heap.size)
    (h:∀ v' w',Own e k w' base v' (xs++[c])→Below base wr w'→wpList P ops Q rest (a.put o.dst v') w'):wpList P ops Q (o::rest) a (wr.alloc (.cells #[.int k (c:Nat)] e)):=by
  refine wpList_append_own _ hgd s x t ho base e i (.int k 0) 1 bytes ht hi hz hsize hby rfl (by decide) v xs.length (us k xs) hs (World.ownsRow.alloc hown _) ⟨wr.heap.size,0,none⟩ 1 1 [.int k (c:Nat)] hx rfl
    (cell_one_new _ _ _) (fun u hu=>by rw [List.mem_singleton.1 hu]; rfl) (by unfold maxLen; omega) hbytes (by simp; omega) ?_
  intro v' w' h1 h2 _
  refine h v' w' ?_ ?_
  · unfold Own
    rw [List.length_append,show us k (xs++[c])=us k xs++[.int k (c:Nat)] by simp [us]]
    exact h1
  · refine ((Below.refl _ wr).alloc hbase _).grown h2 (by simp; omega) (fun g hg=>?_)
    exact (World.ownsRow.lt hown g hg).1
end Cin
