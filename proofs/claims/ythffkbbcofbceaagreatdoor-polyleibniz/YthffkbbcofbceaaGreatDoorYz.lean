/- Rules: functions that write what is their caller's; ranges over maps; functions handed over; what is hidden and opened. No program. -/
import Derived.Test.YthffkbbcofbceaaGreatDoorYy
import Derived.Test.YthffkbbcofbceaaGreatDoorYx
import Derived.DeepKeys4
namespace Cin
open Go Go.RowKit
open Go.ChangeMaps (setBlock)
def ghostAt:List (List AV)→Nat→AV→List (List AV)
  | [],_,_=>[]
  | s::Γ,0,v=>(s++[v])::Γ
  | s::Γ,i+1,v=>s::ghostAt Γ i v
section back
variable {B:Bd} {w:World} {D:TypeId→Bool} {v a:AV}
theorem setS_back:∀ {s:List AV} {k:Nat} {cs os c o:List _},RepS B w (junkS s k) cs os→lookS s k=some a→v.n=a.n→RepV B w v c o→(∀ (j:Nat) (y:Value),c[j]?=some y→cs[k+j]?=some y)→∃ os',os'.Perm (os++o)∧RepS B w (setS v s k) cs os'
  | [],_,_,_,_,_,_,h,_,_,_=>by simp [lookS] at h
  | b::r,0,_,_,c,o,⟨c1,c2,o1,o2,e,e2,h1,h2⟩,h,hn,hv,hc=>by
    simp only [lookS,Option.some.injEq] at h
    subst h
    have hc1:c1.length=b.n:=h1.1
    have ho1:o1=[]:=h1.2.2
    subst ho1
    have hcl:c.length=b.n:=by rw [← hn]; exact hv.len
    have hcc:c=c1:=by
      refine List.ext_getElem? fun j=>?_
      by_cases hj:j < b.n
      · have:=hc j _ (List.getElem?_eq_getElem (by omega))
        rw [e,Nat.zero_add,List.getElem?_append_left (by omega)] at this
        rw [List.getElem?_eq_getElem (by omega),this]
      · rw [List.getElem?_eq_none (by omega),List.getElem?_eq_none (by omega)]
    subst hcc
    exact ⟨o++o2,by rw [e2,List.nil_append]; exact List.perm_append_comm,c,c2,o,o2,e,rfl,hv,h2⟩
  | b::r,k+1,_,_,c,o,⟨c1,c2,o1,o2,e,e2,h1,h2⟩,h,hn,hv,hc=>by
    simp only [lookS] at h
    cases hb:Nat.ble b.n (k+1) with
    | false=>rw [hb] at h; cases h
    | true=>
      rw [hb] at h
      have hle:=Nat.le_of_ble_eq_true hb
      have hc1:=h1.len
      obtain ⟨os',h3,h4⟩:=setS_back (s:=r) (k:=k+1 - b.n) h2 h hn hv (fun j y hj=>by
        have:=hc j y hj
        rw [e,List.getElem?_append_right (by omega)] at this
        rw [← this]; congr 1; omega)
      exact ⟨o1++os',by rw [e2,List.append_assoc]; exact h3.append_left o1,c1,c2,o1,os',e,rfl,h1,h4⟩
theorem setAt_back:∀ {Γ:List (List AV)} {i k:Nat} {E:Env} {os o:List Nat} {c:List Value},RepE B w (junkAt Γ i k) E os→look Γ i k=some a→v.n=a.n→RepV B w v c o→(∀ (j:Nat) (y:Value),c[j]?=some y→(E.getD i [])[k+j]?=some y)→∃ os',os'.Perm (os++o)∧RepE B w (setAt v Γ i k) E os'
  | [],_,_,_,_,_,_,_,h,_,_,_=>by simp [look] at h
  | s::Γ,0,k,_,_,o,c,⟨cs,E',o1,o2,e,e2,h1,h2⟩,h,hn,hv,hc=>by
    subst e
    obtain ⟨os',h3,h4⟩:=setS_back h1 (by simpa [look] using h) hn hv (fun j y hj=>by simpa using hc j y hj)
    refine ⟨os'++o2,?_,cs,E',os',o2,rfl,rfl,h4,h2⟩
    rw [e2]
    refine (h3.append_right o2).trans ?_
    rw [List.append_assoc,List.append_assoc]
    exact List.perm_append_comm.append_left o1
  | s::Γ,i+1,k,_,_,o,c,⟨cs,E',o1,o2,e,e2,h1,h2⟩,h,hn,hv,hc=>by
    subst e
    obtain ⟨os',h3,h4⟩:=setAt_back (i:=i) h2 (by simpa [look] using h) hn hv (fun j y hj=>by simpa using hc j y hj)
    exact ⟨o1++os',by rw [e2,List.append_assoc]; exact h3.append_left o1,cs,E',o1,os',rfl,rfl,h1,h4⟩
theorem ghost_add:∀ {Γ:List (List AV)} {i:Nat} {E:Env} {os o:List Nat},RepE B w Γ E os→RepV B w v [] o→i < Γ.length→∃ os',os'.Perm (os++o)∧RepE B w (ghostAt Γ i v) E os'
  | [],_,_,_,_,_,_,h=>by simp at h
  | s::Γ,0,_,_,o,⟨cs,E',o1,o2,e,e2,h1,h2⟩,hv,_=>by
    have h3:=h1.app (RepS.one_of hv)
    rw [List.append_nil] at h3
    refine ⟨(o1++o)++o2,?_,cs,E',o1++o,o2,e,rfl,h3,h2⟩
    rw [e2,List.append_assoc,List.append_assoc]
    exact List.perm_append_comm.append_left o1
  | s::Γ,i+1,_,_,o,⟨cs,E',o1,o2,e,e2,h1,h2⟩,hv,hi=>by
    obtain ⟨os',h3,h4⟩:=ghost_add (i:=i) h2 hv (by simpa using hi)
    exact ⟨o1++os',by rw [e2,List.append_assoc]; exact h3.append_left o1,cs,E',o1,os',e,rfl,h1,h4⟩
theorem ghostAt_okE (hv:v.okD D=true):∀ {Γ:List (List AV)} {i:Nat},okE D Γ=true→okE D (ghostAt Γ i v)=true
  | [],_,_=>rfl
  | s::Γ,0,h=>by simp only [okE,List.all_cons,Bool.and_eq_true] at h; simp only [okE,ghostAt,List.all_cons,Bool.and_eq_true,List.all_append]; exact ⟨⟨h.1,by simpa using hv⟩,h.2⟩
  | s::Γ,i+1,h=>by
    simp only [okE,List.all_cons,Bool.and_eq_true] at h
    have:=ghostAt_okE hv (Γ:=Γ) (i:=i) h.2
    simp only [okE,ghostAt,List.all_cons,Bool.and_eq_true] at this ⊢; exact ⟨h.1,this⟩
end back
theorem junkAt_get {B:Bd} {w:World} {a:AV}:∀ {Γ:List (List AV)} {i k:Nat} {E:Env} {os:List Nat},RepE B w Γ E os→look Γ i k=some a →
    ∃ c o1 o o2,os=o1++o++o2∧RepV B w a c o∧(∀ (j:Nat) (v:Value),c[j]?=some v→(E.getD i [])[k+j]?=some v)∧RepE B w (junkAt Γ i k) E (o1++o2)
  | [],_,_,_,_,_,h=>by simp [look] at h
  | s::Γ,0,k,_,_,⟨cs,E',o1,o2,e,e2,h1,h2⟩,h=>by
    have h':lookS s k=some a:=by simpa [look] using h
    obtain ⟨pre,c,post,p1,p,p2,e3,e4,e5,h3,h4⟩:=junkS_ok h1 h'
    refine ⟨c,p1,p,p2++o2,by rw [e2,e5]; simp,h3,fun j v hj=>?_,cs,E',p1++p2,o2,e,by simp,h4,h2⟩
    have hjl:=(List.getElem?_eq_some_iff.1 hj).1
    rw [e]
    simp only [List.getD_eq_getElem?_getD,List.getElem?_cons_zero,Option.getD_some]
    rw [e3,List.append_assoc,List.getElem?_append_right (by omega),List.getElem?_append_left (by omega),e4,show k+j - k=j by omega,hj]
  | s::Γ,i+1,k,_,_,⟨cs,E',o1,o2,e,e2,h1,h2⟩,h=>by
    obtain ⟨c,p1,p,p2,e3,h3,h4,h5⟩:=junkAt_get (Γ:=Γ) (i:=i) (k:=k) h2 (by simpa [look] using h)
    exact ⟨c,o1++p1,p,p2,by rw [e2,e3]; simp,h3,fun j v hj=>by rw [e]; simpa using h4 j v hj,cs,E',o1,p1++p2,e,by simp,h1,h5⟩
section rules
variable {P:Program} {J:Jd} {w0:W0} {D:TypeId→Bool} {Post:Ending→World→Prop} {K:LK} {Γ:List (List AV)} {k:Tr}
theorem aSplit (i j:Nat) {g:Nat} {r:Rty} {rows:List (List Pd)} {Γ':Nat→List (List AV)} (hl:look Γ i j=some (.own g r rows)) (hne:rows≠[]) (hi:i < Γ.length) (hk:∀ cap,rows.length≤cap→cap≤maxLen→AW P J w0 D Post K (Γ' cap) k)
    (hΓ:∀ cap,ghostAt (setAt (.ro true (pV (.slice (some ⟨g,0,none⟩) rows.length cap))) Γ i j) i (.blk g r cap rows)=Γ' cap:=by intros; (simp only [ghostAt,setAt,setS,AV.n,List.cons_append,List.nil_append]) <;> exact rfl):AW P J w0 D Post K Γ k:=by
  intro hJ L E u hL ⟨hb,hD,os,S,hn,hS,hr⟩
  obtain ⟨c,o1,o,o2,eo,hv,hc,hr1⟩:=junkAt_get hr hl
  have hDa:=look_okD hD hl
  rcases hv.2 with ⟨_,e,_⟩ | ⟨cap,cur,rfl,rfl,hB,hg,h1,h2,h3,h4⟩
  · exact absurd e hne
  · refine hk cap h1 h2 hJ L E u hL ?_
    rw [← hΓ]
    have hval:RepV (w0.bd S) u.w (.ro true (pV (.slice (some ⟨g,0,none⟩) rows.length cap))) [.slice (some ⟨g,0,none⟩) rows.length cap] []:=⟨⟨rfl,rfl⟩,rfl⟩
    obtain ⟨p1,q1,r1⟩:=setAt_back (B:=w0.bd S) (v:=.ro true (pV (.slice (some ⟨g,0,none⟩) rows.length cap))) hr1 hl rfl hval hc
    obtain ⟨p2,q2,r2⟩:=ghost_add (v:=.blk g r cap rows) (i:=i) r1 (o:=[g]) ⟨hv.1,rfl,rfl,hB,⟨h1,h2⟩,cur,hg,h3,h4⟩ (by rw [setAt_len]; exact hi)
    refine ⟨hb,ghostAt_okE (v:=.blk g r cap rows) hDa (setAt_okE (v:=.ro true (pV (.slice (some ⟨g,0,none⟩) rows.length cap))) (by rfl) hD),p2,S,?_,hS,r2⟩
    rw [q2.nodup_iff]
    rw [eo] at hn
    refine List.Perm.nodup_iff ?_ |>.2 hn
    rw [List.append_assoc]
    refine ((q1.trans (by rw [List.append_nil])).append_right [g]).trans ?_
    rw [List.append_assoc]
    exact List.perm_append_comm.append_left o1
theorem aJoin (i j a b:Nat) {g cap:Nat} {r:Rty} {rows:List (List Pd)} {Γ':List (List AV)} (hb:look Γ a b=some (.blk g r cap rows)) (hl:look (junkAt Γ a b) i j=some (.ro true (pV (.slice (some ⟨g,0,none⟩) rows.length cap)))) (hk:AW P J w0 D Post K Γ' k)
    (hΓ:setAt (.own g r rows) (junkAt Γ a b) i j=Γ':=by (simp only [setAt,setS,junkAt,junkS,AV.n,List.cons_append,List.nil_append]) <;> exact rfl):AW P J w0 D Post K Γ k:=by
  intro hJ L E u hL ⟨hbx,hD,os,S,hn,hS,hr⟩
  obtain ⟨c,o1,o,o2,eo,hv,_,hr1⟩:=junkAt_get hr hb
  have hDa:=look_okD hD hb
  obtain ⟨hf,rfl,rfl,hB,hcap,cur,hg,hs,hrow⟩:=hv
  obtain ⟨c',q1,q,q2,eq,hv',hc',hr2⟩:=junkAt_get hr1 hl
  obtain ⟨⟨rfl,_⟩,rfl⟩:=hv'
  obtain ⟨p1,s1,r1⟩:=setAt_back (B:=w0.bd S) (v:=.own g r rows) (o:=[g]) hr2 hl rfl ⟨hf,.inr ⟨cap,cur,rfl,rfl,hB,hg,hcap.1,hcap.2,hs,hrow⟩⟩ hc'
  refine hk hJ L E u hL ?_
  rw [← hΓ]
  refine ⟨hbx,setAt_okE (v:=.own g r rows) hDa (junkAt_okE hD),p1,S,?_,hS,r1⟩
  rw [s1.nodup_iff]
  have e1:q1++q2=o1++o2:=by rw [eq]; simp
  rw [e1]
  rw [eo] at hn
  refine List.Perm.nodup_iff ?_ |>.2 hn
  rw [List.append_assoc,List.append_assoc]
  exact List.perm_append_comm.append_left o1
def gsafe (Γ:List (List AV)) (asx:List (List Pd)):AV→Bool
  | .blk _ r _ _=>(asx.all fun ps=>ps.all fun p=>!p.nu.contains r.t && !p.sl.contains r.t) && safeE r.t Γ
  | .map _ _ _=>true
  | _=>false
theorem gsafe_o {B:Bd} {w:World} {av:AV} {asx:List (List Pd)} (hg:gsafe Γ asx av=true) {c:List Value} {o:List Nat} (h:RepV B w av c o) :
    (∃ g,o=[g])∧(∀ b c t f,b∈o→w.heap[b]?=some (Obj.cells c t f)→B.S b∧safeE t Γ=true∧asx.all (fun ps=>ps.all fun p=>!p.nu.contains t && !p.sl.contains t)=true)∧∀ b o',b∈o→w.heap[b]?=some o'→NotCells o'→¬ B.S b:=by
  cases av with
  | blk g r cap rows=>
    obtain ⟨_,_,rfl,hB,_,cur,hh,_⟩:=h
    simp only [gsafe,Bool.and_eq_true] at hg
    refine ⟨⟨g,rfl⟩,fun b c t f hb hc=>?_,fun b o' hb ho hn=>?_⟩
    · simp at hb; subst hb
      rw [hh] at hc; cases hc
      exact ⟨hB.2,hg.2,hg.1⟩
    · simp at hb; subst hb
      rw [hh] at ho; cases ho
      exact absurd rfl (hn _ _ _)
  | map g m en=>
    obtain ⟨_,_,rfl,hB,es,clock,hh,_⟩:=h
    refine ⟨⟨g,rfl⟩,fun b c t f hb hc=>?_,fun b o' hb _ _=>?_⟩
    · simp at hb; subst hb
      rw [hh] at hc; cases hc
    · simp at hb; subst hb; exact hB.2
  | _=>cases hg
theorem argsR_all {b0:Nat} {S X:Nat→Prop} {w:World}:∀ {sh:List (Option Nat)} {asx:List (List Pd)} {E:Env},(∀ ps∈asx,∀ p∈ps,Avoids p.nu p.sl b0 S X w)→ArgsR ⟨b0,none,S⟩ w sh asx E→ArgsR ⟨b0,some (Within w X),S⟩ w sh asx E
  | [],[],_,_,h=>h
  | s::sh,ps::asx,E,ha,⟨cs,E',e,h1,h2,h3⟩=>by
    refine ⟨cs,E',e,h1,?_,argsR_all (fun q hq=>ha q (List.mem_cons_of_mem _ hq)) h3⟩
    have ha':=ha ps List.mem_cons_self
    clear h3 e ha h1
    induction ps generalizing cs with
    | nil=>exact h2
    | cons p ps ih=>
      obtain ⟨c1,c2,e,k1,k2⟩:=h2
      exact ⟨c1,c2,e,p.all (ha' p List.mem_cons_self) k1,ih c2 k2 (fun q hq=>ha' q (List.mem_cons_of_mem _ hq))⟩
  | [],_::_,_,_,h=>h.elim
  | _::_,[],_,_,h=>h.elim
theorem gathL_none {B:Bd} {w:World} {E:Env} {os:List Nat} (hr:RepE B w Γ E os):∀ {ar:List V1} {asx:List (List Pd)},gathL Γ ar=some asx →
    ArgsR ⟨B.b0,none,B.S⟩ w (ar.map V1.shp) asx (ar.map fun x=>x.atoms.map (A.den [] E))
  | [],asx,h=>by simp only [gathL,Option.some.injEq] at h; subst h; rfl
  | x::r,asx,h=>by
    simp only [gathL] at h
    split at h
    · rename_i ps hp
      split at h
      · rename_i qs hq
        cases h
        exact ⟨_,_,rfl,by cases x <;> simp [V1.shp,V1.atoms],gath_ok hr hp,gathL_none hr hq⟩
      · cases h
    · cases h
def AV.gh:AV→Option Nat
  | .map g _ _=>some g
  | .blk g _ _ _=>some g
  | _=>none
theorem gh_os {B:Bd} {w:World} {av:AV} {c:List Value} {o:List Nat} (hg:av.gh.isSome=true) (h:RepV B w av c o) {x:Nat}:(x∈o)↔(av.gh=some x):=by
  cases av with
  | blk g r cap rows=>obtain ⟨_,_,rfl,_⟩:=h; simp [AV.gh,eq_comm]
  | map g m en=>obtain ⟨_,_,rfl,_⟩:=h; simp [AV.gh,eq_comm]
  | _=>cases hg
theorem aCallM (a b:Nat) {J1:Jd} {f:FuncId} {ar:List V1} {sh:List (Option Nat)} {asx:List (List Pd)} {av:AV} {A':(Nat→Nat)→AV} {rs:(Nat→Nat)→List AV} {Γ':(Nat→Nat)→List (List AV)} (hl:look Γ a b=some av) (ha:gathL Γ ar=some asx) (hc:CtM P J1 f (ar.map V1.shp) asx av sh A' rs) (hk:∀ γ,AW P J w0 D Post K (Γ' γ) k)
    (hwr:wrF D f=true:=by rfl) (hsafe:gsafe (junkAt Γ a b) asx av=true:=by rfl) (hn0:Nat.beq av.n 0=true:=by rfl) (hA:∀ γ,(Nat.beq (A' γ).n 0 && (A' γ).okD D)=true:=by intros; rfl)
    (hs:∀ γ,((rs γ).all (AV.okD D) && (rs γ).all AV.noOld)=true:=by intros; rfl) (hnA:∀ γ,(A' γ).noOld=true:=by intros; rfl)
    (hΓ:∀ γ,setAt (A' γ) Γ a b++[rs γ]=Γ' γ:=by intros; (simp only [setAt,setS,AV.n,List.cons_append,List.nil_append]) <;> exact rfl) (hw:∀ w,J.J w→J1.J w:=by intro w h; first | exact h | exact h.1 | exact trivial):AW P J w0 D Post K Γ (.em (.call f ar sh) k):=by
  intro hJ L E u hL h0 w he hb
  have h1:=h0.ext he hb
  obtain ⟨_,hD,os,S,hn,hS,hr⟩:=h1
  obtain ⟨c,o1,o,o2,eo,hv,hcell,hr1⟩:=junkAt_get hr hl
  have hav0:av.n=0:=Nat.eq_of_beq_eq_true hn0
  have hc0:c=[]:=List.eq_nil_of_length_eq_zero (by rw [hv.len,hav0])
  subst hc0
  obtain ⟨⟨g,hog⟩,hcells,hobj⟩:=gsafe_o hsafe hv
  have hlt:∀ b,S b→b < w.heap.size:=fun b h=>(hS.at_ b h).2.1
  have hxs:∀ x,x∈o→w0.b0≤x:=fun x hx=>by
    rcases (hv.ge x hx).1 with h | h
    · have h:w0.w.heap.size≤x:=h
      have:=w0.le; omega
    · exact w0.xs x h
  have hod:o.Nodup:=by rw [hog]; simp
  let w1:W0:=⟨w,w0.b0,Nat.le_trans w0.le hb.size,S,hlt,fun x=>x∈o,hxs⟩
  have hchain:∀ w',Bx w1.bs w'→Bx w0.bs w':=fun w' hx=>⟨hx.os.trans hb.os,hx.tape.trans hb.tape,hx.output.trans hb.output,Nat.le_trans hb.size hx.size,fun q hq hnx=>by
    rw [hx.block q (Nat.lt_of_lt_of_le hq hb.size) (fun hqo=>?_)]
    · exact hb.block q hq hnx
    · rcases (hv.ge q hqo).1 with h | h
      · have h:w0.w.heap.size≤q:=h
        have hq:q < w0.w.heap.size:=hq
        omega
      · exact hnx h⟩
  have hargs:ArgsR w1.lim w (ar.map V1.shp) asx (ar.map fun x=>x.atoms.map (A.den [] E)):=by
    refine argsR_all (fun ps hps p hp=>⟨fun b c t f hx hbc=>?_,fun b o' hx hbo hno=>hobj b o' hx hbo hno,hxs⟩) (gathL_none (B:=w0.bd S) hr ha)
    have h5:=(hcells b c t f hx hbc).2.2
    have:=List.all_eq_true.1 (List.all_eq_true.1 h5 ps hps) p hp
    simpa using this
  have hnoOld:av.noOld=true:=by
    cases av with
    | ro o p=>cases hsafe
    | _=>rfl
  have hh:=hc w1 _ o (fun w' hx=>hw _ (hJ w' (hchain w' hx))) hargs (RepV.low (B:=w0.bd S) (B':=w1.bd S) hv (fun g hg=>.inr hg) rfl rfl hnoOld) hod (fun x=>Iff.rfl)
  unfold argV at hh
  have e:=argV_of E ar []
  simp only [List.length_nil,List.nil_append] at e
  rw [e] at hh
  refine hh.mono ?_
  rintro e1 w' ⟨cs,os',γ,S',o',he1,hn',hS',hSS,hs',hox,hbx,hv',ho',hon'⟩
  have hsγ:=hs γ
  have hAγ:=hA γ
  simp only [Bool.and_eq_true] at hsγ hAγ
  have hb2:Bx w0.bs w':=hchain w' hbx
  have hsz:w.heap.size≤w'.heap.size:=hbx.size
  have hfin:∀ b,S' b→S b∨(w.heap.size≤b∧b < w'.heap.size):=hS'
  have hgr:Gr w S S':=⟨hSS,fun b hb h=>(hfin b h).elim id (fun h2=>by have:=h2.1; omega)⟩
  have hgo:Goes (w0.bd S) (fun x=>x∈o) D w w':=by
    have hsame:∀ b,b < w.heap.size→b ∉ o→w'.heap[b]?=w.heap[b]?:=fun b hb hno=>hbx.block b hb hno
    refine ⟨hsz,fun b hbo=>hsame b (Nat.lt_of_lt_of_le hbo.1 hb.size) (fun hx=>?_),fun b c t f hbc _ hno=>by rw [hsame b (lt_of_heap hbc) hno]; exact hbc,fun b o' hbo _ hno=>by rw [hsame b (Array.getElem?_eq_some_iff.1 hbo).1 hno]; exact hbo⟩
    rcases (hv.ge b hx).1 with h | h
    · have h2:b < w0.w.heap.size:=hbo.1
      have h:w0.w.heap.size≤b:=h
      omega
    · exact hbo.2 h
  refine ⟨cs,he1,hs'.one,.inr ⟨hwr,⟨hsz,fun b c t f hbc hor=>?_⟩,hb2⟩,?_⟩
  · have hno:b ∉ o:=fun hx=>by
      rcases hor with h | h
      · exact h.2 ((hS.at_ b (hcells b c t f hx hbc).1).2.2 _ _ _ hbc)
      · cases h
    rw [hbx.block b (lt_of_heap hbc) hno]; exact hbc
  · refine hk γ hJ L _ (u.more w w') hL.ext ?_
    rw [← hΓ γ]
    have hro:∀ x∈o1++o2,x ∉ o:=fun x hx hxo=>by
      rw [eo] at hn
      simp only [List.nodup_append,List.mem_append] at hn
      rcases List.mem_append.1 hx with h | h
      · exact hn.1.2.2 x h x hxo rfl
      · exact hn.2.2 x (.inr hxo) x h rfl
    have hr2:RepE (w0.bd S') w' (junkAt Γ a b) E (o1++o2):=RepE.goes (B:=w0.bd S) (S':=S') hgo hgr (fun b o' hbo hno hx=>hobj b o' hx hbo hno) hr1 (junkAt_okE hD) (fun b c t f hbc hx=>(hcells b c t f hx hbc).2.1) (fun x hx=>hro x hx)
    have hv2:RepV (w0.bd S') w' (A' γ) [] o':=RepV.low (B:=w1.bd S') (B':=w0.bd S') hv' (fun x hx=>(hv.ge x (ho' x hx)).1) rfl rfl (hnA γ)
    obtain ⟨p,hp1,hp2⟩:=setAt_back (B:=w0.bd S') hr2 hl (by rw [hav0]; exact Nat.eq_of_beq_eq_true hAγ.1) hv2 (fun j y hj=>by simp at hj)
    have hge:∀ x∈os',w.heap.size≤x:=fun x hx=>(hs'.ge x hx).1.elim id (fun h=>absurd h (hox x hx))
    refine ⟨hb2,?_,p++os',S',?_,⟨fun q h=>hSS q (hS.base q h),fun q hq=>?_⟩,RepE.snoc (B:=w0.bd S') hp2 (RepS.low (B:=w1.bd S') (B':=w0.bd S') rfl rfl (fun x hx=>.inl (Nat.le_trans hb.size (hge x hx))) hs' hsγ.2)⟩
    · have:=setAt_okE (v:=A' γ) (i:=a) (k:=b) hAγ.2 hD
      unfold okE at *; rw [List.all_append,this]; simp [hsγ.1]
    · refine List.nodup_append.2 ⟨?_,hn',fun x hx y hy e=>?_⟩
      · rw [hp1.nodup_iff]
        refine List.nodup_append.2 ⟨?_,hon',fun x hx y hy e=>hro x hx (e ▸ ho' y hy)⟩
        rw [eo] at hn
        refine List.Nodup.sublist ?_ hn
        rw [List.append_assoc]
        exact List.Sublist.append_left (List.sublist_append_right _ _) _
      · have h3:x < w.heap.size:=by
          rcases List.mem_append.1 (hp1.subset hx) with h | h
          · exact (hr1.ge x h).2
          · exact (hv.ge x (ho' x h)).2
        have:=hge y hy
        omega
    · rcases hfin q hq with h | h
      · obtain ⟨k1,k2,k3⟩:=hS.at_ q h
        refine ⟨k1,Nat.lt_of_lt_of_le k2 hsz,fun c t f hcc=>.inl ?_⟩
        by_cases hx:q∈o
        · cases hh2:w.heap[q]'k2 with
          | cells c' t' f'=>exact k3 c' t' f' (by show w.heap[q]?=_; rw [Array.getElem?_eq_getElem k2,hh2])
          | _=>exact absurd h (hobj q _ hx (by rw [Array.getElem?_eq_getElem k2]) (by rw [hh2]; intro _ _ _ e; cases e))
        · have hcc:w'.heap[q]?=some (Obj.cells c t f):=hcc
          rw [hbx.block q k2 hx] at hcc
          exact k3 c t f hcc
      · exact ⟨.inr (Nat.le_trans hb.size h.1),h.2,fun _ _ _ _=>.inr h⟩
theorem aCtM (o:Opt) {f:FuncId} {shI:List (Option Nat)} {ps0:List Pd} {asx:List (List Pd)} {av:AV} {sh:List (Option Nat)} {A':(Nat→Nat)→AV} {rs:(Nat→Nat)→List AV} {tr:Tr} (hm:P.follows .mixedOrders=true) (hr:rowOf P D f o=some tr)
    (hq:(eqsOf P D f o).map (·.1)=(eqsOf P D f o).map (·.2)) (hsh:((P.funcs[f]?).map fun fn=>(fn.params.toList.mapM (shapeOf P)).map (·++o.caps))=some (some shI)) (hD:okE D ((ps0::asx).map (·.map (.ro true)))=true) (hDa:av.okD D=true) (hpre:preA o (ps0::asx)) {Γ:List (List AV)}
    (hk:∀ w0:W0,(∀ x,w0.X x↔av.gh=some x)→AW P J w0 D (TellsM w0 A' sh rs) [] Γ tr) (hgh:av.gh.isSome=true:=by rfl) (hΓ:(ps0.map (.ro true)++[av])::asx.map (·.map (.ro true))=Γ:=by (simp only [List.map_cons,List.map_nil,List.cons_append,List.nil_append]) <;> exact rfl):CtM P J f shI (ps0::asx) av sh A' rs:=by
  subst hΓ
  intro w1 E oo hJ hA hv hod hX
  have key:∀ {shI:List (Option Nat)} {asx:List (List Pd)} {E:Env},ArgsR w1.lim w1.w shI asx E→E.length=shI.length∧(E.all fun cs=>cs.all Value.oneCell')=true∧RepE (w1.bd w1.S) w1.w (asx.map (·.map (.ro true))) E []:=by
    intro shI
    induction shI with
    | nil=>
      intro asx E h
      cases asx with
      | nil=>rw [show E=[] from h]; exact ⟨rfl,rfl,rfl,rfl⟩
      | cons _ _=>exact h.elim
    | cons s shI ih=>
      intro asx E h
      cases asx with
      | nil=>exact h.elim
      | cons ps asx=>
        obtain ⟨cs,E',rfl,h0,h1,h2⟩:=h
        obtain ⟨h3,h4,h5⟩:=ih h2
        clear h0
        refine ⟨by simp [h3],by simp only [List.all_cons,h1.one,h4]; rfl,cs,E',[],[],rfl,rfl,?_,h5⟩
        clear h3 h4 h5 h2
        induction ps generalizing cs with
        | nil=>exact ⟨h1,rfl⟩
        | cons p ps ihp=>
          obtain ⟨c1,c2,e,k1,k2⟩:=h1
          exact ⟨c1,c2,[],[],e,rfl,⟨k1,rfl⟩,ihp c2 k2⟩
  obtain ⟨h1,h2,h3⟩:=key hA
  obtain ⟨sh0,hs0,hcap⟩:∃ sh0,((P.funcs[f]?).map fun fn=>fn.params.toList.mapM (shapeOf P))=some (some sh0)∧shI=sh0++o.caps:=by
    cases hf:P.funcs[f]? with
    | none=>rw [hf] at hsh; cases hsh
    | some fn=>
      rw [hf] at hsh
      simp only [Option.map_some,Option.some.injEq] at hsh
      cases hm:fn.params.toList.mapM (shapeOf P) with
      | none=>rw [hm] at hsh; cases hsh
      | some s=>rw [hm] at hsh; simp only [Option.map_some,Option.some.injEq] at hsh; exact ⟨s,by simp [hm],hsh.symm⟩
  obtain ⟨cs,E',o1,o2,e,e2,r1,r2⟩:=h3
  have h4:=r1.app (RepS.one_of hv)
  rw [List.append_nil] at h4
  have ho12:o1=[]∧o2=[]:=by simpa using e2.symm
  obtain ⟨rfl,rfl⟩:=ho12
  have hrep:RepE (w1.bd w1.S) w1.w ((ps0.map (.ro true)++[av])::asx.map (·.map (.ro true))) E oo:=⟨cs,E',oo,[],e,by simp,by simpa using h4,r2⟩
  have hXg:∀ x,w1.X x↔av.gh=some x:=fun x=>by
    rw [hX x,gh_os hgh hv]
  refine rxS (fun _ h=>by cases h) hm hr hq sh0 shI hs0 hcap h1 rfl h2 (fun i v h _=>argsR_at hA (hpre i v h)) (fun _ _ _=>False) w1.S w1.X w1.sh (hk w1 hXg hJ _ E w1.gh (fun d n Q h=>by simp at h) ⟨Bx.refl w1.bs,?_,oo,w1.S,hod,⟨fun _ h=>h,fun b h=>⟨.inl h,w1.sh b h,fun _ _ _ _=>h⟩⟩,hrep⟩)
  simp only [okE,List.map_cons,List.all_cons,Bool.and_eq_true] at hD ⊢
  rw [List.all_append]
  exact ⟨by rw [hD.1]; simp [hDa],hD.2⟩
theorem aRetM {x:SV} {avs:List AV} {Γ':List (List AV)} {sh:List (Option Nat)} {A':(Nat→Nat)→AV} {rs:(Nat→Nat)→List AV} {g:Nat} (γ:Nat→Nat) (b:Nat) (hX:∀ x,w0.X x↔some g=some x) (ht:takeL Γ x.atoms=some (avs,Γ')) (hsh:svShp x=some sh) (hr:avs.map AV.new=rs γ)
    (hl:look Γ' 0 b=some (A' γ)) (hn0:Nat.beq (A' γ).n 0=true:=by rfl) (hgh:(A' γ).gh=some g:=by rfl):AW P J w0 D (TellsM w0 A' sh rs) K Γ (.ret x):=by
  intro hJ L E u hL h0 w he hb
  have h1:=h0.ext he hb
  obtain ⟨⟨_,_,os,S,hn,hS,hr1⟩,hl'⟩:=takeL_ok h1 ht
  obtain ⟨E1,E2,o1,o2,e1,e2,h2,cs,E',o3,o4,e3,e4,h3,e5,e6⟩:=hr1.split
  have hEl:E1.length=E.length:=by rw [h2.len,hl',← h1.len]
  have hcs:cs=x.atoms.map (A.den [] E):=by
    subst e5
    rw [e3] at e1
    have:=List.append_inj e1 hEl.symm
    have:=this.2
    simp at this
    exact this.symm
  subst hcs
  obtain ⟨c,o,hv,_,hin⟩:=look_ok h2 hl
  have hc0:c=[]:=List.eq_nil_of_length_eq_zero (by rw [hv.len]; exact Nat.eq_of_beq_eq_true hn0)
  subst hc0
  have ho:∀ x,x∈o↔w0.X x:=fun x=>by rw [gh_os (by rw [hgh]; rfl) hv,hgh,hX x]
  rw [e2,e4] at hn
  have hno3:o3.Nodup:=(List.nodup_append.1 (List.nodup_append.1 hn).2.1).1
  refine ⟨_,o3,γ,S,o,by rw [ret_den hsh],hno3,fun b h=>((hS.at_ b h).1).imp id (fun h2=>⟨h2,(hS.at_ b h).2.1⟩),hS.base,by rw [← hr]; exact h3.new,fun x hx hxX=>?_,hb,hv,fun x hx=>(ho x).1 hx,?_⟩
  · have h5:=hin x ((ho x).2 hxX)
    exact (List.nodup_append.1 hn).2.2 x h5 x (List.mem_append_left _ hx) rfl
  · have:∀ {av:AV} {c:List Value} {o:List Nat},av.gh.isSome=true→RepV (w0.bd S) w av c o→o.Nodup:=by
      intro av c o hg hv
      cases av with
      | blk g r cap rows=>obtain ⟨_,_,rfl,_⟩:=hv; simp
      | map g m en=>obtain ⟨_,_,rfl,_⟩:=hv; simp
      | _=>cases hg
    exact this (by rw [hgh]; rfl) hv
theorem aRange {T kt e ty:TypeId} {q:Operand} {i j:Nat} {m:Mty} {en:Ents} {Γ':Nat→List (List AV)} (hl:(look Γ i j).bind AV.pd=some (pMap m en)) (hk:∀ g,AW P J w0 D Post K (Γ' g) k) (hT:P.underlying T=some (.map kt e):=by kernel_rfl)
    (hq:∀ E:Env,pe ([V1.s (A.c i j)].map (V1.den [] E)) q=(V1.s (A.c i j)).den [] E:=by intros; rfl) (hD:m.nu.all D=true:=by rfl)
    (hΓ:∀ g,Γ++[[.ro true (pV (.pointer (some ⟨g,0,none⟩))),.iter g m none en]]=Γ' g:=by intros; (simp only [List.cons_append,List.nil_append]) <;> exact rfl) :
    AW P J w0 D Post K Γ (.em (.wx (.range T q) ty [.s (.c i j)] (some none)) k):=by
  intro hJ L E u hL hk0 w he hbw
  have h2:=hk0.ext he hbw
  obtain ⟨hb1x,hD1,os,S,hnd,hS,hrep⟩:=id h2
  obtain ⟨c,hR,hc⟩:=look_pd hrep hl
  obtain ⟨hfit,hmap⟩:=hR
  have hlen:en.length=(leftE #[] en #[]).length→True:=fun _=>trivial
  have key:∃ o:Obj,NotCells o∧(Instr.range T ((A.c i j).den [] E)).run P w=.ok (.pointer (some ⟨w.heap.size,0,none⟩)) (w.alloc o)∧RepV (w0.bd S) (w.alloc o) (.iter w.heap.size m none en) [] [w.heap.size]:=by
    have hng:¬ S w.heap.size:=fun hs=>Nat.lt_irrefl _ (hS.at_ _ hs).2.1
    rcases hmap with ⟨rfl,rfl⟩ | ⟨b,es,clock,rfl,hb,hlim,hat⟩
    · have hd:(A.c i j).den [] E=.map none:=hc 0 _ rfl
      refine ⟨.mapIter none 0 #[] 0,notCells_iter _ _ _ _,?_,⟨hfit,fun c h=>(by cases h),rfl,rfl,⟨.inl hbw.size,hng⟩,.inl ⟨rfl,rfl,0,#[],0,heap_alloc_new w _⟩⟩⟩
      rw [hd]
      simp [Instr.range,run_underlying hT]
    · have hd:(A.c i j).den [] E=.map (some b):=hc 0 _ rfl
      have hbl:b < w.heap.size:=(Array.getElem?_eq_some_iff.1 hb).1
      refine ⟨.mapIter (some b) clock #[] clock,notCells_iter _ _ _ _,?_,⟨hfit,fun c h=>(by cases h),rfl,rfl,⟨.inl hbw.size,hng⟩,.inr ⟨b,es,clock,en,#[],heap_alloc_new w _,hlim.1,?_,hfit,?_,?_,fun c h=>(by cases h)⟩⟩⟩
      · rw [hd]
        simp [Instr.range,run_underlying hT,MapKept.run_getObj_map hb]
      · rw [heap_alloc_old w _ hbl]; exact hb
      · refine hat.imp fun e he x hx=>RL.mono (fun _ h=>h) ⟨by simp,fun b' o' hb' _=>?_⟩ (hfit e he) hx
        rw [heap_alloc_old w _ (Array.getElem?_eq_some_iff.1 hb').1]; exact hb'
      · unfold leftE
        have h5:(es.toList.zip en).filter (fun x=>!(#[]:Array Nat).contains x.1.born)=es.toList.zip en:=List.filter_eq_self.2 (fun x _=>by simp)
        rw [h5,List.map_snd_zip]
        have:=hat.len; simp; omega
  obtain ⟨o,hno,hrun,hv⟩:=key
  have hb:=bel_alloc w o
  have hr2:RepE (w0.bd S) (w.alloc o) Γ E os:=RepE.goes (B:=w0.bd S) (Goes.of_ext (u:=⟨w,u.S⟩) hS hb1x (hb1x.on hb) ((ExtS.refl D ⟨w,u.S⟩).below hb)) (Gr.refl _ _) (fun _ _ _ _ h=>h.elim) hrep hD1 (fun _ _ _ _ _ h=>h.elim) (fun _ _ h=>h)
  refine ⟨[.pointer (some ⟨w.heap.size,0,none⟩)],w.alloc o,?_,rfl,ChgS.of_below hb,hbw.on hb,hk w.heap.size hJ L _ _ hL.ext ?_⟩
  · show (execOp _ _).run P w=.ok (.value (.pointer (some ⟨w.heap.size,0,none⟩))) _
    simp only [execOp,hq E]
    have:(V1.s (A.c i j)).den [] E=(A.c i j).den [] E:=rfl
    rw [this]
    simp [hrun]
  · rw [← hΓ]
    refine ⟨hbw.on hb,?_,os++[w.heap.size],S,?_,⟨hS.base,fun b hb3=>?_⟩,hr2.snoc ⟨[.pointer (some ⟨w.heap.size,0,none⟩)],[],[],[w.heap.size],rfl,rfl,⟨⟨rfl,rfl⟩,rfl⟩,RepS.one_of hv⟩⟩
    · unfold okE at *; rw [List.all_append,hD1]; simpa [AV.okD,pV] using hD
    · exact List.nodup_append.2 ⟨hnd,by simp,fun a ha b hb e=>by have h5:a < w.heap.size:=(hrep.ge a ha).2; simp at hb; omega⟩
    · exact (hS.below hbw.size hb).at_ b (.inl hb3)
end rules
end Cin

namespace Cin
open Go Go.RowKit
open Go.ChangeMaps (setBlock)
section left
variable {es:Array MapEntry} {en:Ents} {seen:Array Nat}
theorem left_nil (h:(leftOf es seen).size=0):leftE es en seen=[]:=by
  unfold leftE
  rw [List.map_eq_nil_iff,List.filter_eq_nil_iff]
  intro x hx
  have hm:x.1∈es:=by
    have:=(List.of_mem_zip (a:=x.1) (b:=x.2) (by simpa using hx)).1
    simpa using this
  unfold leftOf at h
  have h0:es.filter (fun e=>!seen.contains e.born)=#[]:=Array.eq_empty_of_size_eq_zero h
  rw [Array.filter_eq_empty_iff] at h0
  exact h0 x.1 hm
theorem zip_split {e:MapEntry} {c:Value × List Pd}:∀ {l:List MapEntry} {en:Ents} {i:Nat},l.length=en.length→(l.map (·.born)).Nodup→l[i]?=some e→en[i]?=some c →
    ∃ A B:List (MapEntry × (Value × List Pd)),l.zip en=A++(e,c)::B∧(∀ x∈A,x.1.born≠e.born)∧∀ x∈B,x.1.born≠e.born
  | [],_,i,_,_,h,_=>by simp at h
  | a::l,[],i,h,_,_,_=>by simp at h
  | a::l,d::en,0,hl,hn,h1,h2=>by
    simp only [List.getElem?_cons_zero,Option.some.injEq] at h1 h2
    subst h1 h2
    refine ⟨[],l.zip en,rfl,(fun x hx=>by cases hx),fun x hx he=>?_⟩
    have:=(List.of_mem_zip (a:=x.1) (b:=x.2) (by simpa using hx)).1
    simp only [List.map_cons,List.nodup_cons,List.mem_map] at hn
    exact hn.1 ⟨x.1,this,he⟩
  | a::l,d::en,i+1,hl,hn,h1,h2=>by
    simp only [List.map_cons,List.nodup_cons,List.mem_map] at hn
    obtain ⟨A,B,e1,e2,e3⟩:=zip_split (l:=l) (en:=en) (i:=i) (by simpa using hl) hn.2 (by simpa using h1) (by simpa using h2)
    refine ⟨(a,d)::A,B,by rw [List.zip_cons_cons,e1]; rfl,fun x hx=>?_,e3⟩
    rcases List.mem_cons.1 hx with rfl | hx
    · intro he
      exact hn.1 ⟨e,List.mem_of_getElem? (by simpa using h1),he.symm⟩
    · exact e2 x hx
theorem left_step {e:MapEntry} {c:Value × List Pd} {i:Nat} (hl:es.size=en.length) (hn:(es.toList.map (·.born)).Nodup) (h1:es[i]?=some e) (h2:en[i]?=some c) (hs:seen.contains e.born=false) :
    ∃ l1 l2,leftE es en seen=l1++c::l2∧leftE es en (seen.push e.born)=l1++l2:=by
  obtain ⟨A,B,e1,e2,e3⟩:=zip_split (l:=es.toList) (en:=en) (i:=i) (by simpa using hl) hn (by rw [Array.getElem?_toList]; exact h1) h2
  have hpush:∀ b,(seen.push e.born).contains b=(seen.contains b || b == e.born):=fun b=>by simp; rfl
  refine ⟨(A.filter fun x=>!seen.contains x.1.born).map (·.2),(B.filter fun x=>!seen.contains x.1.born).map (·.2),?_,?_⟩
  · unfold leftE
    rw [e1,List.filter_append,List.map_append,List.filter_cons,if_pos (by rw [hs]; rfl)]; rfl
  · unfold leftE
    have hf:∀ L:List (MapEntry × (Value × List Pd)),(∀ x∈L,x.1.born≠e.born)→L.filter (fun x=>!(seen.push e.born).contains x.1.born)=L.filter fun x=>!seen.contains x.1.born:=fun L hL=>by
      refine List.filter_congr fun x hx=>?_
      rw [hpush]
      have:(x.1.born == e.born)=false:=by simpa using hL x hx
      rw [this,Bool.or_false]
    rw [e1,List.filter_append,List.map_append,hf A e2,List.filter_cons,if_neg (by rw [hpush]; simp),hf B e3]
end left
theorem mk2_den (ks sh:Option Nat) (kc x:List Value) (hk:kc.length=ks.getD 1) (hx:x.length=sh.getD 1):(svs 0 0 [ks,sh]).map (V1.den [] [kc++x])=[(v1of 0 0 ks).den [] [kc],(v1of 0 0 sh).den [] [x]]:=by
  have e1:(v1of 0 0 ks).den [] [kc++x]=(v1of 0 0 ks).den [] [kc]:=by
    cases ks with
    | none=>
      match kc,hk with
      | [c],_=>rfl
    | some n=>
      simp only [v1of,V1.den,List.map_map]
      congr 2
      refine List.map_congr_left fun j hj=>?_
      have:j < kc.length:=by
        simp only [Option.getD_some] at hk
        simp [List.mem_range'_1] at hj; omega
      simp [A.den,List.getElem?_append_left this]
  have e2:(v1of 0 (0+ks.getD 1) sh).den [] [kc++x]=(v1of 0 0 sh).den [] [x]:=by
    rw [Nat.zero_add,← hk]
    cases sh with
    | none=>
      have:=List.getElem?_append_right (l₁:=kc) (l₂:=x) (i:=kc.length) (Nat.le_refl _)
      simp [v1of,V1.den,A.den,this]
    | some n=>
      simp only [v1of,V1.den,List.map_map]
      congr 2
      refine List.ext_getElem? fun j=>?_
      simp only [List.getElem?_map]
      by_cases hj:j < n
      · rw [List.getElem?_range' hj,List.getElem?_range' hj]
        have:=List.getElem?_append_right (l₁:=kc) (l₂:=x) (i:=kc.length+j) (Nat.le_add_right _ _)
        rw [Nat.add_sub_cancel_left] at this
        simp [A.den,this]
      · rw [List.getElem?_eq_none (by simp; omega),List.getElem?_eq_none (by simp; omega)]; rfl
  simp only [svs,List.map_cons,List.map_nil,e1,e2]
section rules
variable {P:Program} {J:Jd} {w0:W0} {D:TypeId→Bool} {Post:Ending→World→Prop} {K:LK} {Γ:List (List AV)} {k:Tr}
theorem setBlock_drew {w w1:World} (h:w1=w∨w1=w.drew):w1.heap=w.heap∧(∀ B,Bx B w→Bx B w1):=by
  rcases h with rfl | rfl
  · exact ⟨rfl,fun _ h=>h⟩
  · exact ⟨rfl,fun _ h=>h.drew⟩
theorem aNext (a b:Nat) {ty:TypeId} {q:Operand} {x:V1} {g kt:Nat} {m:Mty} {cur:Option (Value × List Pd)} {left:Ents} {N:Nat} (hx:knownV Γ x=some (.pointer (some ⟨g,0,none⟩))) (hl:look Γ a b=some (.iter g m cur left)) (hK:KeyT P kt m) (hN:N=m.ks.getD 1+m.sh.getD 1)
    {Γ1:Value × List Pd→Ents→List (List AV)} {Γ2:List (List AV)} (hk1:∀ c l1 l2,left=l1++c::l2→m.kp c.1→AW P J w0 D Post K (Γ1 c (l1++l2)) k) (hk2:left=[]→AW P J w0 D Post K Γ2 k)
    (hq:∀ E:Env,pe ([x].map (V1.den [] E)) q=x.den [] E:=by intros; rfl)
    (hΓ1:∀ c l,setAt (.iter g m (some c) l) Γ a b++[[.ro true (pV (.bool true)),.junk N]]=Γ1 c l:=by intros; (simp only [setAt,setS,AV.n,List.cons_append,List.nil_append]) <;> exact rfl)
    (hΓ2:Γ++[[.ro true (pV (.bool false))]]=Γ2:=by (simp only [List.cons_append,List.nil_append]) <;> exact rfl) :
    AW P J w0 D Post K Γ (.em (.nx (.next q false) ty [x] [m.ks,m.sh]) k):=by
  intro hJ L E u hL hk0 w he hbw
  have h2:=hk0.ext he hbw
  obtain ⟨hb1x,hD1,os,S,hnd,hS,hrep⟩:=id h2
  obtain ⟨c0,oo,hv,_,_⟩:=look_ok hrep hl
  have hDa:=look_okD hD1 hl
  obtain ⟨hfl,hfc,rfl,rfl,hB,hit⟩:=hv
  have hxd:=knownV_ok hrep hx
  have hop:∀ (v:Value) (w':World),(Instr.next (.pointer (some ⟨g,0,none⟩)) false ty).run P w=.ok v w'→(execOp (pe ([x].map (V1.den [] E))) ⟨none,.next q false,ty,"",#[],none⟩).run P w=.ok (.value v) w':=fun v w' hr=>by
    simp only [execOp,hq E,hxd]
    simp [hr]
  have stop:∀ (w1:World),(w1=w∨w1=w.drew)→left=[]→(Instr.next (.pointer (some ⟨g,0,none⟩)) false ty).run P w=.ok (.tuple #[.bool false]) w1→∃ cs w',(execOp (pe ([x].map (V1.den [] E))) ⟨none,.next q false,ty,"",#[],none⟩).run P w=.ok (.value (nxV [m.ks,m.sh] cs)) w' ∧
      cs.all Value.oneCell'=true∧ChgS D (fun _=>false) u.S w w'∧Bx w0.bs w'∧((∃ r,cs=.bool true::r)∨cs=[.bool false])∧interp P w0.bs D (fun _=>false) Post k L (E++[cs]) (u.more w w'):=by
    intro w1 hw1 hnil hrun
    obtain ⟨hh,hbx⟩:=setBlock_drew hw1
    refine ⟨[.bool false],w1,hop _ _ hrun,rfl,⟨by rw [hh]; exact Nat.le_refl _,fun b c t f hb _=>by rw [hh]; exact hb⟩,hbx _ hbw,.inr rfl,hk2 hnil hJ L _ _ hL.ext ?_⟩
    rw [← hΓ2]
    have hgo:Goes (w0.bd S) (fun _=>False) D w w1:=⟨by rw [hh]; exact Nat.le_refl _,fun b _=>by rw [hh],fun b c t f hb _ _=>by rw [hh]; exact hb,fun b o hb _ _=>by rw [hh]; exact hb⟩
    have hr2:RepE (w0.bd (Gh.more ⟨w,S⟩ w w1).S) w1 Γ E os:=RepE.goes (B:=w0.bd S) hgo (Gr.more (Nat.le_refl _)) (fun _ _ _ _ h=>h.elim) hrep hD1 (fun _ _ _ _ _ h=>h.elim) (fun _ _ h=>h)
    have hS2:SOk w0 (Gh.more ⟨w,S⟩ w w1).S (u.more w w1):=hS.more hbw.size (by rw [hh]; exact Nat.le_refl _) (fun b c t f _ hc _=>⟨c,t,f,by rw [← hh]; exact hc⟩)
    exact Knows.mk1 (u:=u.more w w1) (hbx _ hb1x) hD1 hnd hS2 hr2 (RepS.one_of ⟨⟨rfl,rfl⟩,rfl⟩) rfl
  rcases hit with ⟨hn,_,s,seen,c,hg⟩ | ⟨bm,es,clock,en,seen,hg,hbl,hbm,hfe,hat,hleft,hcur⟩
  · refine stop w (.inl rfl) hn ?_
    simp only [Instr.next,getObj,Sem.run_bind,Sem.run,hg,Result.andThen]
    rfl
  · rcases run_next_at (P:=P) w ty g bm clock clock seen es clock hg hbm hat.born (Nat.le_refl _) with ⟨h0,hrun⟩ | ⟨e,hem,w1,hw1,hrun⟩
    · exact stop w (.inl rfl) (by rw [hleft]; exact left_nil h0) hrun
    · have hmem:e∈es.toList∧seen.contains e.born=false:=by
        unfold leftOf at hem
        simp only [Array.toList_filter,List.mem_filter,Bool.not_eq_true'] at hem
        exact hem
      obtain ⟨i,row,xc,hi,hei,hkp,hval,hxl,hxr⟩:=hat.mem hmem.1
      obtain ⟨l1,l2,e1,e2⟩:=left_step hat.len hat.nodup hi hei hmem.2
      obtain ⟨hh,hbx⟩:=setBlock_drew hw1
      obtain ⟨kc1,kc2,kc3⟩:=hK.cells _ hkp
      have hno:NotCells (.mapIter (some bm) clock (seen.push e.born) clock):=notCells_iter _ _ _ _
      refine ⟨.bool true::(e.key.cells.toList++xc),setBlock w1 g (.mapIter (some bm) clock (seen.push e.born) clock),?_,?_,⟨by rw [setBlock_size,hh]; exact Nat.le_refl _,fun b c t f hb _=>?_⟩,(hbx _ hbw).setBlock hB.1 _,.inl ⟨_,rfl⟩,hk1 (e.key,row) l1 l2 (by rw [hleft]; exact e1) hkp hJ L _ _ hL.ext ?_⟩
      · have hv3:nxV [m.ks,m.sh] (.bool true::(e.key.cells.toList++xc))=.tuple #[.bool true,e.key,e.val]:=by
          have h7:=mk2_den m.ks m.sh e.key.cells.toList xc kc2 hxl
          rw [kc1,← hval] at h7
          have h8:(svs 0 1 [m.ks,m.sh]).map (V1.den [] [Value.bool true::(e.key.cells.toList++xc)])=(svs 0 0 [m.ks,m.sh]).map (V1.den [] [e.key.cells.toList++xc]):=by
            have sft:∀ (i:Nat) (s:Option Nat) (l:List Value),(v1of 0 (i+1) s).den [] [Value.bool true::l]=(v1of 0 i s).den [] [l]:=fun i s l=>by
              cases s with
              | none=>simp [v1of,V1.den,A.den]
              | some n=>
                simp only [v1of,V1.den,List.map_map]
                congr 2
                refine List.ext_getElem? fun j=>?_
                simp only [List.getElem?_map]
                by_cases hj:j < n
                · rw [List.getElem?_range' hj,List.getElem?_range' hj]
                  simp only [Option.map_some,Function.comp,A.den,List.getD_cons_zero]
                  congr 1
                  rw [show i+1+1 * j=(i+1 * j)+1 by omega]
                  simp
                · rw [List.getElem?_eq_none (by simp; omega),List.getElem?_eq_none (by simp; omega)]; rfl
            simp only [svs,List.map_cons,List.map_nil]
            rw [show 1+m.ks.getD 1=(0+m.ks.getD 1)+1 by omega,sft,show (1:Nat)=0+1 from rfl,sft]
          show (SV.t (.s (.k (.bool true))::svs 0 1 [m.ks,m.sh])).den [] [_]=_
          simp only [SV.den,List.map_cons,h8,h7]
          rfl
        rw [hv3]
        exact hop _ _ hrun
      · simp only [List.all_cons,List.all_append,kc3,hxr.one]; rfl
      · rw [setBlock_other _ (fun eb=>?_),hh]; exact hb
        subst eb; rw [hg] at hb; cases hb
      · rw [← hΓ1]
        have hgo:=setBlock_goes (w0:=w0) (D:=D) (S:=S) (w:=w) (w1:=w1) hB.1 hh (.mapIter (some bm) clock (seen.push e.born) clock)
        have hne:bm≠g:=fun eb=>by subst eb; rw [hg] at hbm; cases hbm
        have hM:∀ b o,w.heap[b]?=some o→NotCells o→b=g→¬ S b:=fun b o _ _ e=>e ▸ hB.2
        have hcv:∀ b c t f,w.heap[b]?=some (Obj.cells c t f)→b=g→m.nu.contains t=false∧m.sl.contains t=false:=fun b c t f hb e=>by subst e; rw [hg] at hb; cases hb
        have hng:¬ (Gh.more ⟨w,S⟩ w (setBlock w1 g (.mapIter (some bm) clock (seen.push e.born) clock))).S g:=fun h=>h.elim hB.2 (fun h=>by have h5:w.heap.size≤g:=h.1; have h6:g < w.heap.size:=(Array.getElem?_eq_some_iff.1 hg).1; omega)
        have hgs:(setBlock w1 g (.mapIter (some bm) clock (seen.push e.born) clock)).heap[g]?=some (.mapIter (some bm) clock (seen.push e.born) clock):=setBlock_same (by rw [hh]; exact hg) _
        have hbm':(setBlock w1 g (.mapIter (some bm) clock (seen.push e.born) clock)).heap[bm]?=some (.map es clock):=by rw [setBlock_other _ hne,hh]; exact hbm
        have this:=Knows.obj (u:=u) (D:=D) (v:=.iter g m (some (e.key,row)) (l1++l2)) (o:=.mapIter (some bm) clock (seen.push e.born) clock) (hbx _ hb1x) hD1 hnd hS hrep hh hg (notCells_iter _ _ _ _) hno hB hl hDa (fun c os hc=>by
          obtain ⟨_,_,rfl,rfl,_,_⟩:=hc
          refine ⟨rfl,fun en' he'=>hfl en' ?_,fun c hc=>?_,rfl,rfl,⟨hB.1,hng⟩,.inr ⟨bm,es,clock,en,seen.push e.born,hgs,hbl.imp id (fun h=>.inl h),hbm',hfe,?_,e2.symm,fun c hc=>?_⟩⟩
          · rw [hleft,e1]; simp at he' ⊢; rcases he' with h | h <;> simp [h]
          · cases hc; exact fun en' he'=>by simp at he'; subst he'; exact hfe _ (List.mem_of_getElem? hei)
          · exact hat.imp fun en' he' x hx=>Goes.rl (B:=w0.bd S) hgo (fun _ h=>.inl h) hDa hcv hM (hfe en' he') hx
          · cases hc; exact ⟨i,e,hi,hei,by simp⟩)
        have hS2:SOk w0 (Gh.more ⟨w,S⟩ w (setBlock w1 g (.mapIter (some bm) clock (seen.push e.born) clock))).S (u.more w (setBlock w1 g (.mapIter (some bm) clock (seen.push e.born) clock))):=hS.more hbw.size (by rw [setBlock_size,hh]; exact Nat.le_refl _) (fun b c t f _ hc _=>by
          by_cases eb:b=g
          · subst eb; rw [hgs] at hc; cases hc
          · rw [setBlock_other _ eb,hh] at hc; exact ⟨_,_,_,hc⟩)
        refine this.snoc (fun os S' hS' hr=>⟨[],⟨[.bool true],e.key.cells.toList++xc,[],[],rfl,rfl,⟨⟨rfl,rfl⟩,rfl⟩,RepS.one_of ⟨?_,?_,rfl⟩⟩,List.nodup_nil,fun g hg=>by cases hg⟩) (by simp [AV.okD,pV])
        · rw [hN,List.length_append,kc2,hxl]
        · rw [List.all_append,kc3,hxr.one]; rfl
theorem aEntry (a b:Nat) {ty:TypeId} {q:Operand} {x:V1} {g kt:Nat} {m:Mty} {c:Value × List Pd} {left:Ents} {Γ':List (List AV)} (hx:knownV Γ x=some (.pointer (some ⟨g,0,none⟩))) (hl:look Γ a b=some (.iter g m (some c) left)) (hK:KeyT P kt m)
    (hk:AW P J w0 D Post K Γ' k) (hq:∀ E:Env,pe ([x].map (V1.den [] E)) q=x.den [] E:=by intros; rfl)
    (hΓ:Γ++[c.1.cells.toList.map (fun v=>.ro true (pV v))++c.2.map (.ro false)]=Γ':=by (simp only [List.cons_append,List.nil_append]) <;> exact rfl) :
    AW P J w0 D Post K Γ (.em (.lt (.entry q) ty [x] [m.ks,m.sh]) k):=by
  intro hJ L E u hL hk0
  obtain ⟨hb1x,hD1,os,S,hnd,hS,hrep⟩:=id hk0
  obtain ⟨c0,oo,hv,_,_⟩:=look_ok hrep hl
  have hDa:=look_okD hD1 hl
  obtain ⟨hfl,hfc,rfl,rfl,hB,hit⟩:=hv
  have hxd:=knownV_ok hrep hx
  rcases hit with ⟨_,h0,_⟩ | ⟨bm,es,clock,en,seen,hg,hbl,hbm,hfe,hat,hleft,hcur⟩
  · cases h0
  · obtain ⟨i,e,hi,hei,hbk⟩:=hcur c rfl
    obtain ⟨row,xc,hkp,hkey,hval,hxl,hxr⟩:∃ row xc,m.kp c.1∧e.key=c.1∧e.val=(v1of 0 0 m.sh).den [] [xc]∧xc.length=m.sh.getD 1∧RL (w0.bd S).nn u.w c.2 xc∧row=c.2:=by
      obtain ⟨h1,e',x,h2,h3,h4,h5,h6⟩:=hat.at_ i c.1 c.2 hei
      rw [hi] at h2
      cases h2
      exact ⟨_,x,h1,h3,h4,h5,h6,rfl⟩
    obtain ⟨kc1,kc2,kc3⟩:=hK.cells _ hkp
    refine ⟨c.1.cells.toList++xc,by rw [List.all_append,kc3,hxr.1.one]; rfl,fun w he hb=>?_,hk hJ L _ u hL.ext (hΓ ▸ Knows.mk1 hb1x hD1 hnd hS hrep ?_ ?_)⟩
    · have hg':w.heap[g]?=some (.mapIter (some bm) clock seen clock):=he.obj g _ hg (notCells_iter _ _ _ _)
      have hbm':w.heap[bm]?=some (.map es clock):=he.obj bm _ hbm (notCells_map _ _)
      have hf:es.find? (·.born == e.born)=some e:=by
        rw [← Array.find?_toList]
        exact find_born e es.toList hat.nodup (by rw [← Array.getElem?_toList] at hi; exact List.mem_of_getElem? hi)
      have hden:(mkSV [m.ks,m.sh] 0).den [] [c.1.cells.toList++xc]=.tuple #[e.key,e.val]:=by
        have h7:=mk2_den m.ks m.sh c.1.cells.toList xc kc2 hxl
        simp only [mkSV,SV.den,h7,kc1,hkey,hval]
      rw [hden]
      simp only [execOp,hq E,hxd]
      have hrun:(Instr.entry (.pointer (some ⟨g,0,none⟩))).run P w=.ok (.tuple #[e.key,e.val]) w:=by
        simp only [Instr.entry,getObj,Sem.run_bind,Sem.run,hg',hbm',Result.andThen,hbk,bne_self_eq_false,Bool.false_eq_true,if_false,hf]
        rfl
      simp [hrun]
    · refine RepS.app (o:=[]) (o':=[]) ?_ (RL.slot (B:=w0.bd S) (o:=false) hxr.1)
      have:∀ {zs:List Value},zs.all Value.oneCell'=true→RepS (w0.bd S) u.w (zs.map fun v=>.ro true (pV v)) zs []:=by
        intro zs
        induction zs with
        | nil=>intro _; exact ⟨rfl,rfl⟩
        | cons z zs ih=>
          intro h
          simp only [List.all_cons,Bool.and_eq_true] at h
          exact ⟨[z],zs,[],[],rfl,rfl,⟨⟨rfl,h.1⟩,rfl⟩,ih h.2⟩
      exact this kc3
    · rw [List.all_append,MapIn.fit_okD (hfc c rfl c (by simp)) hDa]
      simp [AV.okD,pV]
theorem aFreeze (i j a b:Nat) {g:Nat} {m:Mty} {en:Ents} {Γ':List (List AV)} (hl:look Γ a b=some (.map g m en)) (hv:look (junkAt Γ a b) i j=some (.ro true (pV (.map (some g))))) (hX:∀ x,¬ w0.X x) (hk:AW P J w0 D Post K Γ' k)
    (hΓ:setAt (.ro false (pMap m en)) (junkAt Γ a b) i j=Γ':=by (simp only [setAt,setS,junkAt,junkS,AV.n,List.cons_append,List.nil_append]) <;> exact rfl):AW P J w0 D Post K Γ k:=by
  intro hJ L E u hL ⟨hbx,hD,os,S,hn,hS,hr⟩
  obtain ⟨c,o1,o,o2,eo,hv1,_,hr1⟩:=junkAt_get hr hl
  have hDa:=look_okD hD hl
  obtain ⟨hf,rfl,rfl,hB,es,clock,hg,hat⟩:=hv1
  have hgs:g < u.w.heap.size:=(Array.getElem?_eq_some_iff.1 hg).1
  have hgn:w0.w.heap.size≤g:=hB.1.elim id (fun h=>absurd h (hX g))
  let S':Nat→Prop:=fun x=>S x∨x=g
  have hng:∀ x∈o1++o2,¬ S x→¬ S' x:=fun x hx hs h=>by
    rcases h with h | rfl
    · exact hs h
    · rw [eo] at hn
      simp only [List.nodup_append,List.mem_append] at hn
      rcases List.mem_append.1 hx with h | h
      · exact hn.1.2.2 x h x (by simp) rfl
      · exact hn.2.2 x (.inr (by simp)) x h rfl
  have hr2:RepE (w0.bd S') u.w (junkAt Γ a b) E (o1++o2):=RepE.more (B:=w0.bd S) (fun _ h=>.inl h) hng hr1
  obtain ⟨c',q1,q,q2,eq,hv',hc',hr3⟩:=junkAt_get hr2 hv
  obtain ⟨⟨rfl,_⟩,rfl⟩:=hv'
  have hro:RepV (w0.bd S') u.w (.ro false (pMap m en)) [.map (some g)] []:=
    ⟨⟨hf,.inr ⟨g,es,clock,rfl,hg,⟨.inr (.inr rfl),fun B hB=>(by cases hB)⟩,hat.more (B:=w0.bd S) (S:=S') (fun _ h=>.inl h) hf⟩⟩,rfl⟩
  obtain ⟨p1,s1,r1⟩:=setAt_back (B:=w0.bd S') (v:=.ro false (pMap m en)) hr3 hv rfl hro hc'
  refine hk hJ L E u hL ?_
  rw [← hΓ]
  refine ⟨hbx,setAt_okE (v:=.ro false (pMap m en)) hDa (junkAt_okE hD),p1,S',?_,⟨fun x h=>.inl (hS.base x h),fun x hx=>?_⟩,r1⟩
  · rw [s1.nodup_iff,List.append_nil]
    have e1:q1++q2=o1++o2:=by rw [eq]; simp
    rw [e1]
    rw [eo] at hn
    refine List.Nodup.sublist ?_ hn
    rw [List.append_assoc]
    exact List.Sublist.append_left (List.sublist_append_right _ _) _
  · rcases hx with hx | rfl
    · exact hS.at_ x hx
    · exact ⟨.inr hgn,hgs,fun c t f hc=>by rw [hg] at hc; cases hc⟩
end rules
theorem aCtX (o:Opt) {P:Program} {J:Jd} {f:FuncId} {shI:List (Option Nat)} {asx:List (List Pd)} {sh:List (Option Nat)} {rs:(Nat→Nat)→List AV} {D:TypeId→Bool} {tr:Tr} (hm:P.follows .mixedOrders=true) (hr:rowOf P D f o=some tr)
    (hq:(eqsOf P D f o).map (·.1)=(eqsOf P D f o).map (·.2)) (hsh:((P.funcs[f]?).map fun fn=>(fn.params.toList.mapM (shapeOf P)).map (·++o.caps))=some (some shI)) (hD:okE D (asx.map (·.map (.ro true)))=true) (hpre:preA o asx) {Γ:List (List AV)}
    (hk:∀ w0:W0,(∀ x,¬ w0.X x)→AW P J w0 D (TellsA w0 sh rs) [] Γ tr) (hΓ:asx.map (·.map (.ro true))=Γ:=by (simp only [List.map_cons,List.map_nil]) <;> exact rfl):Ct P J f shI asx sh rs:=by
  subst hΓ
  intro w1 E hX hJ hA
  have key:∀ {shI:List (Option Nat)} {asx:List (List Pd)} {E:Env},ArgsR w1.lim w1.w shI asx E→E.length=shI.length∧(E.all fun cs=>cs.all Value.oneCell')=true∧RepE (w1.bd w1.S) w1.w (asx.map (·.map (.ro true))) E []:=by
    intro shI
    induction shI with
    | nil=>
      intro asx E h
      cases asx with
      | nil=>rw [show E=[] from h]; exact ⟨rfl,rfl,rfl,rfl⟩
      | cons _ _=>exact h.elim
    | cons s shI ih=>
      intro asx E h
      cases asx with
      | nil=>exact h.elim
      | cons ps asx=>
        obtain ⟨cs,E',rfl,h0,h1,h2⟩:=h
        obtain ⟨h3,h4,h5⟩:=ih h2
        clear h0
        refine ⟨by simp [h3],by simp only [List.all_cons,h1.one,h4]; rfl,cs,E',[],[],rfl,rfl,?_,h5⟩
        clear h3 h4 h5 h2
        induction ps generalizing cs with
        | nil=>exact ⟨h1,rfl⟩
        | cons p ps ihp=>
          obtain ⟨c1,c2,e,k1,k2⟩:=h1
          exact ⟨c1,c2,[],[],e,rfl,⟨k1,rfl⟩,ihp c2 k2⟩
  obtain ⟨h1,h2,h3⟩:=key hA
  obtain ⟨sh0,hs0,hcap⟩:∃ sh0,((P.funcs[f]?).map fun fn=>fn.params.toList.mapM (shapeOf P))=some (some sh0)∧shI=sh0++o.caps:=by
    cases hf:P.funcs[f]? with
    | none=>rw [hf] at hsh; cases hsh
    | some fn=>
      rw [hf] at hsh
      simp only [Option.map_some,Option.some.injEq] at hsh
      cases hm:fn.params.toList.mapM (shapeOf P) with
      | none=>rw [hm] at hsh; cases hsh
      | some s=>rw [hm] at hsh; simp only [Option.map_some,Option.some.injEq] at hsh; exact ⟨s,by simp [hm],hsh.symm⟩
  exact rxS (fun _ h=>by cases h) hm hr hq sh0 shI hs0 hcap h1 rfl h2 (fun i v h _=>argsR_at hA (hpre i v h)) (fun _ _ _=>False) w1.S w1.X w1.sh (hk w1 hX (JJ.of hX hJ) _ E w1.gh (fun d n Q h=>by simp at h) ⟨Bx.refl w1.bs,hD,[],w1.S,List.nodup_nil,⟨fun _ h=>h,fun b h=>⟨.inl h,w1.sh b h,fun _ _ _ _=>h⟩⟩,h3⟩)
end Cin

namespace Go.Proofs.YthffkbbcofbceaaGreatDoor
open Go Go.RowKit Cin
def DP:TypeId→Bool:=fun t=>t == 202 || t == 1000000+76 || t == 1000000+82 || t == 1000000+98 || t == 1000000+74 || t == 1000000+153 || t == 1000000+154 || t == 1000000+155 || t == 1000000+156 || t == 1000000+157 || t == 1000000+158 || t == 1000000+159 || t == 1000000+160 || t == 1000000+192 || t == 1000000+196 || t == 1000000+195 || t == 1000000+216 || t == 1000000+118 || t == 2000000+29
theorem laidOut:laidOutB Tryz.prog=true:=by kernel_rfl
abbrev mVal (m:M):Value:=.agg #[.int .u8 (m.1:Nat),.int .u8 (m.2.1:Nat),.int .u8 (m.2.2:Nat)]
def cM:Mty:=⟨some 3,some 4,[202],[],fun v=>∃ m:M,m.ok∧v=mVal m⟩
theorem mVal_inj {a b:M} (h:mVal a=mVal b):a=b:=by
  simp only [mVal,Value.agg.injEq,Array.mk.injEq,List.cons.injEq,Value.int.injEq,true_and,and_true] at h
  obtain ⟨h1,h2,h3⟩:=h
  exact Prod.ext (by omega) (Prod.ext (by omega) (by omega))
theorem u8_wf {n:Nat} (h:n≤255):(Lit.int .u8 (n:Nat)).wf=true:=by
  simp only [Lit.wf,IntKind.min,IntKind.max,IntKind.bits,IntKind.signed]
  simp
  omega
theorem key_lit (m:M) (h:m.ok):∃ l,keyOf Tryz.prog 25 (mVal m)=some l:=by
  have e1:Tryz.prog.underlying 25=some (.array 3 5):=by kernel_rfl
  have e2:Tryz.prog.underlying 5=some (.int .u8):=by kernel_rfl
  have e3:Tryz.prog.cellsOf 25=3:=by kernel_rfl
  have e4:Tryz.prog.cellsOf 5=1:=by kernel_rfl
  have e5:Tryz.prog.keyType 25=true:=by kernel_rfl
  have hs:1≤Tryz.prog.types.size:=of_decide_eq_true (by kernel_rfl)
  obtain ⟨d,hd⟩:=Nat.exists_eq_add_of_le hs
  have hd:Tryz.prog.types.size+1=d+1+1:=by omega
  have hw:=fun (n:Nat) (hn:n≤255)=>u8_wf hn
  unfold keyOf
  rw [e1]
  simp only [e5,Value.formed,e1,e3,hd]
  obtain ⟨h0,h1,h2⟩:=h
  simp [Program.keyLits,e1,Value.cells,e3,e4,List.range,List.range.loop,hw _ h0,hw _ h1,hw _ h2]
theorem cK:KeyT Tryz.prog 25 cM where
  K:=Maps.Keyed.of_law (deep_law_laid laidOut (m:=2) (by omega) (of_decide_eq_true (by kernel_rfl)) (by kernel_rfl) (by kernel_rfl))
  lit:=fun v ⟨m,hm,e⟩=>e ▸ key_lit m hm
  cells:=fun v ⟨m,hm,e⟩=>by subst e; exact ⟨rfl,rfl,rfl⟩
def entsP (l:PolyL) (k:Nat):Ents:=l.map fun x=>(mVal x.1,[pQ x.2 k])
theorem entsP_len (l:PolyL) (k:Nat):(entsP l k).length=l.length:=List.length_map _
theorem entsP_mem {l:PolyL} {k:Nat} {v:Value} {row:List Pd} (h:(v,row)∈entsP l k):∃ x∈l,v=mVal x.1∧row=[pQ x.2 k]:=by
  obtain ⟨x,hx,e⟩:=List.mem_map.1 h
  cases e
  exact ⟨x,hx,rfl,rfl⟩
theorem entsP_fit (l:PolyL) (k:Nat):cM.Fit (entsP l k):=fun e he p hp=>by
  obtain ⟨x,hx,h1,h2⟩:=entsP_mem (v:=e.1) (row:=e.2) he
  rw [h2,List.mem_singleton] at hp
  subst hp
  exact ⟨fun t h=>h,fun t h=>h⟩
theorem entsP_put {l:PolyL} {k:Nat} {m:M} {c:Rat} {en:Ents} (h:PutE (entsP l k) (mVal m) [pQ c k] en) (hn:(l.map (·.1)).Nodup) :
    ((∀ x∈l,x.1≠m)→en=entsP (l++[(m,c)]) k)∧∀ (i:Nat) (x:M × Rat),l[i]?=some x→x.1=m→en=entsP (l.set i (m,c)) k:=by
  rcases h with ⟨i,row0,h1,rfl⟩ | ⟨h1,rfl⟩
  · simp only [entsP,List.getElem?_map,Option.map_eq_some_iff] at h1
    obtain ⟨y,hy,e⟩:=h1
    simp only [Prod.mk.injEq] at e
    have e:=mVal_inj e.1
    refine ⟨fun h=>absurd e (h y (List.mem_of_getElem? hy)),fun j x hx hxm=>?_⟩
    have:i=j:=by
      have a1:(l.map (·.1))[i]?=some m:=by rw [List.getElem?_map,hy]; simp [e]
      have a2:(l.map (·.1))[j]?=some m:=by rw [List.getElem?_map,hx]; simp [hxm]
      exact (List.getElem?_inj (List.getElem?_eq_some_iff.1 a1).1 hn).1 (a1.trans a2.symm)
    subst this
    simp [entsP,List.map_set]
  · refine ⟨fun _=>by simp [entsP],fun i x hx hxm=>absurd (List.mem_map.2 ⟨x,List.mem_of_getElem? hx,by rw [hxm]⟩) (h1 [pQ x.2 k])⟩
theorem map_erase {α β:Type} (f:α→β):∀ (l:List α) (i:Nat),(l.map f).eraseIdx i=(l.eraseIdx i).map f
  | [],_=>rfl
  | _::_,0=>rfl
  | x::l,i+1=>by simp [map_erase f l i]
theorem entsP_del {l:PolyL} {k:Nat} {m:M} {en:Ents} (h:DelE (entsP l k) (mVal m) en) (hn:(l.map (·.1)).Nodup) :
    ((∀ x∈l,x.1≠m)→en=entsP l k)∧∀ (i:Nat) (x:M × Rat),l[i]?=some x→x.1=m→en=entsP (l.eraseIdx i) k:=by
  rcases h with ⟨i,row0,h1,rfl⟩ | ⟨h1,rfl⟩
  · simp only [entsP,List.getElem?_map,Option.map_eq_some_iff] at h1
    obtain ⟨y,hy,e⟩:=h1
    simp only [Prod.mk.injEq] at e
    have e:=mVal_inj e.1
    refine ⟨fun h=>absurd e (h y (List.mem_of_getElem? hy)),fun j x hx hxm=>?_⟩
    have:i=j:=by
      have a1:(l.map (·.1))[i]?=some m:=by rw [List.getElem?_map,hy]; simp [e]
      have a2:(l.map (·.1))[j]?=some m:=by rw [List.getElem?_map,hx]; simp [hxm]
      exact (List.getElem?_inj (List.getElem?_eq_some_iff.1 a1).1 hn).1 (a1.trans a2.symm)
    subst this
    simp [entsP,map_erase]
  · refine ⟨fun _=>rfl,fun i x hx hxm=>absurd (List.mem_map.2 ⟨x,List.mem_of_getElem? hx,by rw [hxm]⟩) (h1 [pQ x.2 k])⟩
abbrev pMapP (l:PolyL) (k:Nat):Pd:=pMap cM (entsP l k)
def pP (p:PolyL) (k:Nat):Pd where
  n:=1
  nu:=[202]
  sl:=[]
  kv:=none
  R l w cs:=∃ q:PolyL,q.Perm p∧(pMapP q k).R l w cs
  kv_ok e:=by cases e
  len:=fun ⟨_,_,h⟩=>(pMapP _ k).len h
  one:=fun ⟨_,_,h⟩=>(pMapP _ k).one h
  mono:=fun hS hk ⟨q,hq,h⟩=>⟨q,hq,(pMapP q k).mono hS hk h⟩
  lim:=fun ⟨q,hq,h⟩=>⟨q,hq,(pMapP q k).lim h⟩
  up:=fun hB ⟨q,hq,h⟩=>⟨q,hq,(pMapP q k).up hB h⟩
  all:=fun ha ⟨q,hq,h⟩=>⟨q,hq,(pMapP q k).all ha h⟩
theorem ConvS.shut {o:Bool} {q p:PolyL} {k:Nat} {a b:List AV} (hq:q.Perm p) (h:ConvS a b):ConvS (.ro o (pMapP q k)::a) (.ro o (pP p k)::b):=fun B w _ _ ⟨c1,c2,o1,o2,e,e2,⟨h1,h3⟩,h2⟩=>
  ⟨c1,c2,o1,o2,e,e2,⟨⟨q,hq,h1⟩,h3⟩,h B w _ _ h2⟩
theorem ConvS.qfit {o:Bool} {q:Rat} {k k':Nat} {a b:List AV} (hf:fitQ k' q) (h:ConvS a b):ConvS (.ro o (pQ q k)::a) (.ro o (pQ q k')::b):=fun B w _ _ ⟨c1,c2,o1,o2,e,e2,⟨⟨x,y,z,u,e3,h1⟩,h3⟩,h2⟩=>
  ⟨c1,c2,o1,o2,e,e2,⟨⟨x,y,z,u,e3,h1.cut hf.1 hf.2⟩,h3⟩,h B w _ _ h2⟩
theorem ConvS.nilP {o:Bool} {p:PolyL} {k:Nat} {a b:List AV} (hp:p=[]) (h:ConvS a b):ConvS (.ro o (pV (.map none))::a) (.ro o (pP p k)::b):=fun B w _ _ ⟨c1,c2,o1,o2,e,e2,⟨h1,h3⟩,h2⟩=>by
  subst hp
  exact ⟨c1,c2,o1,o2,e,e2,⟨⟨[],List.Perm.refl _,entsP_fit [] k,.inl ⟨h1.1,rfl⟩⟩,h3⟩,h B w _ _ h2⟩
section rules
variable {P:Program} {J:Jd} {w0:W0} {D:TypeId→Bool} {Post:Ending→World→Prop} {K:LK} {Γ:List (List AV)} {k:Tr}
theorem aOpen (i j:Nat) {p:PolyL} {n:Nat} {o:Bool} {Γ':PolyL→List (List AV)} (hl:Cin.look Γ i j=some (.ro o (pP p n))) (hD:D 202=true) (hk:∀ q:PolyL,q.Perm p→AW P J w0 D Post K (Γ' q) k)
    (hΓ:∀ q,setAt (.ro o (pMapP q n)) Γ i j=Γ' q:=by intros; (simp only [setAt,setS]) <;> exact rfl):AW P J w0 D Post K Γ k:=by
  intro hJ L E u hL ⟨hbx,hD1,os,S,hn,hS,hr⟩
  obtain ⟨c,o1,o',o2,eo,hv1,hc,hr1⟩:=junkAt_get hr hl
  obtain ⟨⟨q,hq,hR⟩,rfl⟩:=hv1
  obtain ⟨p1,s1,r1⟩:=setAt_back (B:=w0.bd S) (v:=.ro o (pMapP q n)) hr1 hl rfl ⟨hR,rfl⟩ hc
  refine hk q hq hJ L E u hL (hΓ q ▸ ⟨hbx,setAt_okE (by simp [AV.okD,pMap,cM,hD]) hD1,p1,S,?_,hS,r1⟩)
  rw [s1.nodup_iff,List.append_nil]
  subst eo
  simpa using hn
end rules
end Go.Proofs.YthffkbbcofbceaaGreatDoor
