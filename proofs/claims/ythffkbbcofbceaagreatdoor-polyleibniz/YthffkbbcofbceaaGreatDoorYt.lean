/- Rules for rows under what is known of each slot. No program. -/
import Derived.Test.YthffkbbcofbceaaGreatDoorYs
namespace Cin
open Go Go.RowKit
def lookS:List AV→Nat→Option AV
  | [],_=>none
  | a::_,0=>some a
  | a::r,k+1=>bif Nat.ble a.n (k+1) then lookS r (k+1 - a.n) else none
def look (Γ:List (List AV)) (i k:Nat):Option AV:=match Γ[i]? with | some s=>lookS s k | none=>none
section
variable {B:Bd} {w:World}
theorem lookS_ok:∀ {s:List AV} {k:Nat} {a:AV} {cs:List Value} {os:List Nat},RepS B w s cs os→lookS s k=some a→∃ pre c post o1 o o2,cs=pre++c++post∧pre.length=k∧os=o1++o++o2∧RepV B w a c o
  | [],_,_,_,_,_,h=>by simp [lookS] at h
  | a::r,0,b,_,_,⟨c1,c2,o1,o2,e,e2,h1,h2⟩,h=>by
    simp only [lookS,Option.some.injEq] at h
    subst h
    exact ⟨[],c1,c2,[],o1,o2,by rw [e]; rfl,rfl,by rw [e2]; rfl,h1⟩
  | a::r,k+1,b,_,_,⟨c1,c2,o1,o2,e,e2,h1,h2⟩,h=>by
    simp only [lookS] at h
    cases hb:Nat.ble a.n (k+1) with
    | false=>rw [hb] at h; cases h
    | true=>
      rw [hb] at h
      have hle:a.n≤k+1:=Nat.le_of_ble_eq_true hb
      obtain ⟨pre,c,post,p1,p,p2,e3,e4,e5,h3⟩:=lookS_ok h2 h
      exact ⟨c1++pre,c,post,o1++p1,p,p2,by rw [e,e3]; simp,by rw [List.length_append,h1.len,e4]; omega,by rw [e2,e5]; simp,h3⟩
theorem repE_at:∀ {Γ:List (List AV)} {i:Nat} {s:List AV} {E:Env} {os:List Nat},RepE B w Γ E os→Γ[i]?=some s→∃ cs o1 o o2,E[i]?=some cs∧os=o1++o++o2∧RepS B w s cs o
  | [],_,_,_,_,_,h=>by simp at h
  | s::Γ,0,t,_,_,⟨cs,E',o1,o2,e,e2,h1,h2⟩,h=>by
    simp only [List.getElem?_cons_zero,Option.some.injEq] at h
    subst h
    exact ⟨cs,[],o1,o2,by rw [e]; rfl,by rw [e2]; rfl,h1⟩
  | s::Γ,i+1,t,_,_,⟨cs,E',o1,o2,e,e2,h1,h2⟩,h=>by
    obtain ⟨cs',p1,p,p2,e3,e4,h3⟩:=repE_at h2 (i:=i) (by simpa using h)
    exact ⟨cs',o1++p1,p,p2,by rw [e]; simpa using e3,by rw [e2,e4]; simp,h3⟩
theorem look_ok {Γ:List (List AV)} {i k:Nat} {a:AV} {E:Env} {os:List Nat} (h:RepE B w Γ E os) (hl:look Γ i k=some a) :
    ∃ c o,RepV B w a c o∧(∀ (j:Nat) (v:Value),c[j]?=some v→(E.getD i []).getD (k+j) (.bool false)=v)∧∀ g∈o,g∈os:=by
  unfold look at hl
  cases hs:Γ[i]? with
  | none=>rw [hs] at hl; cases hl
  | some s=>
    rw [hs] at hl
    obtain ⟨cs,o1,o,o2,e,e2,h1⟩:=repE_at h hs
    obtain ⟨pre,c,post,p1,p,p2,e3,e4,e5,h2⟩:=lookS_ok h1 hl
    refine ⟨c,p,h2,fun j v hj=>?_,fun g hg=>by rw [e2,e5]; simp [hg]⟩
    have hjl:=(List.getElem?_eq_some_iff.1 hj).1
    rw [List.getD_eq_getElem?_getD,List.getD_eq_getElem?_getD,e,Option.getD_some,e3,List.append_assoc,List.getElem?_append_right (by omega),List.getElem?_append_left (by omega),e4,show k+j - k=j by omega,hj]
    rfl
end
def eat (i:Nat):Nat→Nat→List A→Option (List A)
  | _,0,r=>some r
  | k,n+1,.c i' k'::r=>bif Nat.beq i' i && Nat.beq k' k then eat i (k+1) n r else none
  | _,_+1,_=>none
theorem eat_ok (i:Nat):∀ {n k:Nat} {l r:List A},eat i k n l=some r→∃ p,l=p++r∧p.length=n∧∀ (j:Nat) (a:A),p[j]?=some a→a=A.c i (k+j)
  | 0,k,l,r,h=>by
    have:l=r:=by cases l <;> simpa [eat] using h
    exact ⟨[],by simp [this],rfl,fun j a hj=>by simp at hj⟩
  | n+1,k,[],r,h=>by simp [eat] at h
  | n+1,k,.k v::l,r,h=>by simp [eat] at h
  | n+1,k,.p j o::l,r,h=>by simp [eat] at h
  | n+1,k,.c i' k'::l,r,h=>by
    simp only [eat] at h
    cases hb:(Nat.beq i' i && Nat.beq k' k) with
    | false=>rw [hb] at h; cases h
    | true=>
      rw [hb] at h
      simp only [Bool.and_eq_true,Nat.beq_eq] at hb
      obtain ⟨p,e,hl,hp⟩:=eat_ok i (n:=n) (k:=k+1) h
      refine ⟨.c i' k'::p,by rw [e]; rfl,by simp [hl],fun j a hj=>?_⟩
      cases j with
      | zero=>simp at hj; rw [← hj,hb.1,hb.2]; rfl
      | succ j=>rw [hp j a (by simpa using hj)]; congr 1; omega
theorem eat_den {B:Bd} {i k n:Nat} {w:World} {l r:List A} {a:AV} {E:Env} {c:List Value} {o:List Nat} (he:eat i k n l=some r) (hn:a.n=n) (hr:RepV B w a c o) (hc:∀ (j:Nat) (v:Value),c[j]?=some v→(E.getD i []).getD (k+j) (.bool false)=v) :
    l.map (A.den [] E)=c++r.map (A.den [] E):=by
  obtain ⟨p,e,hl,hp⟩:=eat_ok i he
  rw [e,List.map_append]
  congr 1
  refine List.ext_getElem? fun j=>?_
  rw [List.getElem?_map]
  have hcl:=hr.len
  by_cases hj:j < n
  · have h1:j < p.length:=by omega
    have h2:j < c.length:=by omega
    rw [List.getElem?_eq_getElem h1,List.getElem?_eq_getElem h2,Option.map_some,hp j _ (List.getElem?_eq_getElem h1)]
    exact congrArg some (hc j _ (List.getElem?_eq_getElem h2))
  · rw [List.getElem?_eq_none (by omega),List.getElem?_eq_none (by omega)]; rfl
def AV.pd:AV→Option Pd
  | .ro _ p=>some p
  | .own _ r rows=>some (pRows r rows)
  | _=>none
theorem OwnR.rows {B:Bd} {g:Nat} {r:Rty} {rows:List (List Pd)} {w:World} {cs:List Value} {os:List Nat} (h:OwnR B g r rows w cs os):(pRows r rows).R B.nn w cs:=by
  refine ⟨h.1,?_⟩
  rcases h.2 with ⟨rfl,rfl,_⟩ | ⟨cap,cur,e,ho,hB,hg,i1,i2,i3,hrow⟩
  · exact .inl ⟨none,0,rfl,fun _=>rfl,rfl⟩
  · exact .inr ⟨g,0,cap,cur,r.t,_,e,hg,⟨.inr ⟨rfl,hB.2⟩,fun B hB=>(by cases hB)⟩,⟨i1,i2⟩,hrow⟩
theorem AV.pd_ok {B:Bd} {w:World} {a:AV} {p:Pd} {cs:List Value} {os:List Nat} (hp:a.pd=some p) (h:RepV B w a cs os):p.R B.nn w cs:=by
  cases a with
  | ro old q=>
    cases hp
    have:=h.1
    cases old with
    | true=>exact p.lim this
    | false=>exact this
  | own g r rows=>cases hp; exact OwnR.rows h
  | var g r row=>cases hp
  | junk n=>cases hp
  | map g m en=>cases hp
  | iter g m c l=>cases hp
  | blk g r cap rows=>cases hp
theorem AV.pd_n {a:AV} {p:Pd} (hp:a.pd=some p):a.n=p.n:=by
  cases a with
  | ro old q=>cases hp; rfl
  | own g r rows=>cases hp; rfl
  | var g r row=>cases hp
  | junk n=>cases hp
  | map g m en=>cases hp
  | iter g m c l=>cases hp
  | blk g r cap rows=>cases hp
def gath (Γ:List (List AV)):Nat→List A→Option (List Pd)
  | _,[]=>some []
  | 0,_::_=>none
  | f+1,.k v::r=>bif v.oneCell' then (match gath Γ f r with | some ps=>some (pV v::ps) | none=>none) else none
  | f+1,.c i k::r=>(match look Γ i k with
    | some a=>(match a.pd with
      | some p=>(match eat i k p.n (.c i k::r) with
        | some r'=>(match gath Γ f r' with | some ps=>some (p::ps) | none=>none)
        | none=>none)
      | none=>none)
    | none=>none)
  | _+1,.p _ _::_=>none
theorem gath_ok {B:Bd} {w:World} {Γ:List (List AV)} {E:Env} {os:List Nat} (hr:RepE B w Γ E os):∀ {f:Nat} {l:List A} {ps:List Pd},gath Γ f l=some ps→RL B.nn w ps (l.map (A.den [] E))
  | f,[],ps,h=>by
    have:ps=[]:=by cases f <;> simpa [gath,eq_comm] using h
    subst this; rfl
  | 0,_::_,ps,h=>by simp [gath] at h
  | f+1,.k v::r,ps,h=>by
    simp only [gath] at h
    cases hv:v.oneCell' with
    | false=>rw [hv] at h; cases h
    | true=>
      rw [hv] at h
      simp only [cond_true] at h
      split at h
      · rename_i qs hq
        cases h
        exact ⟨[v],r.map (A.den [] E),rfl,⟨rfl,hv⟩,gath_ok hr hq⟩
      · cases h
  | f+1,.c i k::r,ps,h=>by
    simp only [gath] at h
    split at h
    · rename_i a ha
      split at h
      · rename_i p hp
        split at h
        · rename_i r' he
          split at h
          · rename_i qs hq
            cases h
            obtain ⟨c,o,h1,h2,_⟩:=look_ok hr ha
            exact ⟨c,r'.map (A.den [] E),eat_den he (AV.pd_n hp) h1 h2,AV.pd_ok hp h1,gath_ok hr hq⟩
          · cases h
        · cases h
      · cases h
    · cases h
  | f+1,.p _ _::_,ps,h=>by simp [gath] at h
def V1.shp:V1→Option Nat
  | .s _=>none
  | .g l=>some l.length
def gathL (Γ:List (List AV)):List V1→Option (List (List Pd))
  | []=>some []
  | x::r=>(match gath Γ x.atoms.length x.atoms with
    | some ps=>(match gathL Γ r with | some qs=>some (ps::qs) | none=>none)
    | none=>none)
theorem RL.allN {b0:Nat} {S:Nat→Prop} {w:World}:∀ {ps:List Pd} {cs:List Value},RL ⟨b0,none,S⟩ w ps cs→RL ⟨b0,some (Within w fun _=>False),S⟩ w ps cs
  | [],_,h=>h
  | p::_,_,⟨c1,c2,e,h1,h2⟩=>⟨c1,c2,e,p.all Avoids.none h1,h2.allN⟩
theorem gathL_ok {B:Bd} {w:World} {Γ:List (List AV)} {E:Env} {os:List Nat} (hr:RepE B w Γ E os):∀ {ar:List V1} {asx:List (List Pd)},gathL Γ ar=some asx →
    ArgsR ⟨B.b0,some (Within w fun _=>False),B.S⟩ w (ar.map V1.shp) asx (ar.map fun x=>x.atoms.map (A.den [] E))
  | [],asx,h=>by simp only [gathL,Option.some.injEq] at h; subst h; rfl
  | x::r,asx,h=>by
    simp only [gathL] at h
    split at h
    · rename_i ps hp
      split at h
      · rename_i qs hq
        cases h
        exact ⟨_,_,rfl,by cases x <;> simp [V1.shp,V1.atoms],(gath_ok hr hp).allN,gathL_ok hr hq⟩
      · cases h
    · cases h
theorem argV_of (E:Env):∀ (ar:List V1) (F:Env),((ar.map V1.shp).zipIdx F.length).map (fun (s,i)=>(v1of i 0 s).den [] (F++ar.map fun x=>x.atoms.map (A.den [] E)))=ar.map (V1.den [] E)
  | [],F=>rfl
  | x::r,F=>by
    simp only [List.map_cons,List.zipIdx_cons]
    congr 1
    · cases x with
      | s a=>simp [V1.shp,v1of,V1.den,A.den,V1.atoms]
      | g l=>
        simp only [V1.shp,v1of,V1.den]
        congr 2
        refine List.ext_getElem? fun j=>?_
        simp only [List.getElem?_map]
        by_cases hj:j < l.length
        · rw [List.getElem?_range' hj,List.getElem?_eq_getElem hj]
          simp [A.den,V1.atoms,hj]
        · rw [List.getElem?_eq_none (by simp; omega),List.getElem?_eq_none (by omega)]; rfl
    · have:=argV_of E r (F++[x.atoms.map (A.den [] E)])
      simpa using this
def knownA (Γ:List (List AV)):A→Option Value
  | .c i k=>(match look Γ i k with | some (.ro _ p)=>p.kv | _=>none)
  | .k v=>some v
  | .p _ _=>none
theorem knownA_ok {B:Bd} {w:World} {Γ:List (List AV)} {E:Env} {os:List Nat} (hr:RepE B w Γ E os) {a:A} {v:Value} (h:knownA Γ a=some v):a.den [] E=v:=by
  cases a with
  | c i k=>
    simp only [knownA] at h
    split at h
    · rename_i o p ha
      obtain ⟨c,o',h1,h2,_⟩:=look_ok hr ha
      have:=p.kv_ok h h1.1
      subst this
      exact h2 0 v rfl
    · cases h
  | k v=>cases h; rfl
  | p _ _=>cases h
def knownAs (Γ:List (List AV)):List A→Option (List Value)
  | []=>some []
  | a::r=>(match knownA Γ a with | some v=>(match knownAs Γ r with | some vs=>some (v::vs) | none=>none) | none=>none)
theorem knownAs_ok {B:Bd} {w:World} {Γ:List (List AV)} {E:Env} {os:List Nat} (hr:RepE B w Γ E os):∀ {l:List A} {vs:List Value},knownAs Γ l=some vs→l.map (A.den [] E)=vs
  | [],vs,h=>by cases h; rfl
  | a::r,vs,h=>by
    simp only [knownAs] at h
    split at h
    · rename_i v hv
      split at h
      · rename_i us hu
        cases h
        rw [List.map_cons,knownA_ok hr hv,knownAs_ok hr hu]
      · cases h
    · cases h
def knownV (Γ:List (List AV)):V1→Option Value
  | .s a=>knownA Γ a
  | .g l=>(match knownAs Γ l with | some vs=>some (.agg vs.toArray) | none=>none)
theorem knownV_ok {B:Bd} {w:World} {Γ:List (List AV)} {E:Env} {os:List Nat} (hr:RepE B w Γ E os) {x:V1} {v:Value} (h:knownV Γ x=some v):x.den [] E=v:=by
  cases x with
  | s a=>exact knownA_ok hr h
  | g l=>
    simp only [knownV] at h
    split at h
    · rename_i vs hv; cases h; simp only [V1.den,knownAs_ok hr hv]
    · cases h
def knownL (Γ:List (List AV)):List V1→Option (List Value)
  | []=>some []
  | x::r=>(match knownV Γ x with | some v=>(match knownL Γ r with | some vs=>some (v::vs) | none=>none) | none=>none)
theorem knownL_ok {B:Bd} {w:World} {Γ:List (List AV)} {E:Env} {os:List Nat} (hr:RepE B w Γ E os):∀ {l:List V1} {vs:List Value},knownL Γ l=some vs→l.map (V1.den [] E)=vs
  | [],vs,h=>by cases h; rfl
  | a::r,vs,h=>by
    simp only [knownL] at h
    split at h
    · rename_i v hv
      split at h
      · rename_i us hu
        cases h
        rw [List.map_cons,knownV_ok hr hv,knownL_ok hr hu]
      · cases h
    · cases h
def junkS:List AV→Nat→List AV
  | [],_=>[]
  | a::r,0=>.junk a.n::r
  | a::r,k+1=>a::junkS r (k+1 - a.n)
def junkAt:List (List AV)→Nat→Nat→List (List AV)
  | [],_,_=>[]
  | s::Γ,0,k=>junkS s k::Γ
  | s::Γ,i+1,k=>s::junkAt Γ i k
section
variable {B:Bd} {w:World}
theorem junkS_ok:∀ {s:List AV} {k:Nat} {a:AV} {cs:List Value} {os:List Nat},RepS B w s cs os→lookS s k=some a→∃ pre c post o1 o o2,cs=pre++c++post∧pre.length=k∧os=o1++o++o2∧RepV B w a c o∧RepS B w (junkS s k) cs (o1++o2)
  | [],_,_,_,_,_,h=>by simp [lookS] at h
  | a::r,0,b,_,_,⟨c1,c2,o1,o2,e,e2,h1,h2⟩,h=>by
    simp only [lookS,Option.some.injEq] at h
    subst h
    exact ⟨[],c1,c2,[],o1,o2,by rw [e]; rfl,rfl,by rw [e2]; rfl,h1,c1,c2,[],o2,e,rfl,h1.junk,h2⟩
  | a::r,k+1,b,_,_,⟨c1,c2,o1,o2,e,e2,h1,h2⟩,h=>by
    simp only [lookS] at h
    cases hb:Nat.ble a.n (k+1) with
    | false=>rw [hb] at h; cases h
    | true=>
      rw [hb] at h
      have hle:a.n≤k+1:=Nat.le_of_ble_eq_true hb
      obtain ⟨pre,c,post,p1,p,p2,e3,e4,e5,h3,h4⟩:=junkS_ok h2 h
      exact ⟨c1++pre,c,post,o1++p1,p,p2,by rw [e,e3]; simp,by rw [List.length_append,h1.len,e4]; omega,by rw [e2,e5]; simp,h3,c1,c2,o1,p1++p2,e,by simp,h1,h4⟩
theorem junkAt_ok:∀ {Γ:List (List AV)} {i k:Nat} {a:AV} {E:Env} {os:List Nat},RepE B w Γ E os→look Γ i k=some a →
    ∃ c o1 o o2,os=o1++o++o2∧RepV B w a c o∧(∀ (j:Nat) (v:Value),c[j]?=some v→(E.getD i []).getD (k+j) (.bool false)=v)∧RepE B w (junkAt Γ i k) E (o1++o2)
  | [],_,_,_,_,_,_,h=>by simp [look] at h
  | s::Γ,0,k,a,_,_,⟨cs,E',o1,o2,e,e2,h1,h2⟩,h=>by
    have h':lookS s k=some a:=by simpa [look] using h
    obtain ⟨pre,c,post,p1,p,p2,e3,e4,e5,h3,h4⟩:=junkS_ok h1 h'
    refine ⟨c,p1,p,p2++o2,by rw [e2,e5]; simp,h3,fun j v hj=>?_,cs,E',p1++p2,o2,e,by simp,h4,h2⟩
    have hjl:=(List.getElem?_eq_some_iff.1 hj).1
    rw [e,List.getD_eq_getElem?_getD,List.getD_eq_getElem?_getD,List.getElem?_cons_zero,Option.getD_some,e3,List.append_assoc,List.getElem?_append_right (by omega),List.getElem?_append_left (by omega),e4,show k+j - k=j by omega,hj]
    rfl
  | s::Γ,i+1,k,a,_,_,⟨cs,E',o1,o2,e,e2,h1,h2⟩,h=>by
    obtain ⟨c,p1,p,p2,e3,h3,h4,h5⟩:=junkAt_ok (Γ:=Γ) (i:=i) (k:=k) (a:=a) h2 (by simpa [look] using h)
    refine ⟨c,o1++p1,p,p2,by rw [e2,e3]; simp,h3,fun j v hj=>?_,cs,E',o1,p1++p2,e,by simp,h1,h5⟩
    rw [e,← h4 j v hj]; simp
end
theorem junkAt_len:∀ (Γ:List (List AV)) (i k:Nat),(junkAt Γ i k).length=Γ.length
  | [],_,_=>rfl
  | _::_,0,_=>rfl
  | _::Γ,i+1,k=>by simp [junkAt,junkAt_len Γ i k]
theorem junkS_okD {D:TypeId→Bool}:∀ {s:List AV} {k:Nat},s.all (AV.okD D)=true→(junkS s k).all (AV.okD D)=true
  | [],_,_=>rfl
  | a::r,0,h=>by simp only [List.all_cons,Bool.and_eq_true] at h; simp only [junkS,List.all_cons,Bool.and_eq_true]; exact ⟨rfl,h.2⟩
  | a::r,k+1,h=>by simp only [List.all_cons,Bool.and_eq_true] at h; simp only [junkS,List.all_cons,Bool.and_eq_true]; exact ⟨h.1,junkS_okD h.2⟩
theorem junkAt_okE {D:TypeId→Bool}:∀ {Γ:List (List AV)} {i k:Nat},okE D Γ=true→okE D (junkAt Γ i k)=true
  | [],_,_,_=>rfl
  | s::Γ,0,k,h=>by simp only [okE,List.all_cons,Bool.and_eq_true] at h; simp only [okE,junkAt,List.all_cons,Bool.and_eq_true]; exact ⟨junkS_okD h.1,h.2⟩
  | s::Γ,i+1,k,h=>by
    simp only [okE,List.all_cons,Bool.and_eq_true] at h
    have:=junkAt_okE (Γ:=Γ) (i:=i) (k:=k) h.2
    simp only [okE,junkAt,List.all_cons,Bool.and_eq_true] at this ⊢; exact ⟨h.1,this⟩
theorem lookS_okD {D:TypeId→Bool}:∀ {s:List AV} {k:Nat} {a:AV},s.all (AV.okD D)=true→lookS s k=some a→a.okD D=true
  | [],_,_,_,h=>by simp [lookS] at h
  | a::r,0,b,hD,h=>by simp only [lookS,Option.some.injEq] at h; subst h; simp only [List.all_cons,Bool.and_eq_true] at hD; exact hD.1
  | a::r,k+1,b,hD,h=>by
    simp only [lookS] at h
    simp only [List.all_cons,Bool.and_eq_true] at hD
    cases hb:Nat.ble a.n (k+1) with
    | false=>rw [hb] at h; cases h
    | true=>rw [hb] at h; exact lookS_okD hD.2 h
theorem look_okD {D:TypeId→Bool} {Γ:List (List AV)} {i k:Nat} {a:AV} (hD:okE D Γ=true) (h:look Γ i k=some a):a.okD D=true:=by
  unfold look at h
  split at h
  · rename_i s hs
    exact lookS_okD (List.all_eq_true.1 hD s (List.mem_of_getElem? hs)) h
  · cases h
def take (Γ:List (List AV)):Nat→List AV→List A→Option (List AV × List (List AV))
  | _,acc,[]=>some (acc,Γ)
  | 0,_,_::_=>none
  | f+1,acc,.k v::r=>bif v.oneCell' then take Γ f (acc++[.ro true (pV v)]) r else none
  | f+1,acc,.c i k::r=>(match look Γ i k with
    | some a=>(match eat i k a.n (.c i k::r) with
      | some r'=>(match a with
        | .own g rt rows=>take (junkAt Γ i k) f (acc++[.own g rt rows]) r'
        | .var g rt row=>take (junkAt Γ i k) f (acc++[.var g rt row]) r'
        | .ro old p=>take Γ f (acc++[.ro old p]) r'
        | .junk n=>take Γ f (acc++[.junk n]) r'
        | .map _ _ _=>none
        | .iter _ _ _ _=>none
        | .blk _ _ _ _=>none)
      | none=>none)
    | none=>none)
  | _+1,_,.p _ _::_=>none
theorem RepS.one_of {B:Bd} {w:World} {a:AV} {c:List Value} {o:List Nat} (h:RepV B w a c o):RepS B w [a] c o:=⟨c,[],o,[],by simp,by simp,h,rfl,rfl⟩
theorem take_ok {B:Bd} {w:World} {E:Env} {D:TypeId→Bool}:∀ {f:Nat} {Γ Γ':List (List AV)} {acc asx:List AV} {l:List A} {cs:List Value} {o os:List Nat},
    RepE B w Γ E os→RepS B w acc cs o→okE D Γ=true→acc.all (AV.okD D)=true→take Γ f acc l=some (asx,Γ') →
    ∃ o1 o2,RepS B w asx (cs++l.map (A.den [] E)) o1∧RepE B w Γ' E o2∧(o1++o2).Perm (o++os)∧okE D Γ'=true∧asx.all (AV.okD D)=true∧Γ'.length=Γ.length
  | f,Γ,Γ',acc,asx,[],cs,o,os,hr,hs,hD,hA,h=>by
    have:acc=asx∧Γ=Γ':=by cases f <;> simpa [take] using h
    obtain ⟨rfl,rfl⟩:=this
    exact ⟨o,os,by simpa using hs,hr,List.Perm.refl _,hD,hA,rfl⟩
  | 0,_,_,_,_,_::_,_,_,_,_,_,_,_,h=>by simp [take] at h
  | f+1,Γ,Γ',acc,asx,.k v::r,cs,o,os,hr,hs,hD,hA,h=>by
    simp only [take] at h
    cases hv:v.oneCell' with
    | false=>rw [hv] at h; cases h
    | true=>
      rw [hv] at h
      simp only [cond_true] at h
      have h1:RepV B w (.ro true (pV v)) [v] []:=⟨⟨rfl,hv⟩,rfl⟩
      obtain ⟨o1,o2,h2,h3,h4,h5,h6,h7⟩:=take_ok hr (hs.app (RepS.one_of h1)) hD (by rw [List.all_append,hA]; rfl) h
      exact ⟨o1,o2,by simpa [A.den] using h2,h3,by simpa using h4,h5,h6,h7⟩
  | f+1,Γ,Γ',acc,asx,.c i k::r,cs,o,os,hr,hs,hD,hA,h=>by
    simp only [take] at h
    split at h
    · rename_i a ha
      split at h
      · rename_i r' he
        have hDa:=look_okD hD ha
        have own:∀ a:AV,look Γ i k=some a→eat i k a.n (.c i k::r)=some r'→take (junkAt Γ i k) f (acc++[a]) r'=some (asx,Γ')→∃ o1 o2,RepS B w asx (cs++(A.c i k::r).map (A.den [] E)) o1∧RepE B w Γ' E o2∧(o1++o2).Perm (o++os)∧okE D Γ'=true∧asx.all (AV.okD D)=true∧Γ'.length=Γ.length:=by
          intro a ha he h
          obtain ⟨c,p1,p,p2,e1,h1,h2,h3⟩:=junkAt_ok hr ha
          obtain ⟨o1,o2,k2,k3,k4,k5,k6,k7⟩:=take_ok h3 (hs.app (RepS.one_of h1)) (junkAt_okE hD) (by rw [List.all_append,hA]; simp [look_okD hD ha]) h
          refine ⟨o1,o2,?_,k3,k4.trans ?_,k5,k6,k7.trans (junkAt_len _ _ _)⟩
          · rw [eat_den he rfl h1 h2,← List.append_assoc]; exact k2
          · rw [e1,List.append_assoc]
            refine List.Perm.append_left o ?_
            rw [← List.append_assoc]
            exact List.Perm.append_right p2 List.perm_append_comm
        have ro:∀ a:AV,look Γ i k=some a→eat i k a.n (.c i k::r)=some r'→(∀ c o',RepV B w a c o'→o'=[])→take Γ f (acc++[a]) r'=some (asx,Γ')→∃ o1 o2,RepS B w asx (cs++(A.c i k::r).map (A.den [] E)) o1∧RepE B w Γ' E o2∧(o1++o2).Perm (o++os)∧okE D Γ'=true∧asx.all (AV.okD D)=true∧Γ'.length=Γ.length:=by
          intro a ha he hn h
          obtain ⟨c,o',h1,h2,_⟩:=look_ok hr ha
          have:=hn c o' h1
          subst this
          obtain ⟨o1,o2,k2,k3,k4,k5,k6,k7⟩:=take_ok hr (hs.app (RepS.one_of h1)) hD (by rw [List.all_append,hA]; simp [look_okD hD ha]) h
          refine ⟨o1,o2,?_,k3,by simpa using k4,k5,k6,k7⟩
          rw [eat_den he rfl h1 h2,← List.append_assoc]; exact k2
        cases a with
        | own g rt rows=>exact own _ ha he h
        | var g rt row=>exact own _ ha he h
        | ro old p=>exact ro _ ha he (fun c o' h=>h.2) h
        | junk n=>exact ro _ ha he (fun c o' h=>h.2.2) h
        | map g m en=>cases h
        | iter g m c l=>cases h
        | blk g r cap rows=>cases h
      · cases h
    · cases h
  | f+1,_,_,_,_,.p _ _::_,_,_,_,_,_,_,_,h=>by simp [take] at h
def takeL (Γ:List (List AV)) (l:List A):Option (List AV × List (List AV)):=take Γ l.length [] l
theorem takeL_ok {w0:W0} {u:Gh} {E:Env} {D:TypeId→Bool} {Γ Γ':List (List AV)} {asx:List AV} {l:List A} (hk:Knows w0 D Γ E u) (h:takeL Γ l=some (asx,Γ')) :
    Knows w0 D (Γ'++[asx]) (E++[l.map (A.den [] E)]) u∧Γ'.length=Γ.length:=by
  obtain ⟨hb,hD,os,S,hn,hS,hr⟩:=hk
  obtain ⟨o1,o2,h1,h2,h3,h4,h5,h6⟩:=take_ok (D:=D) hr (acc:=[]) (cs:=[]) (o:=[]) ⟨rfl,rfl⟩ hD rfl h
  simp only [List.nil_append] at h1 h3
  refine ⟨⟨hb,?_,o2++o1,S,(List.perm_append_comm.trans h3).nodup_iff.2 hn,hS,h2.snoc h1⟩,h6⟩
  unfold okE at *
  rw [List.all_append,h4]; simp [h5]
end Cin

namespace Cin
open Go Go.RowKit
section knows
variable {w0:W0} {D:TypeId→Bool} {Γ:List (List AV)} {E:Env} {u:Gh}
theorem Knows.rep (h:Knows w0 D Γ E u):∃ os S,SOk w0 S u∧RepE (w0.bd S) u.w Γ E os:=let ⟨_,_,os,S,_,hS,hr⟩:=h; ⟨os,S,hS,hr⟩
theorem Knows.len (h:Knows w0 D Γ E u):E.length=Γ.length:=let ⟨_,_,_,_,_,_,h⟩:=h; h.len
theorem Knows.snoc {s:List AV} {cs:List Value} (h:Knows w0 D Γ E u) (hs:∀ os S,SOk w0 S u→RepE (w0.bd S) u.w Γ E os→∃ o,RepS (w0.bd S) u.w s cs o∧o.Nodup∧∀ g∈o,g ∉ os) (hD:s.all (AV.okD D)=true):Knows w0 D (Γ++[s]) (E++[cs]) u:=by
  obtain ⟨hb,h1,os,S,hn,hS,hr⟩:=h
  obtain ⟨o,h2,h3,h4⟩:=hs os S hS hr
  refine ⟨hb,?_,os++o,S,?_,hS,hr.snoc h2⟩
  · unfold okE at *; rw [List.all_append,h1]; simp [hD]
  · exact List.nodup_append.2 ⟨hn,h3,fun a ha b hb e=>h4 b hb (e ▸ ha)⟩
theorem Knows.mk1 {os:List Nat} {S:Nat→Prop} {s:List AV} {cs:List Value} (hb:Bx w0.bs u.w) (hD:okE D Γ=true) (hn:os.Nodup) (hS:SOk w0 S u) (hr:RepE (w0.bd S) u.w Γ E os) (hs:RepS (w0.bd S) u.w s cs []) (hD':s.all (AV.okD D)=true):Knows w0 D (Γ++[s]) (E++[cs]) u:=by
  refine ⟨hb,?_,os++[],S,by rw [List.append_nil]; exact hn,hS,hr.snoc hs⟩
  unfold okE at *; rw [List.all_append,hD]; simp [hD']
theorem Knows.val {v:Value} (h:Knows w0 D Γ E u) (hv:v.oneCell'=true):Knows w0 D (Γ++[[.ro true (pV v)]]) (E++[[v]]) u:=
  h.snoc (fun _ _ _ _=>⟨[],RepS.one_of ⟨⟨rfl,hv⟩,rfl⟩,List.nodup_nil,fun g hg=>by cases hg⟩) rfl
end knows
def AV.noOld:AV→Bool
  | .ro old _=>!old
  | _=>true
theorem RepV.low {B B':Bd} {w:World} {a:AV} {cs:List Value} {os:List Nat} (h:RepV B w a cs os) (hB:∀ g∈os,B'.ow g) (h0:B'.b0=B.b0) (hS:B'.S=B.S) (ho:a.noOld=true):RepV B' w a cs os:=by
  have hnn:B'.nn=B.nn:=by unfold Bd.nn; rw [h0,hS]
  cases a with
  | ro old p=>
    simp only [AV.noOld,Bool.not_eq_true'] at ho
    subst ho
    have e:limOf B' false=limOf B false:=by simp [limOf,h0,hS]
    show p.R (limOf B' false) w cs∧os=[]
    rw [e]; exact h
  | own g r rows=>
    refine ⟨h.1,?_⟩
    rw [hnn]
    rcases h.2 with h' | ⟨cap,cur,e,h1,h2,h3⟩
    · exact .inl h'
    · exact .inr ⟨cap,cur,e,h1,⟨hB g (by rw [h1]; simp),hS ▸ h2.2⟩,h3⟩
  | var g r row=>obtain ⟨h1,h2,h3,h4,h5⟩:=h; exact ⟨h1,h2,h3,⟨hB g (by rw [h3]; simp),hS ▸ h4.2⟩,by rw [hnn]; exact h5⟩
  | junk n=>exact h
  | map g m en=>obtain ⟨h1,h2,h3,h4,h5⟩:=h; exact ⟨h1,h2,h3,⟨hB g (by rw [h3]; simp),hS ▸ h4.2⟩,by rw [hnn]; exact h5⟩
  | iter g m c l=>obtain ⟨h1,h2,h3,h4,h5,h6⟩:=h; exact ⟨h1,h2,h3,h4,⟨hB g (by rw [h4]; simp),hS ▸ h5.2⟩,by rw [hnn,h0,hS]; exact h6⟩
  | blk g r cap rows=>obtain ⟨h1,h2,h3,h4,h5,h6⟩:=h; exact ⟨h1,h2,h3,⟨hB g (by rw [h3]; simp),hS ▸ h4.2⟩,h5,by rw [hnn]; exact h6⟩
theorem RepS.low {B B':Bd} {w:World} (h0:B'.b0=B.b0) (hS:B'.S=B.S):∀ {s:List AV} {cs:List Value} {os:List Nat},(∀ g∈os,B'.ow g)→RepS B w s cs os→s.all AV.noOld=true→RepS B' w s cs os
  | [],_,_,_,h,_=>h
  | a::r,_,_,hB,⟨c1,c2,o1,o2,e,e2,h1,h2⟩,ho=>by
    simp only [List.all_cons,Bool.and_eq_true] at ho
    exact ⟨c1,c2,o1,o2,e,e2,h1.low (fun g hg=>hB g (by rw [e2]; simp [hg])) h0 hS ho.1,h2.low h0 hS (fun g hg=>hB g (by rw [e2]; simp [hg])) ho.2⟩
def AV.new:AV→AV
  | .ro _ p=>.ro false p
  | a=>a
theorem RepV.new {B:Bd} {w:World} {a:AV} {cs:List Value} {os:List Nat} (h:RepV B w a cs os):RepV B w a.new cs os:=by
  cases a with
  | ro old p=>
    cases old with
    | true=>exact ⟨p.lim h.1,h.2⟩
    | false=>exact h
  | own g r rows=>exact h
  | var g r row=>exact h
  | junk n=>exact h
  | map g m en=>exact h
  | iter g m c l=>exact h
  | blk g r cap rows=>exact h
theorem RepS.new {B:Bd} {w:World}:∀ {s:List AV} {cs:List Value} {os:List Nat},RepS B w s cs os→RepS B w (s.map AV.new) cs os
  | [],_,_,h=>h
  | _::_,_,_,⟨c1,c2,o1,o2,e,e2,h1,h2⟩=>⟨c1,c2,o1,o2,e,e2,h1.new,h2.new⟩
theorem kept_refl {nu sl:List TypeId} {l:Lm} {w:World}:Kept nu sl l w w:=⟨Nat.le_refl _,fun _ _ h _=>h⟩
theorem EntsAt.more {B:Bd} {S:Nat→Prop} (hS:∀ b,B.S b→S b) {m:Mty} {w:World} {es:Array MapEntry} {clock:Nat} {en:Ents} (hf:m.Fit en) (h:EntsAt m B.nn w es clock en):EntsAt m (B.sh S).nn w es clock en:=
  h.imp fun e he _ hx=>RL.mono hS kept_refl (fun p hp=>hf e he p hp) hx
theorem RepV.more {B:Bd} {S:Nat→Prop} (hS:∀ b,B.S b→S b) {w:World} {a:AV} {cs:List Value} {os:List Nat} (hN:∀ g∈os,¬ B.S g→¬ S g) (h:RepV B w a cs os):RepV (B.sh S) w a cs os:=by
  have hrl:∀ {c:Array Value} {o:Nat} {r:Rty} {rows:List (List Pd)},(∀ row∈rows,r.Fit row)→RowsAt r B.nn w c o rows→RowsAt r (B.sh S).nn w c o rows:=fun hf h=>
    h.imp fun row hm x hx=>RL.mono hS kept_refl (hf row hm) hx
  cases a with
  | ro old p=>exact ⟨p.mono hS kept_refl h.1,h.2⟩
  | own g r rows=>
    refine ⟨h.1,?_⟩
    rcases h.2 with h' | ⟨cap,cur,e,ho,hB,hg,i1,i2,i3,hrow⟩
    · exact .inl h'
    · exact .inr ⟨cap,cur,e,ho,⟨hB.1,hS _ hB.2⟩,hg,i1,i2,i3,hrl h.1 hrow⟩
  | var g r row=>
    obtain ⟨hf,e,ho,hB,x,hg,hs,hrow⟩:=h
    exact ⟨hf,e,ho,⟨hB.1,hS _ hB.2⟩,x,hg,hs,hrl (fun row hm=>by simp at hm; rw [hm]; exact hf) hrow⟩
  | junk n=>exact h
  | map g m en=>
    obtain ⟨hf,e,ho,hB,es,clock,hg,hat⟩:=h
    exact ⟨hf,e,ho,⟨hB.1,hN g (by rw [ho]; simp) hB.2⟩,es,clock,hg,hat.more hS hf⟩
  | iter g m cur left=>
    obtain ⟨hf,hc,e,ho,hB,h2⟩:=h
    refine ⟨hf,hc,e,ho,⟨hB.1,hN g (by rw [ho]; simp) hB.2⟩,?_⟩
    rcases h2 with h2 | ⟨b,es,clock,en,seen,hg,hb,hbm,hfe,hat,r⟩
    · exact .inl h2
    · exact .inr ⟨b,es,clock,en,seen,hg,hb.imp id (hS b),hbm,hfe,hat.more hS hfe,r⟩
  | blk g r cap rows=>
    obtain ⟨hf,e,ho,hB,hc,cur,hg,hs,hrow⟩:=h
    exact ⟨hf,e,ho,⟨hB.1,hS _ hB.2⟩,hc,cur,hg,hs,hrl hf hrow⟩
theorem RepS.more {B:Bd} {S:Nat→Prop} (hS:∀ b,B.S b→S b) {w:World}:∀ {s:List AV} {cs:List Value} {os:List Nat},(∀ g∈os,¬ B.S g→¬ S g)→RepS B w s cs os→RepS (B.sh S) w s cs os
  | [],_,_,_,h=>h
  | _::_,_,_,hN,⟨c1,c2,o1,o2,e,e2,h1,h2⟩=>⟨c1,c2,o1,o2,e,e2,h1.more hS (fun g hg=>hN g (by rw [e2]; simp [hg])),RepS.more hS (fun g hg=>hN g (by rw [e2]; simp [hg])) h2⟩
theorem RepE.more {B:Bd} {S:Nat→Prop} (hS:∀ b,B.S b→S b) {w:World}:∀ {Γ:List (List AV)} {E:Env} {os:List Nat},(∀ g∈os,¬ B.S g→¬ S g)→RepE B w Γ E os→RepE (B.sh S) w Γ E os
  | [],_,_,_,h=>h
  | _::_,_,_,hN,⟨cs,E',o1,o2,e,e2,h1,h2⟩=>⟨cs,E',o1,o2,e,e2,h1.more hS (fun g hg=>hN g (by rw [e2]; simp [hg])),RepE.more hS (fun g hg=>hN g (by rw [e2]; simp [hg])) h2⟩
def svShp:SV→Option (List (Option Nat))
  | .v y=>some [y.shp]
  | .t []=>some []
  | .t [_]=>none
  | .t l=>some (l.map V1.shp)
  | _=>none
theorem v1of_at (E:Env) (x:V1) (pre post:List Value):(v1of 0 pre.length x.shp).den [] [pre++x.atoms.map (A.den [] E)++post]=x.den [] E:=by
  cases x with
  | s a=>simp [V1.shp,v1of,V1.den,A.den,V1.atoms]
  | g l=>
    simp only [V1.shp,v1of,V1.den]
    congr 2
    refine List.ext_getElem? fun j=>?_
    simp only [List.getElem?_map]
    by_cases hj:j < l.length
    · rw [List.getElem?_range' hj,List.getElem?_eq_getElem hj]
      have e:¬ pre.length+j < pre.length:=by omega
      simp [A.den,V1.atoms,hj,List.getElem?_append,e]
    · rw [List.getElem?_eq_none (by simp; omega),List.getElem?_eq_none (by omega)]; rfl
theorem svs_at (E:Env):∀ (l:List V1) (pre:List Value),(svs 0 pre.length (l.map V1.shp)).map (V1.den [] [pre++(l.flatMap V1.atoms).map (A.den [] E)])=l.map (V1.den [] E)
  | [],pre=>rfl
  | x::r,pre=>by
    simp only [List.map_cons,svs,List.flatMap_cons,List.map_append]
    congr 1
    · have:=v1of_at E x pre ((r.flatMap V1.atoms).map (A.den [] E))
      simpa using this
    · have:=svs_at E r (pre++x.atoms.map (A.den [] E))
      have hl:(pre++x.atoms.map (A.den [] E)).length=pre.length+x.shp.getD 1:=by
        cases x <;> simp [V1.shp,V1.atoms]
      rw [hl] at this
      simpa using this
theorem ret_den {E:Env} {x:SV} {sh:List (Option Nat)} (h:svShp x=some sh):x.den [] E=(mkSV sh 0).den [] [x.atoms.map (A.den [] E)]:=by
  cases x with
  | v y=>
    cases h
    have:=v1of_at E y [] []
    simpa [mkSV,SV.den,SV.atoms] using this.symm
  | t l=>
    match l,h with
    | [],h=>cases h; rfl
    | a::b::r,h=>
      cases h
      have:=svs_at E (a::b::r) []
      simp only [SV.den,SV.atoms]
      show _=SV.den [] _ (SV.t (svs 0 0 _))
      simp only [SV.den]
      congr 2
      exact this.symm
  | u=>cases h
  | any=>cases h
section rules
variable {P:Program} {J:Jd} {w0:W0} {D:TypeId→Bool} {Post:Ending→World→Prop} {K:LK} {Γ:List (List AV)} {k:Tr}
theorem aIf {c:A} {x y:Tr} {b:Bool} (hc:knownA Γ c=some (.bool b)) (h1:b=true→AW P J w0 D Post K Γ x) (h2:b=false→AW P J w0 D Post K Γ y):AW P J w0 D Post K Γ (.cond c x y):=
  fun hJ L E u hL hk=>let ⟨_,_,_,hr⟩:=hk.rep; ⟨b,knownA_ok hr hc,fun e=>h1 e hJ L E u hL hk,fun e=>h2 e hJ L E u hL hk⟩
theorem aEq {c:A} {v v':Value} {x y:Tr} (hc:knownA Γ c=some v') (h1:v'=v→AW P J w0 D Post K Γ x) (h2:v'≠v→AW P J w0 D Post K Γ y):AW P J w0 D Post K Γ (.ifeq c v x y):=
  fun hJ L E u hL hk=>let ⟨_,_,_,hr⟩:=hk.rep
    (Classical.em (v'=v)).elim (fun e=>.inl ⟨(knownA_ok hr hc).trans e,h1 e hJ L E u hL hk⟩) (fun e=>.inr (h2 e hJ L E u hL hk))
theorem aTwo {x y:Tr} (h1:AW P J w0 D Post K Γ x) (h2:AW P J w0 D Post K Γ y):AW P J w0 D Post K Γ (.both x y):=fun hJ L E u hL hk=>⟨h1 hJ L E u hL hk,h2 hJ L E u hL hk⟩
theorem aTrue {c:A} {x y:Tr} (hc:knownA Γ c=some (.bool true)) (h1:AW P J w0 D Post K Γ x):AW P J w0 D Post K Γ (.cond c x y):=aIf hc (fun _=>h1) (fun h=>by cases h)
theorem aFalse {c:A} {x y:Tr} (hc:knownA Γ c=some (.bool false)) (h1:AW P J w0 D Post K Γ y):AW P J w0 D Post K Γ (.cond c x y):=aIf hc (fun h=>by cases h) (fun _=>h1)
theorem aPr {op:Op} {ty:TypeId} {ar:List V1} {vs:List Value} {v:Value} {Γ':List (List AV)} (hn:knownL Γ ar=some vs) (h:PrimOk P op ty vs v) (hv:v.oneCell'=true) (hk:AW P J w0 D Post K Γ' k)
    (hΓ:Γ++[[.ro true (pV v)]]=Γ':=by (simp only [List.cons_append,List.nil_append]) <;> exact rfl):AW P J w0 D Post K Γ (.em (.pr op ty ar) k):=fun hJ L E u hL h0=>by
  obtain ⟨os,S,_,hr⟩:=h0.rep
  refine ⟨v,by rw [knownL_ok hr hn]; exact h,hv,hk hJ L _ u hL.ext ?_⟩
  subst hΓ
  exact h0.val hv
theorem aPrE {op:Op} {ty:TypeId} {ar:List V1} {vs:List Value} {v v':Value} {Γ':List (List AV)} (hn:knownL Γ ar=some vs) (h:PrimOk P op ty vs v) (e:v=v') (hv:v'.oneCell'=true) (hk:AW P J w0 D Post K Γ' k)
    (hΓ:Γ++[[.ro true (pV v')]]=Γ':=by (simp only [List.cons_append,List.nil_append]) <;> exact rfl):AW P J w0 D Post K Γ (.em (.pr op ty ar) k):=by
  subst e; exact aPr hn h hv hk hΓ
theorem aCallX {J1:Jd} {f:FuncId} {ar:List V1} {sh:List (Option Nat)} {asx:List (List Pd)} {rs:(Nat→Nat)→List AV} {Γ':(Nat→Nat)→List (List AV)}
    (hA:∀ (B:Bd) (w:World) (os:List Nat) (E:Env),RepE B w Γ E os→ArgsR ⟨B.b0,some (Within w fun _=>False),B.S⟩ w (ar.map V1.shp) asx (ar.map fun x=>x.atoms.map (A.den [] E))) (hc:Ct P J1 f (ar.map V1.shp) asx sh rs) (hk:∀ γ,AW P J w0 D Post K (Γ' γ) k)
    (hs:∀ γ,((rs γ).all (AV.okD D) && (rs γ).all AV.noOld)=true:=by intros; rfl) (hΓ:∀ γ,Γ++[rs γ]=Γ' γ:=by intros; (simp only [List.cons_append,List.nil_append]) <;> exact rfl) (hw:∀ w,J.J w→J1.J w:=by intro w h; first | exact h | exact h.1 | exact trivial):AW P J w0 D Post K Γ (.em (.call f ar sh) k):=by
  intro hJ L E u hL h0 w he hb
  have h1:=h0.ext he hb
  obtain ⟨_,hD,os,S,hn,hS,hr⟩:=h1
  have hlt:∀ b,S b→b < w.heap.size:=fun b h=>(hS.at_ b h).2.1
  have hh:=hc ⟨w,w0.b0,Nat.le_trans w0.le hb.size,S,hlt,fun _=>False,fun _ h=>h.elim⟩ _ (fun _ h=>h) (hw _ (hJ w hb)) (hA _ _ _ _ hr)
  unfold argV at hh
  have e:=argV_of E ar []
  simp only [List.length_nil,List.nil_append] at e
  rw [e] at hh
  refine hh.mono ?_
  rintro e1 w' ⟨cs,os',γ,S',he1,hn',hS',hs',hbx⟩
  have hb':Below w.heap.size w w':=hbx.bel
  have hsγ:=hs γ
  simp only [Bool.and_eq_true] at hsγ
  have hb2:Bx w0.bs w':=hb.on hb'
  have hge:∀ g∈os',w.heap.size≤g:=fun g hg=>(hs'.ge g hg).1.elim id (fun h=>h.elim)
  refine ⟨cs,he1,hs'.one,.inl hb',?_⟩
  refine hk γ hJ L _ (u.more w w') hL.ext ?_
  rw [← hΓ γ]
  have hfin:∀ b,S' b→S b∨(w.heap.size≤b∧b < w'.heap.size):=hS'
  have hgr:Gr w S (fun b=>S b∨S' b):=⟨fun _ h=>.inl h,fun b hb h=>h.elim id (fun h=>(hfin b h).elim id (fun h2=>by have:=h2.1; omega))⟩
  refine ⟨hb2,?_,os++os',fun b=>S b∨S' b,?_,⟨fun b h=>.inl (hS.base b h),fun b hb3=>?_⟩,RepE.snoc (B:=w0.bd fun b=>S b∨S' b) (RepE.goes (B:=w0.bd S) (Goes.of_ext (u:=⟨w,u.S⟩) hS hb hb2 ((ExtS.refl D ⟨w,u.S⟩).below hb')) hgr (fun _ _ _ _ h=>h.elim) hr hD (fun _ _ _ _ _ h=>h.elim) (fun _ _ h=>h))
    (RepS.low (B:=(⟨w,w0.b0,Nat.le_trans w0.le hb.size,S,hlt,fun _=>False,fun _ h=>h.elim⟩:W0).bd fun b=>S b∨S' b) (B':=w0.bd fun b=>S b∨S' b) rfl rfl (fun g hg=>.inl (Nat.le_trans hb.size (hge g hg))) (RepS.more (B:=(⟨w,w0.b0,Nat.le_trans w0.le hb.size,S,hlt,fun _=>False,fun _ h=>h.elim⟩:W0).bd S') (fun _ h=>.inr h) (fun g hg hn2 h=>h.elim (fun h=>by have:=hlt g h; have:=hge g hg; omega) hn2) hs') hsγ.2)⟩
  · unfold okE at *; rw [List.all_append,hD]; simp [hsγ.1]
  · refine List.nodup_append.2 ⟨hn,hn',fun a ha b hb e=>?_⟩
    have h1:a < w.heap.size:=(hr.ge a ha).2
    have h2:w.heap.size≤b:=hge b hb
    omega
  · have key:=(hS.below (w':=w') hb.size hb').at_ b
    rcases hb3 with h | h
    · exact key (.inl h)
    · rcases hfin b h with h | h
      · exact key (.inl h)
      · exact key (.inr h)
theorem aCall {J1:Jd} {f:FuncId} {ar:List V1} {sh:List (Option Nat)} {asx:List (List Pd)} {rs:(Nat→Nat)→List AV} {Γ':(Nat→Nat)→List (List AV)} (ha:gathL Γ ar=some asx) (hc:Ct P J1 f (ar.map V1.shp) asx sh rs) (hk:∀ γ,AW P J w0 D Post K (Γ' γ) k)
    (hs:∀ γ,((rs γ).all (AV.okD D) && (rs γ).all AV.noOld)=true:=by intros; rfl) (hΓ:∀ γ,Γ++[rs γ]=Γ' γ:=by intros; (simp only [List.cons_append,List.nil_append]) <;> exact rfl) (hw:∀ w,J.J w→J1.J w:=by intro w h; first | exact h | exact h.1 | exact trivial):AW P J w0 D Post K Γ (.em (.call f ar sh) k):=
  aCallX (fun _ _ _ _ hr=>gathL_ok hr ha) hc hk hs hΓ hw
theorem aRet {x:SV} {avs:List AV} {Γ':List (List AV)} {sh:List (Option Nat)} {rs:(Nat→Nat)→List AV} (γ:Nat→Nat) (ht:takeL Γ x.atoms=some (avs,Γ')) (hsh:svShp x=some sh) (hr:avs.map AV.new=rs γ):AW P J w0 D (TellsA w0 sh rs) K Γ (.ret x):=by
  intro hJ L E u hL h0 w he hb
  have h1:=h0.ext he hb
  obtain ⟨⟨_,_,os,S,hn,hS,hr1⟩,hl⟩:=takeL_ok h1 ht
  obtain ⟨E1,E2,o1,o2,e1,e2,h2,cs,E',o3,o4,e3,e4,h3,e5,e6⟩:=hr1.split
  have hEl:E1.length=E.length:=by rw [h2.len,hl,← h1.len]
  have hcs:cs=x.atoms.map (A.den [] E):=by
    subst e5
    rw [e3] at e1
    have:=List.append_inj e1 hEl.symm
    have:=this.2
    simp at this
    exact this.symm
  subst hcs
  refine ⟨_,o3,γ,S,by rw [ret_den hsh],?_,fun b h=>((hS.at_ b h).1).imp id (fun h2=>⟨h2,(hS.at_ b h).2.1⟩),by rw [← hr]; exact h3.new,hb⟩
  rw [e2,e4] at hn
  exact (List.nodup_append.1 (List.nodup_append.1 hn).2.1).1
theorem LOk.upd {L:LC} {E:Env} {d n:Nat} {Q:List (List AV)→List AV→Prop} {C:List Value→Gh→Prop} {cs:List Value} (hL:LOk w0 D K L E) (hd:d≤K.length) (hn:n=E.length)
    (h:∀ cs u G avs,Q G avs→Knows w0 D (G++[avs]) (E++[cs]) u→C cs u):LOk w0 D (K.take d++[(n,Q)]) (updL L d C) (E++[cs]):=by
  intro d' n' Q' hK
  have hlen:(K.take d).length=d:=by rw [List.length_take]; omega
  by_cases e:d' < d
  · rw [List.getElem?_append_left (by omega),List.getElem?_take,if_pos e] at hK
    obtain ⟨h1,h2⟩:=hL.ext (E':=[cs]) d' n' Q' hK
    exact ⟨h1,fun cs' u G avs hQ hk=>by unfold updL; rw [if_neg (by omega)]; exact h2 cs' u G avs hQ hk⟩
  · rw [List.getElem?_append_right (by omega),hlen] at hK
    have he:d'=d:=by
      by_cases h0:d' - d=0
      · omega
      · rw [List.getElem?_eq_none (by simp; omega)] at hK; cases hK
    subst he
    simp only [Nat.sub_self,List.getElem?_cons_zero,Option.some.injEq,Prod.mk.injEq] at hK
    obtain ⟨rfl,rfl⟩:=hK
    refine ⟨by rw [List.length_append]; omega,fun cs' u G avs hQ hk=>?_⟩
    unfold updL
    rw [if_pos rfl]
    refine h cs' u G avs hQ ?_
    rwa [List.take_append_of_le_length (by omega),hn,List.take_length] at hk
theorem aLoopG {σ:Type} {d:Nat} {init:List A} {body:Tr} (G:σ→List (List AV)) (I:σ→List AV) (pr:σ→Prop) (μ:σ→Nat) (s0:σ) (h0:takeL Γ init=some (I s0,G s0)) (hp:pr s0) {K':σ→LK} {Γ':σ→List (List AV)}
    (hk:∀ s,pr s→AW P J w0 D Post (K' s) (Γ' s) body) (hd:Nat.ble d K.length=true)
    (hK:∀ s,K.take d++[(Γ.length,fun G' avs=>∃ s',G'=G s'∧avs=I s'∧pr s'∧μ s' < μ s)]=K' s) (hΓ:∀ s,G s++[I s]=Γ' s) :
    AW P J w0 D Post K Γ (.loop d init body):=by
  intro hJ L E u hL hk0
  obtain ⟨h1,_⟩:=takeL_ok hk0 h0
  have hEl:E.length=Γ.length:=hk0.len
  refine ⟨fun m cs u=>∃ s,μ s=m∧pr s∧Knows w0 D (G s++[I s]) (E++[cs]) u,μ s0,⟨s0,rfl,hp,h1⟩,?_⟩
  rintro m cs u' _ _ _ ⟨s,rfl,hps,hks⟩
  refine hk s hps hJ _ _ u' ?_ (hΓ s ▸ hks)
  rw [← hK s]
  refine hL.upd (Nat.le_of_ble_eq_true hd) hEl.symm ?_
  rintro cs' u'' G' avs ⟨s',rfl,rfl,h2,h3⟩ h4
  exact ⟨μ s',h3,s',rfl,h2,h4⟩
theorem aLoop {σ:Type} {d:Nat} {init:List A} {body:Tr} (I:σ→List AV) (pr:σ→Prop) (μ:σ→Nat) (s0:σ) (h0:takeL Γ init=some (I s0,Γ)) (hp:pr s0) {K':σ→LK} {Γ':σ→List (List AV)}
    (hk:∀ s,pr s→AW P J w0 D Post (K' s) (Γ' s) body) (hd:Nat.ble d K.length=true:=by rfl)
    (hK:∀ s,K.take d++[(Γ.length,fun G' avs=>∃ s',G'=Γ∧avs=I s'∧pr s'∧μ s' < μ s)]=K' s:=by intros; (simp only [List.take_nil,List.take_zero,List.take_succ_cons,List.nil_append,List.cons_append]) <;> exact rfl)
    (hΓ:∀ s,Γ++[I s]=Γ' s:=by intros; (simp only [List.cons_append,List.nil_append]) <;> exact rfl) :
    AW P J w0 D Post K Γ (.loop d init body):=
  aLoopG (fun _=>Γ) I pr μ s0 h0 hp hk hd hK hΓ
theorem RepE.take {B:Bd} {w:World}:∀ {Γ:List (List AV)} {E:Env} {os:List Nat} (n:Nat),RepE B w Γ E os→∃ o1 o2,os=o1++o2∧RepE B w (Γ.take n) (E.take n) o1
  | Γ,E,os,0,_=>⟨[],os,rfl,by simp [RepE]⟩
  | [],E,os,n+1,h=>by rw [h.1,h.2]; exact ⟨[],[],rfl,by simp [RepE]⟩
  | s::Γ,_,_,n+1,⟨cs,E',o1,o2,e,e2,h1,h2⟩=>by
    obtain ⟨p1,p2,e3,h3⟩:=h2.take n
    exact ⟨o1++p1,p2,by rw [e2,e3,List.append_assoc],cs,E'.take n,o1,p1,by rw [e]; rfl,rfl,h1,h3⟩
theorem Knows.drop {Γ:List (List AV)} {avs:List AV} {E:Env} {cs:List Value} {u:Gh} (n:Nat) (hl:E.length=Γ.length) (h:Knows w0 D (Γ++[avs]) (E++[cs]) u):Knows w0 D (Γ.take n++[avs]) (E.take n++[cs]) u:=by
  obtain ⟨hb,hD,os,S,hn,hS,hr⟩:=h
  obtain ⟨E1,E2,o1,o2,e1,e2,h2,h3⟩:=hr.split
  have hE:=List.append_inj e1 (by rw [h2.len,hl])
  obtain ⟨p1,p2,e4,h4⟩:=h2.take n
  refine ⟨hb,?_,p1++o2,S,?_,hS,by rw [hE.1]; exact h4.app (by rw [hE.2]; exact h3)⟩
  · unfold okE at *
    rw [List.all_append,Bool.and_eq_true] at hD ⊢
    refine ⟨?_,hD.2⟩
    rw [List.all_eq_true] at hD ⊢
    exact fun s hs=>hD.1 s (List.mem_of_mem_take hs)
  · rw [e2,e4] at hn
    refine List.Nodup.sublist ?_ hn
    exact List.Sublist.append_right (List.sublist_append_left p1 p2) o2
theorem aBack {d n:Nat} {vals:List A} {Q:List (List AV)→List AV→Prop} {avs:List AV} {Γ':List (List AV)} (hK:K[d]?=some (n,Q)) (ht:takeL Γ vals=some (avs,Γ')) (hQ:Q (Γ'.take n) avs):AW P J w0 D Post K Γ (.back d vals):=by
  intro hJ L E u hL hk0
  obtain ⟨h1,hl⟩:=takeL_ok hk0 ht
  have hEl:E.length=Γ.length:=hk0.len
  exact (hL d n Q hK).2 _ u _ _ hQ (h1.drop n (by omega))
theorem RepE.set {B:Bd} {w:World} {s s':List AV} (h:∀ cs os,RepS B w s cs os→RepS B w s' cs os):∀ {Γ:List (List AV)} {i:Nat} {E:Env} {os:List Nat},RepE B w Γ E os→Γ[i]?=some s→RepE B w (Γ.set i s') E os
  | [],_,_,_,_,hi=>by simp at hi
  | t::Γ,0,_,_,⟨cs,E',o1,o2,e,e2,h1,h2⟩,hi=>by
    simp only [List.getElem?_cons_zero,Option.some.injEq] at hi
    subst hi
    exact ⟨cs,E',o1,o2,e,e2,h _ _ h1,h2⟩
  | t::Γ,i+1,_,_,⟨cs,E',o1,o2,e,e2,h1,h2⟩,hi=>⟨cs,E',o1,o2,e,e2,h1,RepE.set h h2 (i:=i) (by simpa using hi)⟩
theorem okE_set {s':List AV} (hs:s'.all (AV.okD D)=true):∀ {Γ:List (List AV)} {i:Nat},okE D Γ=true→okE D (Γ.set i s')=true
  | [],_,_=>rfl
  | t::Γ,0,h=>by simp only [okE,List.all_cons,Bool.and_eq_true] at h; simp only [okE,List.set_cons_zero,List.all_cons,Bool.and_eq_true]; exact ⟨hs,h.2⟩
  | t::Γ,i+1,h=>by
    simp only [okE,List.all_cons,Bool.and_eq_true] at h
    have:=okE_set hs (Γ:=Γ) (i:=i) h.2
    simp only [okE,List.set_cons_succ,List.all_cons,Bool.and_eq_true] at this ⊢; exact ⟨h.1,this⟩
theorem aConv (i:Nat) {s:List AV} (s':List AV) {Γ':List (List AV)} (hi:Γ[i]?=some s) (h:∀ B w cs os,RepS B w s cs os→RepS B w s' cs os) (hk:AW P J w0 D Post K Γ' k) (hs:s'.all (AV.okD D)=true:=by rfl)
    (hΓ:Γ.set i s'=Γ':=by (simp only [List.set_cons_succ,List.set_cons_zero]) <;> exact rfl):AW P J w0 D Post K Γ k:=by
  subst hΓ
  intro hJ L E u hL ⟨hb,hD,os,S,hn,hS,hr⟩
  exact hk hJ L E u hL ⟨hb,okE_set hs hD,os,S,hn,hS,hr.set (h _ _) hi⟩
end rules
def preA (o:Opt) (asx:List (List Pd)):Prop:=∀ i v,o.at i=some v→asx[i]?=some [pV v]
theorem argsR_at {l:Lm} {w:World} {d:Value}:∀ {i:Nat} {sh:List (Option Nat)} {asx:List (List Pd)} {E:Env} {v:Value},ArgsR l w sh asx E→asx[i]?=some [pV v]→(E.getD i []).getD 0 d=v
  | i,[],[],E,v,_,h=>by simp at h
  | i,[],_::_,E,v,h,_=>h.elim
  | i,_::_,[],E,v,h,_=>h.elim
  | 0,s::sh,ps::asx,E,v,⟨cs,E',e,_,h2,_⟩,h=>by
    simp only [List.getElem?_cons_zero,Option.some.injEq] at h
    subst h
    obtain ⟨c1,c2,rfl,h3,h4⟩:=h2
    have e1:c1=[v]:=h3.1
    subst e1
    subst e
    rfl
  | i+1,s::sh,ps::asx,E,v,⟨cs,E',e,_,_,h3⟩,h=>by
    subst e
    simpa using argsR_at (i:=i) h3 (by simpa using h)
theorem aCtO (o:Opt) {P:Program} {J:Jd} {f:FuncId} {shI:List (Option Nat)} {asx:List (List Pd)} {sh:List (Option Nat)} {rs:(Nat→Nat)→List AV} {D:TypeId→Bool} {tr:Tr} (hm:P.follows .mixedOrders=true) (hr:rowOf P D f o=some tr)
    (hq:(eqsOf P D f o).map (·.1)=(eqsOf P D f o).map (·.2)) (hsh:((P.funcs[f]?).map fun fn=>(fn.params.toList.mapM (shapeOf P)).map (·++o.caps))=some (some shI)) (hD:okE D (asx.map (·.map (.ro true)))=true) (hpre:preA o asx) {Γ:List (List AV)}
    (hk:∀ w0,AW P J w0 D (TellsA w0 sh rs) [] Γ tr) (hΓ:asx.map (·.map (.ro true))=Γ:=by (simp only [List.map_cons,List.map_nil]) <;> exact rfl):Ct P J f shI asx sh rs:=by
  subst hΓ
  intro w1 E hX hJ hA
  have key:∀ {shI:List (Option Nat)} {asx:List (List Pd)} {E:Env},ArgsR w1.lim w1.w shI asx E→E.length=shI.length∧(E.all fun cs=>cs.all Value.oneCell')=true∧RepE (w1.bd w1.S) w1.w (asx.map (·.map (.ro true))) E []:=by
    intro shI
    induction shI with
    | nil=>
      intro asx E h
      cases asx with
      | nil=>rw [show E=[] from h]; exact ⟨rfl,rfl,rfl,rfl⟩
      | cons _ _=>exact h.elim
    | cons s shI ih=>
      intro asx E h
      cases asx with
      | nil=>exact h.elim
      | cons ps asx=>
        obtain ⟨cs,E',rfl,h0,h1,h2⟩:=h
        obtain ⟨h3,h4,h5⟩:=ih h2
        clear h0
        refine ⟨by simp [h3],by simp only [List.all_cons,h1.one,h4]; rfl,cs,E',[],[],rfl,rfl,?_,h5⟩
        clear h3 h4 h5 h2
        induction ps generalizing cs with
        | nil=>exact ⟨h1,rfl⟩
        | cons p ps ihp=>
          obtain ⟨c1,c2,e,k1,k2⟩:=h1
          exact ⟨c1,c2,[],[],e,rfl,⟨k1,rfl⟩,ihp c2 k2⟩
  obtain ⟨h1,h2,h3⟩:=key hA
  obtain ⟨sh0,hs0,hcap⟩:∃ sh0,((P.funcs[f]?).map fun fn=>fn.params.toList.mapM (shapeOf P))=some (some sh0)∧shI=sh0++o.caps:=by
    cases hf:P.funcs[f]? with
    | none=>rw [hf] at hsh; cases hsh
    | some fn=>
      rw [hf] at hsh
      simp only [Option.map_some,Option.some.injEq] at hsh
      cases hm:fn.params.toList.mapM (shapeOf P) with
      | none=>rw [hm] at hsh; cases hsh
      | some s=>rw [hm] at hsh; simp only [Option.map_some,Option.some.injEq] at hsh; exact ⟨s,by simp [hm],hsh.symm⟩
  exact rxS (fun _ h=>by cases h) hm hr hq sh0 shI hs0 hcap h1 rfl h2 (fun i v h _=>argsR_at hA (hpre i v h)) (fun _ _ _=>False) w1.S w1.X w1.sh (hk w1 (JJ.of hX hJ) _ E w1.gh (fun d n Q h=>by simp at h) ⟨Bx.refl w1.bs,hD,[],w1.S,List.nodup_nil,⟨fun _ h=>h,fun b h=>⟨.inl h,w1.sh b h,fun _ _ _ _=>h⟩⟩,h3⟩)
end Cin
