/- Monomials in their order: the next one; how many there are. No program. -/
import Derived.Test.YthffkbbcofbceaaGreatDoorYv
import Derived.KernelRfl
import Derived.Test.YthffkbbcofbceaaGreatDoorYz
namespace Cin
open Go Go.RowKit
def nx (v:Nat) (a:M):M:=
  if vr a < 2 then (if v=1 then (a.1+1,0,0) else if v=2 then (0,a.1+1,0) else (0,0,a.1+1))
  else if vr a=2 then (if v=2 then (a.1+1,a.2.1 - 1,a.2.2) else (a.1+1,0,a.2.1 - 1))
  else (a.1,a.2.1+1,a.2.2 - 1)
def sq (v:Nat):Nat→M→M
  | 0,a=>a
  | i+1,a=>nx v (sq v i a)
def its (v:Nat) (k:Nat) (a:M):List M:=(List.range k).map fun i=>sq v i a
def Wn (v T:Nat):Nat:=
  match v with
  | 0=>1
  | 1=>T
  | 2=>T * (T+1) / 2
  | _=>T * (T+1) * (T+2) / 6
structure SqOk (v i:Nat) (a:M):Prop where
  b0:a.1≤254
  b1:a.2.1≤254
  b2:a.2.2≤254
  vr:vr a≤v
  deg:∀ T,dg a < T↔i < Wn v T
  lt:kM a < kM (nx v a)
theorem SqOk.ok {v i:Nat} {a:M} (h:SqOk v i a):a.ok:=⟨by have:=h.b0; omega,by have:=h.b1; omega,by have:=h.b2; omega⟩
def bl (v T:Nat):List M:=if T=0 then [] else its v (Wn v T) (0,0,0)
structure ElOk (v T:Nat) (a:M):Prop where
  ok:a.ok
  deg:dg a < T
  vr:vr a≤v
def wI (x lo hi:Int):Int:=if x.tmod (hi - lo+1) < 0 then lo+(x.tmod (hi - lo+1)+(hi - lo+1)) else lo+x.tmod (hi - lo+1)
theorem wI_rng {x lo hi:Int} (h:lo≤hi):lo≤wI x lo hi∧wI x lo hi≤hi:=by
  have h1:=Int.tmod_lt_of_pos x (b:=hi - lo+1) (by omega)
  have h2:=Int.lt_tmod_of_pos x (b:=hi - lo+1) (by omega)
  unfold wI
  split <;> omega
theorem aRetC {P:Program} {J:Jd} {w0:W0} {D:TypeId→Bool} {K:LK} {Γ:List (List AV)} {x:SV} {avs:List AV} {Γ':List (List AV)} {sh:List (Option Nat)} {rs:(Nat→Nat)→List AV} (γ:Nat→Nat) (ht:takeL Γ x.atoms=some (avs,Γ')) (hsh:svShp x=some sh) (hr:ConvS (avs.map AV.new) (rs γ)):AW P J w0 D (TellsA w0 sh rs) K Γ (.ret x):=by
  intro hJ L E u hL h0 w he hb
  obtain ⟨cs,os,γ',S,e1,e2,e3,e4,e5⟩:=aRet (P:=P) (rs:=fun _=>avs.map AV.new) γ ht hsh rfl hJ L E u hL h0 w he hb
  exact ⟨cs,os,γ,S,e1,e2,e3,hr _ _ _ _ e4,e5⟩
end Cin

namespace Go.Proofs.YthffkbbcofbceaaGreatDoor
open Go Go.RowKit Cin
theorem qsign_ct (x:Rat) (k:Nat) (hk:k≤1000000:=by omega):Ct Tryz.prog JT 60 [some 4] [[pQ x k]] [none] (fun _=>[.ro false (pV (.int .i64 (sgnZ x.num)))]):=by
  intro w0 E _ hJ hA
  obtain ⟨c1,E1,rfl,_,h1,hE⟩:=hA
  obtain ⟨a1,b1,c1,d1,rfl,q1⟩:=rQ h1
  subst hE
  exact (qsign_any _ x k w0.w ⟨_,_,_,_,rfl,q1⟩ hk).mono fun e w1 h=>tV h rfl
theorem qmul_ct (x y:Rat) (k j:Nat) (hk:k≤200000:=by omega) (hj:j≤200000:=by omega):Ct Tryz.prog JT 55 [some 4,some 4] [[pQ x k],[pQ y j]] [some 4] (fun _=>[.ro false (pQ (x * y) (k+j))]):=by
  intro w0 E _ hJ hA
  obtain ⟨c1,E1,rfl,_,h1,c2,E2,rfl,_,h2,hE⟩:=hA
  obtain ⟨a1,b1,c1,d1,rfl,q1⟩:=rQ h1
  obtain ⟨a2,b2,c2,d2,rfl,q2⟩:=rQ h2
  subst hE
  exact (qmul_any _ _ x y k j w0.w ⟨_,_,_,_,rfl,q1⟩ ⟨_,_,_,_,rfl,q2⟩ hk hj).mono fun e w1 h=>tQ h
theorem neg_neg (x:Rat):-(-x)=x:=by grind
theorem fresh_ct (x:Rat) (k:Nat) (hk:k≤1000000:=by omega):Ct Tryz.prog JT 73 [some 4] [[pQ x k]] [some 4] (fun _=>[.ro false (pQ x k)]):=by
  refine aCtO ⟨true,[]⟩ (D:=DD) hMix (tr:=(.em (.call 80 [.g [.c 0 0,.c 0 1,.c 0 2,.c 0 3]] [some 4]) (.em (.call 80 [.g [.c 1 0,.c 1 1,.c 1 2,.c 1 3]] [some 4]) (.ret (.v (.g [.c 2 0,.c 2 1,.c 2 2,.c 2 3])))))) (by kernel_rfl) (by kernel_rfl) (by kernel_rfl) rfl (fun _ _ h=>by cases h) (fun w0=>?_)
  refine aCall rfl (qneg_ct x k) (fun γ=>?_)
  refine aCall rfl (qneg_ct (-x) k) (fun γ=>?_)
  exact aRet (fun _=>0) rfl rfl (by rw [neg_neg]; rfl)
abbrev ZeroQ:List Value:=[.bool false,.slice none 0 0,.bool false,.slice none 0 0]
theorem absent {l:PolyL} {k:Nat} {m:M} (h:∀ row,(mVal m,row) ∉ entsP l k):∀ x∈l,x.1≠m:=fun x hx e=>h [pQ x.2 k] (List.mem_map.2 ⟨x,hx,by rw [e]⟩)
theorem cadd_ct (l:PolyL) (g:Nat) (m:M) (c:Rat) (k j:Nat) (hl:GoodP l) (hm:m.ok) (hf:FitP (fitQ k) (insT l (m,c))) (hk:k≤100000:=by omega) (hj:j≤100000:=by omega) :
    CtM Tryz.prog JT 76 [none,some 3,some 4] [[pV (.map (some g))],mV m,[pQ c j]] (.map g cM (entsP l k)) [] (fun _=>.map g cM (entsP (insT l (m,c)) k)) (fun _=>[]):=by
  refine aCtM ⟨true,[]⟩ (D:=DD) hMix (tr:=(.em (.lt (.lookup 29 (.tmp 0) (.tmp 1) true) 172 [.s (.c 0 0),.g [.c 1 0,.c 1 1,.c 1 2]] [some 4,none]) (.cond (.c 3 4) (.em (.call 54 [.g [.c 3 0,.c 3 1,.c 3 2,.c 3 3],.g [.c 2 0,.c 2 1,.c 2 2,.c 2 3]] [some 4]) (.em (.call 60 [.g [.c 4 0,.c 4 1,.c 4 2,.c 4 3]] [none]) (.em (.pr (.binOp .eql 3 (.tmp 0) (.const (.int .i64 0)) 3) 4 [.s (.c 5 0),.s (.k (.int .i64 0))]) (.cond (.c 6 0) (.em (.wt (.call (.mk (.builtin .delete) #[.tmp 0,.tmp 1] #[29,25])) 0 [.s (.c 0 0),.g [.c 1 0,.c 1 1,.c 1 2]] []) (.ret (.t []))) (.em (.wx (.mapUpdate 29 (.tmp 0) (.tmp 1) (.tmp 2)) 0 [.s (.c 0 0),.g [.c 1 0,.c 1 1,.c 1 2],.g [.c 4 0,.c 4 1,.c 4 2,.c 4 3]] none) (.ret (.t []))))))) (.em (.call 60 [.g [.c 2 0,.c 2 1,.c 2 2,.c 2 3]] [none]) (.em (.pr (.binOp .eql 3 (.tmp 0) (.const (.int .i64 0)) 3) 4 [.s (.c 4 0),.s (.k (.int .i64 0))]) (.cond (.c 5 0) (.em (.wt (.call (.mk (.builtin .delete) #[.tmp 0,.tmp 1] #[29,25])) 0 [.s (.c 0 0),.g [.c 1 0,.c 1 1,.c 1 2]] []) (.ret (.t []))) (.em (.wx (.mapUpdate 29 (.tmp 0) (.tmp 1) (.tmp 2)) 0 [.s (.c 0 0),.g [.c 1 0,.c 1 1,.c 1 2],.g [.c 2 0,.c 2 1,.c 2 2,.c 2 3]] none) (.ret (.t []))))))))) (by kernel_rfl) (by kernel_rfl) (by kernel_rfl) rfl rfl (fun _ _ h=>by cases h) (fun w0 hX=>?_)
  refine aLookOk (m:=cM) (kv:=mVal m) (en:=entsP l k) (e:=56) (zs:=ZeroQ) (MapIn.own (a:=0) (b:=1) rfl rfl) rfl ⟨m,hm,rfl⟩ cK (entsP_fit _ _) (fun row hr=>?_) (fun hr=>?_)
  · obtain ⟨x,hx,h1,rfl⟩:=entsP_mem hr
    obtain rfl:=mVal_inj h1
    obtain ⟨i,hi⟩:=List.getElem?_of_mem hx
    have hins:=insT_at (t:=(x.1,c)) hl.nd hi rfl
    refine aTrue rfl ?_
    refine aCall rfl (qadd_ct x.2 c k j) (fun γ=>?_)
    refine aCall rfl (qsign_ct (x.2+c) (k+j+1)) (fun γ=>?_)
    refine aPrE rfl (prEq rfl rfl) (congrArg Value.bool sgnR_zero) rfl ?_
    refine aIf rfl (fun h0=>?_) (fun h0=>?_)
    · have h0:x.2+c=0:=of_decide_eq_true h0
      rw [if_pos h0] at hins
      refine aDel (m:=cM) (kv:=mVal x.1) (e:=56) 0 1 rfl rfl rfl ⟨x.1,hm,rfl⟩ cK (fun en' hd _=>?_)
      obtain rfl:=(entsP_del hd hl.nd).2 i x hi rfl
      exact aRetM (fun _=>0) 1 hX rfl rfl rfl (by rw [hins]; rfl)
    · have h0:¬ x.2+c=0:=of_decide_eq_false h0
      rw [if_neg h0] at hins
      have hfx:fitQ k (x.2+c):=hf (x.1,x.2+c) (by rw [hins]; exact List.mem_of_getElem? (List.getElem?_set_self (List.getElem?_eq_some_iff.1 hi).1))
      refine aConv 4 [.ro false (pQ (x.2+c) k)] rfl (ConvS.qfit hfx ConvS.nil) ?_
      refine aPut (m:=cM) (kv:=mVal x.1) (e:=56) 0 1 rfl rfl rfl ⟨x.1,hm,rfl⟩ cK rfl (fun en' hd _=>?_)
      obtain rfl:=(entsP_put hd hl.nd).2 i x hi rfl
      exact aRetM (fun _=>0) 1 hX rfl rfl rfl (by rw [hins]; rfl)
  · have hab:=absent hr
    have hins:=insT_new (t:=(m,c)) hab
    refine aFalse rfl ?_
    refine aCall rfl (qsign_ct c j) (fun γ=>?_)
    refine aPrE rfl (prEq rfl rfl) (congrArg Value.bool sgnR_zero) rfl ?_
    refine aIf rfl (fun h0=>?_) (fun h0=>?_)
    · have h0:c=0:=of_decide_eq_true h0
      rw [if_pos h0] at hins
      refine aDel (m:=cM) (kv:=mVal m) (e:=56) 0 1 rfl rfl rfl ⟨m,hm,rfl⟩ cK (fun en' hd _=>?_)
      obtain rfl:=(entsP_del hd hl.nd).1 hab
      exact aRetM (fun _=>0) 1 hX rfl rfl rfl (by rw [hins]; rfl)
    · have h0:¬ c=0:=of_decide_eq_false h0
      rw [if_neg h0] at hins
      have hfx:fitQ k c:=hf (m,c) (by rw [hins]; simp)
      refine aConv 2 [.ro true (pQ c k)] rfl (ConvS.qfit hfx ConvS.nil) ?_
      refine aPut (m:=cM) (kv:=mVal m) (e:=56) 0 1 rfl rfl rfl ⟨m,hm,rfl⟩ cK rfl (fun en' hd _=>?_)
      obtain rfl:=(entsP_put hd hl.nd).1 hab
      exact aRetM (fun _=>0) 1 hX rfl rfl rfl (by rw [hins]; rfl)
theorem ctake_ct (q p:PolyL) (k:Nat) (h:q.Perm p):Ct Tryz.prog JT 62 [none] [[pMapP q k]] [some 1] (fun _=>[.ro false (pP p k)]):=by
  refine aCtO ⟨true,[]⟩ (D:=DD) hMix (tr:=(.em (.ld (.call (.mk (.builtin .len) #[.tmp 0] #[29])) 3 [.s (.c 0 0)] none) (.em (.pr (.binOp .eql 3 (.tmp 0) (.const (.int .i64 0)) 3) 4 [.s (.c 1 0),.s (.k (.int .i64 0))]) (.cond (.c 2 0) (.ret (.v (.g [.k (.map none)]))) (.ret (.v (.g [.c 0 0]))))))) (by kernel_rfl) (by kernel_rfl) (by kernel_rfl) rfl (fun _ _ h=>by cases h) (fun w0=>?_)
  refine aLenM (kt:=25) (m:=cM) (en:=entsP q k) (e:=56) (MapIn.ro (i:=0) (j:=0) rfl) ?_
  refine aPr rfl (prEq rfl rfl) rfl ?_
  refine aIf rfl (fun h1=>?_) (fun h1=>?_)
  · have h2:q=[]:=by
      have:=entsP_len q k
      simp [this] at h1
      exact h1
    subst h2
    exact aRetC (fun _=>0) rfl rfl (ConvS.nilP h.symm.eq_nil ConvS.nil)
  · exact aRetC (fun _=>0) rfl rfl (ConvS.shut h ConvS.nil)
def ptR:Rty:=⟨65,7,[202],[]⟩
def rowsQ (p:PolyL) (k:Nat):List (List Pd):=p.map fun x=>mV x.1++[pQ x.2 k]
abbrev pTm (p:PolyL) (k:Nat):Pd:=pRows ptR (rowsQ p k)
theorem rowsQ_len (p:PolyL) (k:Nat):(rowsQ p k).length=p.length:=List.length_map _
theorem rowQ_at {p:PolyL} {i k:Nat} {x:M × Rat} (h:p[i]?=some x):(rowsQ p k)[i]?=some [pV (.int .u8 (x.1.1:Nat)),pV (.int .u8 (x.1.2.1:Nat)),pV (.int .u8 (x.1.2.2:Nat)),pQ x.2 k]:=by simp [rowsQ,h]
theorem new_ct (ts:PolyL) (k:Nat) (ht:OkP ts) (hf:FitSub (fitQ k) [] ts) (hl:ts.length≤1000000) (hk:k≤100000:=by omega):Ct Tryz.prog JT 28 [none] [[pTm ts k]] [some 1] (fun _=>[.ro false (pP (addP [] ts) k)]):=by
  refine aCtX ⟨true,[]⟩ (D:=DP) hMix (tr:=(.em (.wx (.makeMap 29 none) 29 [] (some none)) (.em (.pr (.call (.mk (.builtin .len) #[.tmp 0] #[45])) 3 [.s (.c 0 0)]) (.loop 0 [.k (.int .i64 0)] (.em (.pr (.binOp .lss 3 (.tmp 0) (.tmp 1) 3) 0 [.s (.c 3 0),.s (.c 2 0)]) (.cond (.c 4 0) (.em (.pr (.indexAddr 45 (.tmp 0) (.tmp 1)) 0 [.s (.c 0 0),.s (.c 3 0)]) (.em (.ld (.load 65 (.tmp 0)) 65 [.s (.c 5 0)] (some 7)) (.em (.call 73 [.g [.c 6 3,.c 6 4,.c 6 5,.c 6 6]] [some 4]) (.em (.call 76 [.s (.c 1 0),.g [.c 6 0,.c 6 1,.c 6 2],.g [.c 7 0,.c 7 1,.c 7 2,.c 7 3]] []) (.em (.pr (.binOp .add 3 (.tmp 0) (.const (.int .i64 1)) 3) 3 [.s (.c 3 0),.s (.k (.int .i64 1))]) (.back 0 [.c 9 0])))))) (.em (.call 62 [.s (.c 1 0)] [some 1]) (.ret (.v (.g [.c 5 0])))))))))) (by kernel_rfl) (by kernel_rfl) (by kernel_rfl) rfl (fun _ _ h=>by cases h) (fun w0 h0=>?_)
  refine aMakeMap cM (k':=25) (e:=56) (fun g=>?_)
  refine aLen rfl (rowsQ_len ts k) ?_
  refine aLoopU [(1,1,fun s:Nat × PolyL=>.map g cM (entsP s.2 k))] (fun s:Nat × PolyL=>[.ro true (pV (.int .i64 (s.1:Nat)))]) (fun s=>s.1≤ts.length∧s.2.Perm (addP [] (ts.take s.1))) (fun s=>ts.length - s.1) (0,[]) ⟨Nat.zero_le _,List.Perm.refl _⟩ (fun ⟨i,s⟩ ⟨hi,hs⟩=>?_)
  refine aPr rfl (prLt rfl rfl) rfl ?_
  refine aIf rfl (fun h1=>?_) (fun h1=>?_)
  · have hlt:i < ts.length:=by simpa using h1
    obtain ⟨x,hx⟩:∃ x,ts[i]?=some x:=⟨_,List.getElem?_eq_getElem hlt⟩
    have hxo:=ht x (List.mem_of_getElem? hx)
    have hot:OkP (ts.take i):=fun y hy=>ht y (List.mem_of_mem_take hy)
    have hst:=addP_step (p:=[]) hx
    have hp:=ins_perm (t:=x) hs (Canon.of hot) hxo
    rw [← hst] at hp
    refine aIdx rfl rfl (fun _=>rfl) (by omega) (rowQ_at hx) ?_
    refine aLd rfl rfl rfl ?_
    refine aCall rfl (fresh_ct x.2 k) (fun γ=>?_)
    refine aCallM 1 1 rfl rfl (cadd_ct s g x.1 x.2 k k (GoodP.perm hs (Canon.of hot).good) hxo (FitP.perm hp (hf _ (ts.drop (i+1)) (by rw [List.take_append_drop]))) ) (fun γ=>?_)
    refine aPr rfl (qAddE (z:=(i+1:Nat)) rfl rfl (by omega) (by omega) (by omega)) rfl ?_
    exact aBack rfl rfl ⟨(i+1,insT s x),rfl,rfl,⟨hlt,hp⟩,by show ts.length - (i+1) < ts.length - i; omega⟩
  · have hil:i=ts.length:=by have:¬ i < ts.length:=(by simpa using h1); omega
    subst hil
    rw [List.take_length] at hs
    refine aFreeze 1 0 1 1 rfl rfl h0 ?_
    refine aCall rfl (ctake_ct s (addP [] ts) k hs) (fun γ=>?_)
    exact aRet (fun _=>0) rfl rfl rfl
theorem qof1_ct:Ct Tryz.prog JT 58 [none] [[pV (.int .i64 1)]] [some 4] (fun _=>[.ro false (pQ 1 2)]):=by
  intro w0 E _ hJ hA
  obtain ⟨c1,E1,rfl,_,h1,hE⟩:=hA
  obtain rfl:=rV h1
  subst hE
  exact (qof_any 1 w0.w (by decide) (by decide)).mono fun e w1 h=>tQ h
theorem var_ct (i:Int) (hi:0≤i∧i < 3):Ct Tryz.prog JT 39 [none] [[pV (.int .i64 i)]] [some 1] (fun _=>[.ro false (pP (varP i) 2)]):=by
  refine aCtX ⟨true,[]⟩ (D:=DP) hMix (tr:=(.em (.pr (.binOp .lss 3 (.tmp 0) (.const (.int .i64 0)) 3) 4 [.s (.c 0 0),.s (.k (.int .i64 0))]) (.cond (.c 1 0) (.ret (.v (.g [.k (.map none)]))) (.em (.pr (.binOp .geq 3 (.tmp 0) (.const (.int .i64 3)) 3) 4 [.s (.c 0 0),.s (.k (.int .i64 3))]) (.cond (.c 2 0) (.ret (.v (.g [.k (.map none)]))) (.ifeq (.c 0 0) (.int .i64 0) (.both (.em (.wx (.makeMap 29 none) 29 [] (some none)) (.em (.call 58 [.s (.k (.int .i64 1))] [some 4]) (.em (.wx (.mapUpdate 29 (.tmp 0) (.tmp 1) (.tmp 2)) 0 [.s (.c 3 0),.g [.k (.int .u8 1),.k (.int .u8 0),.k (.int .u8 0)],.g [.c 4 0,.c 4 1,.c 4 2,.c 4 3]] none) (.ret (.v (.g [.c 3 0])))))) (.em (.call 58 [.s (.k (.int .i64 1))] [some 4]) (.em (.wx (.makeMap 29 none) 29 [] (some none)) (.em (.wx (.mapUpdate 29 (.tmp 0) (.tmp 1) (.tmp 2)) 0 [.s (.c 4 0),.g [.k (.int .u8 1),.k (.int .u8 0),.k (.int .u8 0)],.g [.c 3 0,.c 3 1,.c 3 2,.c 3 3]] none) (.ret (.v (.g [.c 4 0]))))))) (.ifeq (.c 0 0) (.int .i64 1) (.both (.em (.wx (.makeMap 29 none) 29 [] (some none)) (.em (.call 58 [.s (.k (.int .i64 1))] [some 4]) (.em (.wx (.mapUpdate 29 (.tmp 0) (.tmp 1) (.tmp 2)) 0 [.s (.c 3 0),.g [.k (.int .u8 0),.k (.int .u8 1),.k (.int .u8 0)],.g [.c 4 0,.c 4 1,.c 4 2,.c 4 3]] none) (.ret (.v (.g [.c 3 0])))))) (.em (.call 58 [.s (.k (.int .i64 1))] [some 4]) (.em (.wx (.makeMap 29 none) 29 [] (some none)) (.em (.wx (.mapUpdate 29 (.tmp 0) (.tmp 1) (.tmp 2)) 0 [.s (.c 4 0),.g [.k (.int .u8 0),.k (.int .u8 1),.k (.int .u8 0)],.g [.c 3 0,.c 3 1,.c 3 2,.c 3 3]] none) (.ret (.v (.g [.c 4 0]))))))) (.ifeq (.c 0 0) (.int .i64 2) (.both (.em (.wx (.makeMap 29 none) 29 [] (some none)) (.em (.call 58 [.s (.k (.int .i64 1))] [some 4]) (.em (.wx (.mapUpdate 29 (.tmp 0) (.tmp 1) (.tmp 2)) 0 [.s (.c 3 0),.g [.k (.int .u8 0),.k (.int .u8 0),.k (.int .u8 1)],.g [.c 4 0,.c 4 1,.c 4 2,.c 4 3]] none) (.ret (.v (.g [.c 3 0])))))) (.em (.call 58 [.s (.k (.int .i64 1))] [some 4]) (.em (.wx (.makeMap 29 none) 29 [] (some none)) (.em (.wx (.mapUpdate 29 (.tmp 0) (.tmp 1) (.tmp 2)) 0 [.s (.c 4 0),.g [.k (.int .u8 0),.k (.int .u8 0),.k (.int .u8 1)],.g [.c 3 0,.c 3 1,.c 3 2,.c 3 3]] none) (.ret (.v (.g [.c 4 0]))))))) .nope)))))))) (by kernel_rfl) (by kernel_rfl) (by kernel_rfl) rfl (fun _ _ h=>by cases h) (fun w0 h0=>?_)
  refine aPr rfl (prLt rfl rfl) rfl ?_
  refine aFalse (by show some (Value.bool (decide _))=_; rw [decide_eq_false (by omega)]) ?_
  refine aPr rfl (prGe rfl rfl) rfl ?_
  refine aFalse (by show some (Value.bool (decide _))=_; rw [decide_eq_false (by omega)]) ?_
  refine aEq rfl (fun h=>?_) (fun h=>?_)
  · cases h
    refine aTwo ?_ ?_
    · refine aMakeMap cM (k':=25) (e:=56) (fun g=>?_)
      refine aCall rfl qof1_ct (fun γ=>?_)
      refine aPut (m:=cM) (kv:=mVal (1,0,0)) (e:=56) 3 1 rfl rfl rfl ⟨_,by decide,rfl⟩ cK rfl (fun en' hd _=>?_)
      obtain rfl:=(entsP_put (l:=[]) hd List.nodup_nil).1 (fun _ h=>by cases h)
      refine aFreeze 3 0 3 1 rfl rfl h0 ?_
      exact aRetC (fun _=>0) rfl rfl (ConvS.shut (q:=varP 0) (List.Perm.refl _) ConvS.nil)
    · refine aCall rfl qof1_ct (fun γ=>?_)
      refine aMakeMap cM (k':=25) (e:=56) (fun g=>?_)
      refine aPut (m:=cM) (kv:=mVal (1,0,0)) (e:=56) 4 1 rfl rfl rfl ⟨_,by decide,rfl⟩ cK rfl (fun en' hd _=>?_)
      obtain rfl:=(entsP_put (l:=[]) hd List.nodup_nil).1 (fun _ h=>by cases h)
      refine aFreeze 4 0 4 1 rfl rfl h0 ?_
      exact aRetC (fun _=>0) rfl rfl (ConvS.shut (q:=varP 0) (List.Perm.refl _) ConvS.nil)
  refine aEq rfl (fun h'=>?_) (fun h'=>?_)
  · cases h'
    refine aTwo ?_ ?_
    · refine aMakeMap cM (k':=25) (e:=56) (fun g=>?_)
      refine aCall rfl qof1_ct (fun γ=>?_)
      refine aPut (m:=cM) (kv:=mVal (0,1,0)) (e:=56) 3 1 rfl rfl rfl ⟨_,by decide,rfl⟩ cK rfl (fun en' hd _=>?_)
      obtain rfl:=(entsP_put (l:=[]) hd List.nodup_nil).1 (fun _ h=>by cases h)
      refine aFreeze 3 0 3 1 rfl rfl h0 ?_
      exact aRetC (fun _=>0) rfl rfl (ConvS.shut (q:=varP 1) (List.Perm.refl _) ConvS.nil)
    · refine aCall rfl qof1_ct (fun γ=>?_)
      refine aMakeMap cM (k':=25) (e:=56) (fun g=>?_)
      refine aPut (m:=cM) (kv:=mVal (0,1,0)) (e:=56) 4 1 rfl rfl rfl ⟨_,by decide,rfl⟩ cK rfl (fun en' hd _=>?_)
      obtain rfl:=(entsP_put (l:=[]) hd List.nodup_nil).1 (fun _ h=>by cases h)
      refine aFreeze 4 0 4 1 rfl rfl h0 ?_
      exact aRetC (fun _=>0) rfl rfl (ConvS.shut (q:=varP 1) (List.Perm.refl _) ConvS.nil)
  refine aEq rfl (fun h''=>?_) (fun h''=>?_)
  · cases h''
    refine aTwo ?_ ?_
    · refine aMakeMap cM (k':=25) (e:=56) (fun g=>?_)
      refine aCall rfl qof1_ct (fun γ=>?_)
      refine aPut (m:=cM) (kv:=mVal (0,0,1)) (e:=56) 3 1 rfl rfl rfl ⟨_,by decide,rfl⟩ cK rfl (fun en' hd _=>?_)
      obtain rfl:=(entsP_put (l:=[]) hd List.nodup_nil).1 (fun _ h=>by cases h)
      refine aFreeze 3 0 3 1 rfl rfl h0 ?_
      exact aRetC (fun _=>0) rfl rfl (ConvS.shut (q:=varP 2) (List.Perm.refl _) ConvS.nil)
    · refine aCall rfl qof1_ct (fun γ=>?_)
      refine aMakeMap cM (k':=25) (e:=56) (fun g=>?_)
      refine aPut (m:=cM) (kv:=mVal (0,0,1)) (e:=56) 4 1 rfl rfl rfl ⟨_,by decide,rfl⟩ cK rfl (fun en' hd _=>?_)
      obtain rfl:=(entsP_put (l:=[]) hd List.nodup_nil).1 (fun _ h=>by cases h)
      refine aFreeze 4 0 4 1 rfl rfl h0 ?_
      exact aRetC (fun _=>0) rfl rfl (ConvS.shut (q:=varP 2) (List.Perm.refl _) ConvS.nil)
  · exact absurd (show Value.int .i64 i=Value.int .i64 0∨Value.int .i64 i=Value.int .i64 1∨Value.int .i64 i=Value.int .i64 2 from by
      rcases (show i=0∨i=1∨i=2 by omega) with rfl | rfl | rfl <;> simp) (by
      rintro (e | e | e)
      · exact h e
      · exact h' e
      · exact h'' e)
theorem const_ct (c:Rat) (k:Nat) (hf:fitQ k c) (hk:k≤100000:=by omega):Ct Tryz.prog JT 41 [some 4] [[pQ c k]] [some 1] (fun _=>[.ro false (pP (constP c) k)]):=by
  have hc:constP c=addP [] [((0,0,0),c)]:=rfl
  refine aCtO ⟨true,[]⟩ (D:=DP) hMix (tr:=(.em (.wx (.buildSlice 45 1 #[(0,.tmp 0)]) 45 [.g [.k (.int .u8 0),.k (.int .u8 0),.k (.int .u8 0),.c 0 0,.c 0 1,.c 0 2,.c 0 3]] (some none)) (.em (.call 28 [.s (.c 1 0)] [some 1]) (.ret (.v (.g [.c 2 0])))))) (by kernel_rfl) (by kernel_rfl) (by kernel_rfl) rfl (fun _ _ h=>by cases h) (fun w0=>?_)
  refine aBuild ptR rfl (fun g=>?_)
  refine aCall (asx:=[[pTm [((0,0,0),c)] k]]) rfl (new_ct [((0,0,0),c)] k (fun x hx=>by rw [List.mem_singleton.1 hx]; exact ⟨Nat.zero_le _,Nat.zero_le _,Nat.zero_le _⟩) (fun l r h=>?_) (show 1≤1000000 by decide)) (fun γ=>?_)
  · have hl:l=[]∨l=[((0,0,0),c)]:=by
      have h1:=h.length_eq
      match l,h,h1 with
      | [],_,_=>exact .inl rfl
      | [x],h,h1=>
        have:r=[]:=by simp at h1; exact h1
        subst this
        have:=h.mem_iff (a:=x)
        simp at this
        exact .inr (by rw [this])
      | x::y::l,_,h1=>simp at h1
    rcases hl with rfl | rfl
    · exact fun _ h=>by cases h
    · intro x hx
      simp only [addP,List.foldl_cons,List.foldl_nil,putP] at hx
      split at hx
      · cases hx
      · rw [List.mem_singleton.1 hx]; exact hf
  · exact aRet (fun _=>0) rfl rfl rfl
end Go.Proofs.YthffkbbcofbceaaGreatDoor

namespace Go.Proofs.YthffkbbcofbceaaGreatDoor
open Go Go.RowKit Cin
theorem entsP_split {left:PolyL} {k:Nat} {l1 l2:Ents} {c:Value × List Pd} (h:entsP left k=l1++c::l2):∃ L1 x L2,left=L1++x::L2∧l1=entsP L1 k∧c=(mVal x.1,[pQ x.2 k])∧l2=entsP L2 k:=by
  obtain ⟨L1,R,rfl,h1,h2⟩:=List.map_eq_append_iff.1 h
  obtain ⟨x,L2,rfl,h3,h4⟩:=List.map_eq_cons_iff.1 h2
  exact ⟨L1,x,L2,rfl,h1.symm,h3.symm,h4.symm⟩
theorem entsP_app (a b:PolyL) (k:Nat):entsP a k++entsP b k=entsP (a++b) k:=by simp [entsP]
theorem entsP_nil {l:PolyL} {k:Nat} (h:entsP l k=[]):l=[]:=by simpa [entsP] using h
theorem perm_step {α:Type} {d L1 L2 q:List α} {x:α} (h:(d++(L1++x::L2)).Perm q):((d++[x])++(L1++L2)).Perm q:=by
  refine List.Perm.trans ?_ h
  rw [List.append_assoc]
  exact List.Perm.append_left d (List.perm_middle (l₁:=L1) (l₂:=L2) (a:=x)).symm
abbrev Rg:=PolyL × PolyL × Option (Value × List Pd)
theorem joinF_ct (p q:PolyL) (k:Nat) (hp:Canon p) (hq:OkP q) (hf:FitSub (fitQ k) p (q.map fun x=>(x.1,x.2))) (hlp:p.length≤1000000) (hlq:q.length≤1000000) (hk:k≤100000:=by omega) :
    Ct Tryz.prog JT 79 [some 1,some 1,none] [[pP p k],[pP q k],[pV (.func (.func 73) #[] #[])]] [some 1] (fun _=>[.ro false (pP (addP p (q.map fun x=>(x.1,x.2))) k)]):=by
  refine aCtX ⟨true,[(2,.func (.func 73) #[] #[])]⟩ (D:=DP) hMix (tr:=(.em (.ld (.call (.mk (.builtin .len) #[.tmp 0] #[29])) 3 [.s (.c 0 0)] none) (.em (.ld (.call (.mk (.builtin .len) #[.tmp 0] #[29])) 3 [.s (.c 1 0)] none) (.em (.pr (.binOp .add 3 (.tmp 0) (.tmp 1) 3) 3 [.s (.c 3 0),.s (.c 4 0)]) (.em (.wx (.makeMap 29 (some (.tmp 0))) 29 [.s (.c 5 0)] (some none)) (.em (.wx (.range 29 (.tmp 0)) 0 [.s (.c 0 0)] (some none)) (.loop 0 [] (.em (.nx (.next (.tmp 0) false) 0 [.s (.c 7 0)] [some 3,some 4]) (.cond (.c 9 0) (.em (.lt (.entry (.tmp 0)) 0 [.s (.c 7 0)] [some 3,some 4]) (.em (.call 73 [.g [.c 10 3,.c 10 4,.c 10 5,.c 10 6]] [some 4]) (.em (.wx (.mapUpdate 29 (.tmp 0) (.tmp 1) (.tmp 2)) 0 [.s (.c 6 0),.g [.c 10 0,.c 10 1,.c 10 2],.g [.c 11 0,.c 11 1,.c 11 2,.c 11 3]] none) (.back 0 [])))) (.em (.wx (.range 29 (.tmp 0)) 0 [.s (.c 1 0)] (some none)) (.loop 0 [] (.em (.nx (.next (.tmp 0) false) 0 [.s (.c 10 0)] [some 3,some 4]) (.cond (.c 12 0) (.em (.lt (.entry (.tmp 0)) 0 [.s (.c 10 0)] [some 3,some 4]) (.em (.call 73 [.g [.c 13 3,.c 13 4,.c 13 5,.c 13 6]] [some 4]) (.em (.call 76 [.s (.c 6 0),.g [.c 13 0,.c 13 1,.c 13 2],.g [.c 14 0,.c 14 1,.c 14 2,.c 14 3]] []) (.back 0 [])))) (.em (.call 62 [.s (.c 6 0)] [some 1]) (.ret (.v (.g [.c 13 0]))))))))))))))))) (by kernel_rfl) (by kernel_rfl) (by kernel_rfl) rfl (fun i v h=>?_) (fun w0 h0=>?_)
  · match i,h with
    | 0,h=>cases h
    | 1,h=>cases h
    | 2,h=>cases h; rfl
    | _+3,h=>cases h
  refine aOpen 0 0 rfl rfl (fun p0 hp0=>?_)
  refine aOpen 1 0 rfl rfl (fun q0 hq0=>?_)
  have hlp0:=hp0.length_eq
  have hlq0:=hq0.length_eq
  refine aLenM (kt:=25) (m:=cM) (en:=entsP p0 k) (e:=56) (MapIn.ro (i:=0) (j:=0) rfl) ?_
  refine aLenM (kt:=25) (m:=cM) (en:=entsP q0 k) (e:=56) (MapIn.ro (i:=1) (j:=0) rfl) ?_
  refine aPr rfl (qAddE (z:=(p0.length+q0.length:Nat)) rfl rfl (by rw [entsP_len,entsP_len]; omega) (by omega) (by omega)) rfl ?_
  refine aMakeMap cM (k':=25) (e:=56) (hr:=.inr ⟨_,_,_,_,rfl,rfl,rfl,fun E=>rfl⟩) (fun g=>?_)
  refine aRange (m:=cM) (en:=entsP p0 k) (kt:=25) (e:=56) (i:=0) (j:=0) rfl (fun gi=>?_)
  refine aLoopU [(6,1,fun s:Rg=>.map g cM (entsP s.1 k)),(7,1,fun s:Rg=>.iter gi cM s.2.2 (entsP s.2.1 k))] (fun _=>[]) (fun s=>(s.1++s.2.1).Perm p0) (fun s=>s.2.1.length) ([],p0,none) (List.Perm.refl _) (fun ⟨s,left,cur⟩ hs=>?_)
  have hgd:GoodP (s++left):=GoodP.perm hs (GoodP.perm hp0 hp.good)
  refine aNext (m:=cM) (kt:=25) 7 1 rfl rfl cK rfl (fun c l1 l2 hc _=>?_) (fun hc=>?_)
  · obtain ⟨L1,x,L2,rfl,rfl,rfl,rfl⟩:=entsP_split hc
    rw [entsP_app]
    refine aTrue rfl ?_
    refine aEntry (m:=cM) (kt:=25) 7 1 rfl rfl cK ?_
    refine aCall rfl (fresh_ct x.2 k) (fun γ=>?_)
    refine aPut (m:=cM) (kv:=mVal x.1) (e:=56) 6 1 rfl rfl rfl ⟨x.1,hgd.ok x (by simp),rfl⟩ cK rfl (fun en' hd _=>?_)
    have hst:=perm_step hs
    have hnd:((s.map (·.1))++(L1++x::L2).map (·.1)).Nodup:=by rw [← List.map_append]; exact hgd.nd
    have hab:∀ y∈s,y.1≠x.1:=fun y hy=>(List.nodup_append.1 hnd).2.2 _ (List.mem_map.2 ⟨y,hy,rfl⟩) _ (List.mem_map.2 ⟨x,by simp,rfl⟩)
    obtain rfl:=(entsP_put hd (List.nodup_append.1 hnd).1).1 hab
    exact aBack rfl rfl ⟨(s++[x],L1++L2,some (mVal x.1,[pQ x.2 k])),rfl,rfl,hst,by simp⟩
  · obtain rfl:=entsP_nil hc
    rw [List.append_nil] at hs
    have hs:=hs.trans hp0
    refine aFalse rfl ?_
    refine aRange (m:=cM) (en:=entsP q0 k) (kt:=25) (e:=56) (i:=1) (j:=0) rfl (fun gj=>?_)
    refine aLoopU [(6,1,fun t:PolyL × Rg=>.map g cM (entsP t.1 k)),(10,1,fun t:PolyL × Rg=>.iter gj cM t.2.2.2 (entsP t.2.2.1 k))] (fun _=>[]) (fun t=>(t.2.1++t.2.2.1).Perm q0∧t.1.Perm (addP p (t.2.1.map fun x=>(x.1,x.2)))) (fun t=>t.2.2.1.length) (s,[],q0,none) ⟨List.Perm.refl _,hs⟩ (fun ⟨t,done,left,cur⟩ ⟨hd,ht⟩=>?_)
    have hok:∀ y∈done++left,y.1.ok:=fun y hy=>hq y (hq0.mem_iff.1 (hd.mem_iff.1 hy))
    have hod:OkP (done.map fun x=>(x.1,x.2)):=fun y hy=>by
      obtain ⟨z,hz,rfl⟩:=List.mem_map.1 hy
      exact hok z (List.mem_append_left _ hz)
    refine aNext (m:=cM) (kt:=25) 10 1 rfl rfl cK rfl (fun c l1 l2 hc _=>?_) (fun hc=>?_)
    · obtain ⟨L1,x,L2,rfl,rfl,rfl,rfl⟩:=entsP_split hc
      rw [entsP_app]
      refine aTrue rfl ?_
      refine aEntry (m:=cM) (kt:=25) 10 1 rfl rfl cK ?_
      refine aCall rfl (fresh_ct x.2 k) (fun γ=>?_)
      have hxo:x.1.ok:=hok x (by simp)
      have hst:=perm_step hd
      have hmp:(done++[x]).map (fun x=>(x.1,x.2))=(done.map fun x=>(x.1,x.2))++[(x.1,x.2)]:=by simp
      have hpp:=ins_perm (t:=(x.1,x.2)) ht (hp.add hod) hxo
      rw [← addP_snoc,← hmp] at hpp
      refine aCallM 6 1 rfl rfl (cadd_ct t g x.1 (x.2) k k (GoodP.perm ht (hp.add hod).good) hxo (FitP.perm hpp (hf _ ((L1++L2).map fun x=>(x.1,x.2)) (by rw [← List.map_append]; exact (hst.trans hq0).map _)))) (fun γ=>?_)
      exact aBack rfl rfl ⟨(insT t (x.1,x.2),done++[x],L1++L2,some (mVal x.1,[pQ x.2 k])),rfl,rfl,⟨hst,hpp⟩,by simp⟩
    · obtain rfl:=entsP_nil hc
      rw [List.append_nil] at hd
      refine aFalse rfl ?_
      refine aFreeze 6 0 6 1 rfl rfl h0 ?_
      have ht:t.Perm (addP p (q.map fun x=>(x.1,x.2))):=by
        rw [← addP_perm hp (fun y hy=>by obtain ⟨z,hz,rfl⟩:=List.mem_map.1 hy; exact hq z hz) ((hd.trans hq0).map fun x=>(x.1,x.2))]; exact ht
      refine aCall rfl (ctake_ct t _ k ht) (fun γ=>?_)
      exact aRet (fun _=>0) rfl rfl rfl
theorem joinN_ct (p q:PolyL) (k:Nat) (hp:Canon p) (hq:OkP q) (hf:FitSub (fitQ k) p (q.map fun x=>(x.1,-x.2))) (hlp:p.length≤1000000) (hlq:q.length≤1000000) (hk:k≤100000:=by omega) :
    Ct Tryz.prog JT 79 [some 1,some 1,none] [[pP p k],[pP q k],[pV (.func (.func 80) #[] #[])]] [some 1] (fun _=>[.ro false (pP (addP p (q.map fun x=>(x.1,-x.2))) k)]):=by
  refine aCtX ⟨true,[(2,.func (.func 80) #[] #[])]⟩ (D:=DP) hMix (tr:=(.em (.ld (.call (.mk (.builtin .len) #[.tmp 0] #[29])) 3 [.s (.c 0 0)] none) (.em (.ld (.call (.mk (.builtin .len) #[.tmp 0] #[29])) 3 [.s (.c 1 0)] none) (.em (.pr (.binOp .add 3 (.tmp 0) (.tmp 1) 3) 3 [.s (.c 3 0),.s (.c 4 0)]) (.em (.wx (.makeMap 29 (some (.tmp 0))) 29 [.s (.c 5 0)] (some none)) (.em (.wx (.range 29 (.tmp 0)) 0 [.s (.c 0 0)] (some none)) (.loop 0 [] (.em (.nx (.next (.tmp 0) false) 0 [.s (.c 7 0)] [some 3,some 4]) (.cond (.c 9 0) (.em (.lt (.entry (.tmp 0)) 0 [.s (.c 7 0)] [some 3,some 4]) (.em (.call 73 [.g [.c 10 3,.c 10 4,.c 10 5,.c 10 6]] [some 4]) (.em (.wx (.mapUpdate 29 (.tmp 0) (.tmp 1) (.tmp 2)) 0 [.s (.c 6 0),.g [.c 10 0,.c 10 1,.c 10 2],.g [.c 11 0,.c 11 1,.c 11 2,.c 11 3]] none) (.back 0 [])))) (.em (.wx (.range 29 (.tmp 0)) 0 [.s (.c 1 0)] (some none)) (.loop 0 [] (.em (.nx (.next (.tmp 0) false) 0 [.s (.c 10 0)] [some 3,some 4]) (.cond (.c 12 0) (.em (.lt (.entry (.tmp 0)) 0 [.s (.c 10 0)] [some 3,some 4]) (.em (.call 80 [.g [.c 13 3,.c 13 4,.c 13 5,.c 13 6]] [some 4]) (.em (.call 76 [.s (.c 6 0),.g [.c 13 0,.c 13 1,.c 13 2],.g [.c 14 0,.c 14 1,.c 14 2,.c 14 3]] []) (.back 0 [])))) (.em (.call 62 [.s (.c 6 0)] [some 1]) (.ret (.v (.g [.c 13 0]))))))))))))))))) (by kernel_rfl) (by kernel_rfl) (by kernel_rfl) rfl (fun i v h=>?_) (fun w0 h0=>?_)
  · match i,h with
    | 0,h=>cases h
    | 1,h=>cases h
    | 2,h=>cases h; rfl
    | _+3,h=>cases h
  refine aOpen 0 0 rfl rfl (fun p0 hp0=>?_)
  refine aOpen 1 0 rfl rfl (fun q0 hq0=>?_)
  have hlp0:=hp0.length_eq
  have hlq0:=hq0.length_eq
  refine aLenM (kt:=25) (m:=cM) (en:=entsP p0 k) (e:=56) (MapIn.ro (i:=0) (j:=0) rfl) ?_
  refine aLenM (kt:=25) (m:=cM) (en:=entsP q0 k) (e:=56) (MapIn.ro (i:=1) (j:=0) rfl) ?_
  refine aPr rfl (qAddE (z:=(p0.length+q0.length:Nat)) rfl rfl (by rw [entsP_len,entsP_len]; omega) (by omega) (by omega)) rfl ?_
  refine aMakeMap cM (k':=25) (e:=56) (hr:=.inr ⟨_,_,_,_,rfl,rfl,rfl,fun E=>rfl⟩) (fun g=>?_)
  refine aRange (m:=cM) (en:=entsP p0 k) (kt:=25) (e:=56) (i:=0) (j:=0) rfl (fun gi=>?_)
  refine aLoopU [(6,1,fun s:Rg=>.map g cM (entsP s.1 k)),(7,1,fun s:Rg=>.iter gi cM s.2.2 (entsP s.2.1 k))] (fun _=>[]) (fun s=>(s.1++s.2.1).Perm p0) (fun s=>s.2.1.length) ([],p0,none) (List.Perm.refl _) (fun ⟨s,left,cur⟩ hs=>?_)
  have hgd:GoodP (s++left):=GoodP.perm hs (GoodP.perm hp0 hp.good)
  refine aNext (m:=cM) (kt:=25) 7 1 rfl rfl cK rfl (fun c l1 l2 hc _=>?_) (fun hc=>?_)
  · obtain ⟨L1,x,L2,rfl,rfl,rfl,rfl⟩:=entsP_split hc
    rw [entsP_app]
    refine aTrue rfl ?_
    refine aEntry (m:=cM) (kt:=25) 7 1 rfl rfl cK ?_
    refine aCall rfl (fresh_ct x.2 k) (fun γ=>?_)
    refine aPut (m:=cM) (kv:=mVal x.1) (e:=56) 6 1 rfl rfl rfl ⟨x.1,hgd.ok x (by simp),rfl⟩ cK rfl (fun en' hd _=>?_)
    have hst:=perm_step hs
    have hnd:((s.map (·.1))++(L1++x::L2).map (·.1)).Nodup:=by rw [← List.map_append]; exact hgd.nd
    have hab:∀ y∈s,y.1≠x.1:=fun y hy=>(List.nodup_append.1 hnd).2.2 _ (List.mem_map.2 ⟨y,hy,rfl⟩) _ (List.mem_map.2 ⟨x,by simp,rfl⟩)
    obtain rfl:=(entsP_put hd (List.nodup_append.1 hnd).1).1 hab
    exact aBack rfl rfl ⟨(s++[x],L1++L2,some (mVal x.1,[pQ x.2 k])),rfl,rfl,hst,by simp⟩
  · obtain rfl:=entsP_nil hc
    rw [List.append_nil] at hs
    have hs:=hs.trans hp0
    refine aFalse rfl ?_
    refine aRange (m:=cM) (en:=entsP q0 k) (kt:=25) (e:=56) (i:=1) (j:=0) rfl (fun gj=>?_)
    refine aLoopU [(6,1,fun t:PolyL × Rg=>.map g cM (entsP t.1 k)),(10,1,fun t:PolyL × Rg=>.iter gj cM t.2.2.2 (entsP t.2.2.1 k))] (fun _=>[]) (fun t=>(t.2.1++t.2.2.1).Perm q0∧t.1.Perm (addP p (t.2.1.map fun x=>(x.1,-x.2)))) (fun t=>t.2.2.1.length) (s,[],q0,none) ⟨List.Perm.refl _,hs⟩ (fun ⟨t,done,left,cur⟩ ⟨hd,ht⟩=>?_)
    have hok:∀ y∈done++left,y.1.ok:=fun y hy=>hq y (hq0.mem_iff.1 (hd.mem_iff.1 hy))
    have hod:OkP (done.map fun x=>(x.1,-x.2)):=fun y hy=>by
      obtain ⟨z,hz,rfl⟩:=List.mem_map.1 hy
      exact hok z (List.mem_append_left _ hz)
    refine aNext (m:=cM) (kt:=25) 10 1 rfl rfl cK rfl (fun c l1 l2 hc _=>?_) (fun hc=>?_)
    · obtain ⟨L1,x,L2,rfl,rfl,rfl,rfl⟩:=entsP_split hc
      rw [entsP_app]
      refine aTrue rfl ?_
      refine aEntry (m:=cM) (kt:=25) 10 1 rfl rfl cK ?_
      refine aCall rfl (qneg_ct x.2 k) (fun γ=>?_)
      have hxo:x.1.ok:=hok x (by simp)
      have hst:=perm_step hd
      have hmp:(done++[x]).map (fun x=>(x.1,-x.2))=(done.map fun x=>(x.1,-x.2))++[(x.1,-x.2)]:=by simp
      have hpp:=ins_perm (t:=(x.1,-x.2)) ht (hp.add hod) hxo
      rw [← addP_snoc,← hmp] at hpp
      refine aCallM 6 1 rfl rfl (cadd_ct t g x.1 (-x.2) k k (GoodP.perm ht (hp.add hod).good) hxo (FitP.perm hpp (hf _ ((L1++L2).map fun x=>(x.1,-x.2)) (by rw [← List.map_append]; exact (hst.trans hq0).map _)))) (fun γ=>?_)
      exact aBack rfl rfl ⟨(insT t (x.1,-x.2),done++[x],L1++L2,some (mVal x.1,[pQ x.2 k])),rfl,rfl,⟨hst,hpp⟩,by simp⟩
    · obtain rfl:=entsP_nil hc
      rw [List.append_nil] at hd
      refine aFalse rfl ?_
      refine aFreeze 6 0 6 1 rfl rfl h0 ?_
      have ht:t.Perm (addP p (q.map fun x=>(x.1,-x.2))):=by
        rw [← addP_perm hp (fun y hy=>by obtain ⟨z,hz,rfl⟩:=List.mem_map.1 hy; exact hq z hz) ((hd.trans hq0).map fun x=>(x.1,-x.2))]; exact ht
      refine aCall rfl (ctake_ct t _ k ht) (fun γ=>?_)
      exact aRet (fun _=>0) rfl rfl rfl
theorem map_id' (q:PolyL):(q.map fun x=>(x.1,x.2))=q:=List.map_id q
theorem add_ct (p q:PolyL) (k:Nat) (hp:Canon p) (hq:OkP q) (hf:FitSub (fitQ k) p q) (hlp:p.length≤1000000) (hlq:q.length≤1000000) (hk:k≤100000:=by omega) :
    Ct Tryz.prog JT 32 [some 1,some 1] [[pP p k],[pP q k]] [some 1] (fun _=>[.ro false (pP (addP p q) k)]):=by
  refine aCtO ⟨true,[]⟩ (D:=DP) hMix (tr:=(.em (.call 79 [.g [.c 0 0],.g [.c 1 0],.s (.k (.func (.func 73) #[] #[]))] [some 1]) (.ret (.v (.g [.c 2 0]))))) (by kernel_rfl) (by kernel_rfl) (by kernel_rfl) rfl (fun _ _ h=>by cases h) (fun w0=>?_)
  refine aCall rfl (joinF_ct p q k hp hq (by rw [map_id']; exact hf) hlp hlq) (fun γ=>?_)
  exact aRet (fun _=>0) rfl rfl (by rw [map_id']; rfl)
theorem neg_mulR (q:PolyL):(q.map fun x=>(x.1,-x.2))=mulR q (-1):=List.map_congr_left fun x _=>Prod.ext rfl (by show -x.2=x.2 * -1; grind)
theorem sub_ct (p q:PolyL) (k:Nat) (hp:Canon p) (hq:OkP q) (hf:FitSub (fitQ k) p (mulR q (-1))) (hlp:p.length≤1000000) (hlq:q.length≤1000000) (hk:k≤100000:=by omega) :
    Ct Tryz.prog JT 34 [some 1,some 1] [[pP p k],[pP q k]] [some 1] (fun _=>[.ro false (pP (addP p (mulR q (-1))) k)]):=by
  refine aCtO ⟨true,[]⟩ (D:=DP) hMix (tr:=(.em (.call 79 [.g [.c 0 0],.g [.c 1 0],.s (.k (.func (.func 80) #[] #[]))] [some 1]) (.ret (.v (.g [.c 2 0]))))) (by kernel_rfl) (by kernel_rfl) (by kernel_rfl) rfl (fun _ _ h=>by cases h) (fun w0=>?_)
  refine aCall rfl (joinN_ct p q k hp hq (by rw [neg_mulR]; exact hf) hlp hlq) (fun γ=>?_)
  exact aRet (fun _=>0) rfl rfl (by rw [neg_mulR]; rfl)
theorem ConvS.zeroQ {o:Bool} {k:Nat} (hk:1≤k) {a b:List AV} (h:ConvS a b):ConvS (.ro o (pV (.bool false))::.ro o (pV (.slice none 0 0))::.ro o (pV (.bool false))::.ro o (pV (.slice none 0 0))::a) (.ro o (pQ 0 k)::b):=by
  rintro B w _ _ ⟨c1,d1,o1,p1,rfl,rfl,⟨⟨rfl,_⟩,rfl⟩,c2,d2,o2,p2,rfl,rfl,⟨⟨rfl,_⟩,rfl⟩,c3,d3,o3,p3,rfl,rfl,⟨⟨rfl,_⟩,rfl⟩,c4,d4,o4,p4,rfl,rfl,⟨⟨rfl,_⟩,rfl⟩,h2⟩
  exact ⟨[.bool false,.slice none 0 0,.bool false,.slice none 0 0],d4,[],p4,rfl,rfl,⟨⟨_,_,_,_,rfl,IntB.zero _ _ _,IntB.zero _ _ _,Nat.one_lt_pow (by omega) (by decide)⟩,rfl⟩,h B w _ _ h2⟩
theorem len_sub {α:Type}:∀ {l q:List α},l.Nodup→(∀ x∈l,x∈q)→l.length≤q.length
  | [],_,_,_=>Nat.zero_le _
  | x::l,q,hn,h=>by
    rw [List.nodup_cons] at hn
    obtain ⟨a,b,rfl⟩:=List.append_of_mem (h x List.mem_cons_self)
    have:=len_sub (l:=l) (q:=a++b) hn.2 (fun y hy=>by
      have h1:=h y (List.mem_cons_of_mem _ hy)
      have hne:y≠x:=fun e=>hn.1 (e ▸ hy)
      simpa [hne] using h1)
    simp at this ⊢
    omega
theorem sub_perm {α:Type} {p q:List α} (hp:p.Nodup) (hq:q.Nodup) (h:∀ x∈p,x∈q) (hl:q.length≤p.length):p.Perm q:=
  (List.perm_ext_iff_of_nodup hp hq).2 fun y=>⟨h y,fun hy=>Classical.byContradiction fun hn=>by
    have:=len_sub (l:=y::p) (q:=q) (List.nodup_cons.2 ⟨hn,hp⟩) (fun z hz=>by
      rcases List.mem_cons.1 hz with rfl | hz
      · exact hy
      · exact h z hz)
    simp at this
    omega⟩
theorem same_ct (p q:PolyL) (k j:Nat) (hp:Canon p) (hq:Canon q) (hlp:p.length≤1000000) (hk:k≤100000:=by omega) (hj:j≤100000:=by omega) :
    Ct Tryz.prog JT 27 [some 1,some 1] [[pP p k],[pP q j]] [none] (fun _=>[.ro false (pV (.bool (decide (p=q))))]):=by
  refine aCtX ⟨true,[]⟩ (D:=DP) hMix (tr:=(.em (.ld (.call (.mk (.builtin .len) #[.tmp 0] #[29])) 3 [.s (.c 0 0)] none) (.em (.ld (.call (.mk (.builtin .len) #[.tmp 0] #[29])) 3 [.s (.c 1 0)] none) (.em (.pr (.binOp .neq 3 (.tmp 0) (.tmp 1) 3) 4 [.s (.c 2 0),.s (.c 3 0)]) (.cond (.c 4 0) (.ret (.v (.s (.k (.bool false))))) (.em (.wx (.range 29 (.tmp 0)) 0 [.s (.c 0 0)] (some none)) (.loop 0 [.k (.bool false)] (.em (.nx (.next (.tmp 0) false) 0 [.s (.c 5 0)] [some 3,some 4]) (.cond (.c 7 0) (.em (.lt (.entry (.tmp 0)) 0 [.s (.c 5 0)] [some 3,some 4]) (.em (.ld (.lookup 29 (.tmp 0) (.tmp 1) false) 56 [.s (.c 1 0),.g [.c 8 0,.c 8 1,.c 8 2]] (some 4)) (.em (.call 53 [.g [.c 8 3,.c 8 4,.c 8 5,.c 8 6],.g [.c 9 0,.c 9 1,.c 9 2,.c 9 3]] [none]) (.em (.pr (.binOp .neq 3 (.tmp 0) (.const (.int .i64 0)) 3) 4 [.s (.c 10 0),.s (.k (.int .i64 0))]) (.cond (.c 11 0) (.ret (.v (.s (.k (.bool false))))) (.back 0 [.c 6 0])))))) (.ret (.v (.s (.k (.bool true)))))))))))))) (by kernel_rfl) (by kernel_rfl) (by kernel_rfl) rfl (fun _ _ h=>by cases h) (fun w0 h0=>?_)
  refine aOpen 0 0 rfl rfl (fun p0 hp0=>?_)
  refine aOpen 1 0 rfl rfl (fun q0 hq0=>?_)
  have hlp0:=hp0.length_eq
  have hlq0:=hq0.length_eq
  refine aLenM (kt:=25) (m:=cM) (en:=entsP p0 k) (e:=56) (MapIn.ro (i:=0) (j:=0) rfl) ?_
  refine aLenM (kt:=25) (m:=cM) (en:=entsP q0 j) (e:=56) (MapIn.ro (i:=1) (j:=0) rfl) ?_
  refine aPr rfl (prNe rfl rfl) rfl ?_
  refine aIf rfl (fun h1=>?_) (fun h1=>?_)
  · have hne:p≠q:=fun e=>by
      subst e
      rw [entsP_len,entsP_len,hlp0,hlq0] at h1
      simp at h1
    exact aRet (fun _=>0) rfl rfl (by rw [decide_eq_false hne]; rfl)
  have hlen:p.length=q.length:=by
    rw [entsP_len,entsP_len,hlp0,hlq0] at h1
    simp at h1
    omega
  refine aRange (m:=cM) (en:=entsP p0 k) (kt:=25) (e:=56) (i:=0) (j:=0) rfl (fun gi=>?_)
  refine aLoopU [(5,1,fun s:Rg=>.iter gi cM s.2.2 (entsP s.2.1 k))] (fun _=>[.ro true (pV (.bool false))]) (fun s=>(s.1++s.2.1).Perm p0∧∀ x∈s.1,x∈q) (fun s=>s.2.1.length) ([],p0,none) ⟨List.Perm.refl _,fun _ h=>by cases h⟩ (fun ⟨s,left,cur⟩ ⟨hs,hsq⟩=>?_)
  have hin:∀ y∈s++left,y∈p:=fun y hy=>hp0.mem_iff.1 (hs.mem_iff.1 hy)
  refine aNext (m:=cM) (kt:=25) 5 1 rfl rfl cK rfl (fun c l1 l2 hc _=>?_) (fun hc=>?_)
  · obtain ⟨L1,x,L2,rfl,rfl,rfl,rfl⟩:=entsP_split hc
    rw [entsP_app]
    have hxp:x∈p:=hin x (by simp)
    have hxo:=hp.ok x hxp
    refine aTrue rfl ?_
    refine aEntry (m:=cM) (kt:=25) 5 1 rfl rfl cK ?_
    refine aLook (m:=cM) (kv:=mVal x.1) (en:=entsP q0 j) (e:=56) (zs:=ZeroQ) (MapIn.ro (i:=1) (j:=0) rfl) rfl ⟨x.1,hxo,rfl⟩ cK (entsP_fit _ _) (fun row hr=>?_) (fun hr=>?_)
    · obtain ⟨y,hy,h2,rfl⟩:=entsP_mem hr
      have hyq:y∈q:=hq0.mem_iff.1 hy
      have h2:=mVal_inj h2
      refine aCall rfl (qcmp_ct x.2 y.2 k j) (fun γ=>?_)
      refine aPr rfl (prNe rfl rfl) rfl ?_
      refine aIf rfl (fun h3=>?_) (fun h3=>?_)
      · have hne:p≠q:=fun e=>by
          subst e
          have e1:=hp.good.coP hxp
          have e2:=hp.good.coP hyq
          rw [← h2,e1] at e2
          rw [e2,cmpR_self] at h3
          simp at h3
        exact aRet (fun _=>0) rfl rfl (by rw [decide_eq_false hne]; rfl)
      · have h3:cmpQ x.2 y.2=0:=by simpa using h3
        have hxy:x=y:=Prod.ext h2 (cmpR_eq h3)
        exact aBack rfl rfl ⟨(s++[x],L1++L2,some (mVal x.1,[pQ x.2 k])),rfl,rfl,⟨perm_step hs,fun z hz=>by
          rcases List.mem_append.1 hz with hz | hz
          · exact hsq z hz
          · rw [List.mem_singleton.1 hz,hxy]; exact hyq⟩,by simp⟩
    · have hab:=absent hr
      simp only [List.cons_append,List.nil_append,ZeroQ,List.map_cons,List.map_nil]
      refine aConv 9 [.ro true (pQ 0 1)] rfl (ConvS.zeroQ (Nat.le_refl 1) ConvS.nil) ?_
      refine aCall rfl (qcmp_ct x.2 0 k 1) (fun γ=>?_)
      have hcn:cmpQ x.2 0≠0:=fun e=>hp.nz x hxp (cmpR_eq e)
      refine aPrE (v':=.bool true) rfl (prNe rfl rfl) (congrArg Value.bool (by simp [hcn])) rfl ?_
      refine aTrue rfl ?_
      have hne:p≠q:=fun e=>by
        subst e
        exact hab x (hq0.mem_iff.2 hxp) rfl
      exact aRet (fun _=>0) rfl rfl (by rw [decide_eq_false hne]; rfl)
  · obtain rfl:=entsP_nil hc
    rw [List.append_nil] at hs
    have hs:=hs.trans hp0
    refine aFalse rfl ?_
    have hpq:p=q:=by
      have h4:p.Perm q:=by
        exact sub_perm hp.good.nodup hq.good.nodup (fun x hx=>hsq x (hs.mem_iff.2 hx)) (by omega)
      exact canon_eq hp hq fun m=>evP_perm _ h4
    exact aRet (fun _=>0) rfl rfl (by rw [decide_eq_true hpq]; rfl)
end Go.Proofs.YthffkbbcofbceaaGreatDoor

namespace Cin
open Go Go.RowKit
def pFn (f:FuncId) (qs:List Pd):Pd where
  n:=1
  nu:=qs.flatMap (·.nu)
  sl:=qs.flatMap (·.sl)
  kv:=none
  R l w cs:=∃ caps:List Value,cs=[.func (.func f) #[] caps.toArray]∧RL l w qs caps
  kv_ok e:=by cases e
  len:=fun ⟨_,h,_⟩=>by rw [h]; rfl
  one:=fun ⟨_,h,_⟩=>by rw [h]; rfl
  mono:=fun hS hk ⟨caps,h,hr⟩=>⟨caps,h,RL.mono hS hk (fun p hp=>⟨fun t ht=>by simp only [List.contains_eq_mem,List.mem_flatMap,decide_eq_true_eq] at ht ⊢; exact ⟨p,hp,ht⟩,fun t ht=>by simp only [List.contains_eq_mem,List.mem_flatMap,decide_eq_true_eq] at ht ⊢; exact ⟨p,hp,ht⟩⟩) hr⟩
  lim:=fun ⟨caps,h,hr⟩=>⟨caps,h,hr.lim⟩
  up:=fun hB ⟨caps,h,hr⟩=>⟨caps,h,hr.up hB⟩
  all:=fun ha ⟨caps,h,hr⟩=>⟨caps,h,RL.all' ha (fun p hp=>⟨fun t ht=>by simp only [List.contains_eq_mem,List.mem_flatMap,decide_eq_true_eq] at ht ⊢; exact ⟨p,hp,ht⟩,fun t ht=>by simp only [List.contains_eq_mem,List.mem_flatMap,decide_eq_true_eq] at ht ⊢; exact ⟨p,hp,ht⟩⟩) hr⟩
theorem argsR_app {l:Lm} {w:World}:∀ {sh:List (Option Nat)} {asx:List (List Pd)} {E:Env} {sh':List (Option Nat)} {asx':List (List Pd)} {E':Env},ArgsR l w sh asx E→ArgsR l w sh' asx' E'→ArgsR l w (sh++sh') (asx++asx') (E++E')
  | [],[],E,_,_,_,h,h'=>by rw [show E=[] from h]; exact h'
  | [],_::_,_,_,_,_,h,_=>h.elim
  | _::_,[],_,_,_,_,h,_=>h.elim
  | s::sh,ps::asx,_,_,_,_,⟨cs,E1,rfl,h1,h2,h3⟩,h'=>⟨cs,E1++_,rfl,h1,h2,argsR_app h3 h'⟩
theorem argsR_one {l:Lm} {w:World}:∀ {qs:List Pd} {caps:List Value},RL l w qs caps→(qs.all fun q=>Nat.beq q.n 1)=true→ArgsR l w (qs.map fun _=>none) (qs.map fun q=>[q]) (caps.map fun v=>[v])∧caps.length=qs.length
  | [],caps,h,_=>by rw [show caps=[] from h]; exact ⟨rfl,rfl⟩
  | q::qs,_,⟨c1,c2,rfl,h1,h2⟩,hn=>by
    simp only [List.all_cons,Bool.and_eq_true] at hn
    have hl:=q.len h1
    rw [Nat.eq_of_beq_eq_true hn.1] at hl
    match c1,hl with
    | [v],_=>
      obtain ⟨h3,h4⟩:=argsR_one h2 hn.2
      exact ⟨⟨[v],_,rfl,rfl,⟨[v],[],rfl,h1,rfl⟩,h3⟩,by simp [h4]⟩
section rules
variable {P:Program} {J:Jd} {w0:W0} {D:TypeId→Bool} {Post:Ending→World→Prop} {K:LK} {Γ:List (List AV)} {k:Tr}
theorem aMakeFn {f:FuncId} {ty:TypeId} {a:A} {qs:List Pd} {Γ':List (List AV)} (hg:gath Γ 1 [a]=some qs) (hk:AW P J w0 D Post K Γ' k) (hD:(AV.ro false (pFn f qs)).okD D=true:=by rfl)
    (hΓ:Γ++[[.ro false (pFn f qs)]]=Γ':=by (simp only [List.cons_append,List.nil_append]) <;> exact rfl):AW P J w0 D Post K Γ (.em (.pr (.makeFunc (.func f) #[] #[.tmp 0]) ty [.s a]) k):=fun hJ L E u hL h0=>by
  refine ⟨.func (.func f) #[] #[a.den [] E],fun w=>?_,rfl,hk hJ L _ u hL.ext ?_⟩
  · simp only [execOp]
    simp [Instr.makeFunc,pe]
    rfl
  · subst hΓ
    refine h0.snoc (fun os S hS hr=>⟨[],RepS.one_of ⟨⟨[a.den [] E],rfl,?_⟩,rfl⟩,List.nodup_nil,fun g hg=>by cases hg⟩) (by simp [hD])
    exact gath_ok hr hg
theorem aBox {t ty:TypeId} (r:Rty) {q:Operand} {x:V1} {v:Value} {zs:List Value} {row:List Pd} {Γ':Nat→List (List AV)} (hx:knownV Γ x=some v) (hz:v.cells.toList=zs) (hrow:zs.map pV=row) (hk:∀ g,AW P J w0 D Post K (Γ' g) k) (ht:Nat.beq r.t t=true:=by rfl) (hn:Nat.beq zs.length r.n=true:=by rfl) (h1:zs.all Value.oneCell'=true:=by rfl)
    (hD:r.nu.all D=true:=by rfl) (hq:∀ E:Env,pe ([x].map (V1.den [] E)) q=x.den [] E:=by intros; rfl) (hΓ:∀ g,Γ++[[.var g r row]]=Γ' g:=by intros; (simp only [List.cons_append,List.nil_append]) <;> exact rfl) :
    AW P J w0 D Post K Γ (.em (.wx (.box t q) ty [x] (some none)) k):=by
  intro hJ L E u hL hk0 w he hbw
  have h2:=hk0.ext he hbw
  have ht':r.t=t:=Nat.eq_of_beq_eq_true ht
  subst ht'
  obtain ⟨hb1x,hD1,os,S,hnd,hS,hr⟩:=id h2
  have hxd:=knownV_ok hr hx
  have hza:v.cells=zs.toArray:=by rw [← hz]
  refine ⟨[.pointer (some ⟨w.heap.size,0,none⟩)],w.alloc (.cells zs.toArray r.t),?_,rfl,ChgS.of_below (bel_alloc _ _),hbw.on (bel_alloc _ _),hk w.heap.size hJ L _ _ hL.ext ?_⟩
  · show (execOp _ _).run P w=.ok (.value (.pointer (some ⟨w.heap.size,0,none⟩))) _
    simp only [execOp,hq E,hxd]
    simp [Instr.box,newVar,newRow,hza]
  · rw [← hΓ]
    subst hrow
    refine Knows.alloc hb1x hD1 hnd hS hr (RepS.one_of ⟨fun p hp=>?_,rfl,rfl,⟨.inl hbw.size,Gh.more_new _⟩,zs.toArray,heap_alloc_new w _,by simpa using Nat.eq_of_beq_eq_true hn,?_⟩) (by simpa [AV.okD] using hD)
    · obtain ⟨v,_,rfl⟩:=List.mem_map.1 hp
      exact ⟨fun t h=>by simp [pV] at h,fun t h=>by simp [pV] at h⟩
    · intro i row hi
      have hi0:i=0:=by have:=(List.getElem?_eq_some_iff.1 hi).1; simp at this; exact this
      subst hi0
      simp only [List.getElem?_cons_zero,Option.some.injEq] at hi
      subst hi
      refine ⟨zs,Nat.eq_of_beq_eq_true hn,known_rl h1,fun j y hy=>by simpa using hy⟩
theorem aCallV {J1:Jd} {f:FuncId} {i j:Nat} {qs:List Pd} {ar:List V1} {sh:List (Option Nat)} {asx:List (List Pd)} {rs:(Nat→Nat)→List AV} {Γ':(Nat→Nat)→List (List AV)} (hl:(look Γ i j).bind AV.pd=some (pFn f qs)) (ha:gathL Γ ar=some asx)
    (hc:Ct P J1 f (ar.map V1.shp++qs.map fun _=>none) (asx++qs.map fun q=>[q]) sh rs) (hent:(match P.funcs[f]? with | some fn=>!(fn.name == "runtime.NumGoroutine") && !fn.body.isNone | none=>false)=true) (hk:∀ γ,AW P J w0 D Post K (Γ' γ) k) (hn1:(qs.all fun q=>Nat.beq q.n 1)=true:=by rfl)
    (hs:∀ γ,((rs γ).all (AV.okD D) && (rs γ).all AV.noOld)=true:=by intros; rfl) (hΓ:∀ γ,Γ++[rs γ]=Γ' γ:=by intros; (simp only [List.cons_append,List.nil_append]) <;> exact rfl) (hw:∀ w,J.J w→J1.J w:=by intro w h; first | exact h | exact h.1 | exact trivial):AW P J w0 D Post K Γ (.em (.cv (.c i j) ar sh) k):=by
  intro hJ L E u hL h0 w he hb
  have h1:=h0.ext he hb
  obtain ⟨_,hD,os,S,hn,hS,hr⟩:=h1
  have hlt:∀ b,S b→b < w.heap.size:=fun b h=>(hS.at_ b h).2.1
  obtain ⟨c,⟨caps,rfl,hcaps⟩,hden⟩:=look_pd hr hl
  have hent':Enters P f:=by
    split at hent
    · rename_i fn hfn
      simp only [Bool.and_eq_true,Bool.not_eq_true'] at hent
      exact ⟨fn,hfn,hent.1,hent.2⟩
    · cases hent
  obtain ⟨hone,hlen⟩:=argsR_one (RL.allN hcaps) hn1
  have hsh:(ar++caps.map fun v=>V1.s (.k v)).map V1.shp=ar.map V1.shp++qs.map fun _=>none:=by
    rw [List.map_append]
    congr 1
    refine List.ext_getElem? fun m=>?_
    simp only [List.map_map,List.getElem?_map]
    by_cases hm:m < caps.length
    · rw [List.getElem?_eq_getElem hm,List.getElem?_eq_getElem (by omega)]; rfl
    · rw [List.getElem?_eq_none (by omega),List.getElem?_eq_none (by omega)]; rfl
  have hat:((ar++caps.map fun v=>V1.s (.k v)).map fun x=>x.atoms.map (A.den [] E))=(ar.map fun x=>x.atoms.map (A.den [] E))++caps.map fun v=>[v]:=by
    simp [V1.atoms,A.den,Function.comp_def]
  have hvl:(ar++caps.map fun v=>V1.s (.k v)).map (V1.den [] E)=ar.map (V1.den [] E)++caps:=by
    simp [V1.den,A.den,Function.comp_def]
  have hA:=argsR_app (gathL_ok hr ha) hone
  rw [← hsh] at hA hc
  rw [← hat] at hA
  have hh:=hc ⟨w,w0.b0,Nat.le_trans w0.le hb.size,S,hlt,fun _=>False,fun _ h=>h.elim⟩ _ (fun _ h=>h) (hw _ (hJ w hb)) hA
  unfold argV at hh
  have e:=argV_of E (ar++caps.map fun v=>V1.s (.k v)) []
  simp only [List.length_nil,List.nil_append] at e
  rw [e,hvl] at hh
  have hto:(ar.map (V1.den [] E)++caps).toArray=(ar.map (V1.den [] E)).toArray++caps.toArray:=by simp
  rw [hto] at hh
  refine ⟨f,caps.toArray,hden 0 _ rfl,hent',hh.mono ?_⟩
  rintro e1 w' ⟨cs,os',γ,S',he1,hn',hS',hs',hbx⟩
  have hb':Below w.heap.size w w':=hbx.bel
  have hsγ:=hs γ
  simp only [Bool.and_eq_true] at hsγ
  have hb2:Bx w0.bs w':=hb.on hb'
  have hge:∀ g∈os',w.heap.size≤g:=fun g hg=>(hs'.ge g hg).1.elim id (fun h=>h.elim)
  refine ⟨cs,he1,hs'.one,hb',?_⟩
  refine hk γ hJ L _ (u.more w w') hL.ext ?_
  rw [← hΓ γ]
  have hfin:∀ b,S' b→S b∨(w.heap.size≤b∧b < w'.heap.size):=hS'
  have hgr:Gr w S (fun b=>S b∨S' b):=⟨fun _ h=>.inl h,fun b hb h=>h.elim id (fun h=>(hfin b h).elim id (fun h2=>by have:=h2.1; omega))⟩
  refine ⟨hb2,?_,os++os',fun b=>S b∨S' b,?_,⟨fun b h=>.inl (hS.base b h),fun b hb3=>?_⟩,RepE.snoc (B:=w0.bd fun b=>S b∨S' b) (RepE.goes (B:=w0.bd S) (Goes.of_ext (u:=⟨w,u.S⟩) hS hb hb2 ((ExtS.refl D ⟨w,u.S⟩).below hb')) hgr (fun _ _ _ _ h=>h.elim) hr hD (fun _ _ _ _ _ h=>h.elim) (fun _ _ h=>h))
    (RepS.low (B:=(⟨w,w0.b0,Nat.le_trans w0.le hb.size,S,hlt,fun _=>False,fun _ h=>h.elim⟩:W0).bd fun b=>S b∨S' b) (B':=w0.bd fun b=>S b∨S' b) rfl rfl (fun g hg=>.inl (Nat.le_trans hb.size (hge g hg))) (RepS.more (B:=(⟨w,w0.b0,Nat.le_trans w0.le hb.size,S,hlt,fun _=>False,fun _ h=>h.elim⟩:W0).bd S') (fun _ h=>.inr h) (fun g hg hn2 h=>h.elim (fun h=>by have:=hlt g h; have:=hge g hg; omega) hn2) hs') hsγ.2)⟩
  · unfold okE at *; rw [List.all_append,hD]; simp [hsγ.1]
  · refine List.nodup_append.2 ⟨hn,hn',fun a ha b hb e=>?_⟩
    have h1:a < w.heap.size:=(hr.ge a ha).2
    have h2:w.heap.size≤b:=hge b hb
    omega
  · have key:=(hS.below (w':=w') hb.size hb').at_ b
    rcases hb3 with h | h
    · exact key (.inl h)
    · rcases hfin b h with h | h
      · exact key (.inl h)
      · exact key (.inr h)
theorem aSee (i j:Nat) {g:Nat} {r:Rty} {row:List Pd} {Γ':List (List AV)} (hl:look Γ i j=some (.var g r row)) (hk:AW P J w0 D Post K Γ' k) (hΓ:setAt (.ro false (pElem r row)) Γ i j=Γ':=by (simp only [setAt,setS]) <;> exact rfl):AW P J w0 D Post K Γ k:=by
  intro hJ L E u hL ⟨hbx,hD1,os,S,hn,hS,hr⟩
  obtain ⟨c,o1,o',o2,eo,hv1,hc,hr1⟩:=junkAt_get hr hl
  have hDa:=look_okD hD1 hl
  obtain ⟨hf,rfl,rfl,hB,cur,hg,hsz,hat⟩:=hv1
  have hro:RepV (w0.bd S) u.w (.ro false (pElem r row)) [.pointer (some ⟨g,0,none⟩)] []:=by
    obtain ⟨x,hx1,hx2,hx3⟩:=hat 0 row rfl
    exact ⟨⟨hf,g,0,cur,r.t,_,rfl,hg,⟨.inr ⟨rfl,hB.2⟩,fun B hB=>(by cases hB)⟩,x,hx2,fun j y hy=>by simpa using hx3 j y hy⟩,rfl⟩
  obtain ⟨p1,s1,r1⟩:=setAt_back (B:=w0.bd S) (v:=.ro false (pElem r row)) hr1 hl rfl hro hc
  refine hk hJ L E u hL (hΓ ▸ ⟨hbx,setAt_okE (v:=.ro false (pElem r row)) hDa hD1,p1,S,?_,hS,r1⟩)
  rw [s1.nodup_iff,List.append_nil]
  subst eo
  refine List.Nodup.sublist ?_ hn
  rw [List.append_assoc]
  exact List.Sublist.append_left (List.sublist_append_right _ _) _
theorem aIdxK (r:Rty) (m:Nat) {T ty:TypeId} {g len cap:Nat} {x0 x1:V1} {q:Operand} {κ:IntKind} {vi:Value} {Γ':List (List AV)} (hx:knownV Γ x0=some (.slice (some ⟨g,0,none⟩) len cap)) (hi:knownV Γ x1=some vi) (hq:∀ s,pe [s,vi] q=.int κ (m:Nat)) (h1:m < len) (hk:AW P J w0 D Post K Γ' k) (hT:slTb P T r=true:=by kernel_rfl)
    (hΓ:Γ++[[.ro true (pV (.pointer (some ⟨g,m * r.n,none⟩)))]]=Γ':=by (simp only [List.cons_append,List.nil_append]) <;> exact rfl):AW P J w0 D Post K Γ (.em (.pr (.indexAddr T (.tmp 0) q) ty [x0,x1]) k):=by
  obtain ⟨hu,ie,hie,hn⟩:=slT_of hT
  refine aPr (vs:=[.slice (some ⟨g,0,none⟩) len cap,vi]) (by simp only [knownL,hx,hi]) ?_ rfl hk hΓ
  have:=prIdxR (P:=P) (T:=T) (e:=r.t) (ty:=ty) (vs:=[.slice (some ⟨g,0,none⟩) len cap,vi]) (p:=.tmp 0) (q:=q) (κ:=κ) (i:=(m:Nat)) (b:=g) (o:=0) hu hie hn rfl (hq _) (by omega) (by omega)
  rwa [Nat.zero_add,Int.toNat_natCast] at this
end rules
end Cin
