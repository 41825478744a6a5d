/- Contracts of the program's polynomials: greatest exponents, degrees, products (written by mk_ph.py). -/
import Derived.Test.YthffkbbcofbceaaGreatDoorYza
import Derived.Test.YthffkbbcofbceaaGreatDoorYa
import Derived.Test.YthffkbbcofbceaaGreatDoorYr
namespace Go.Proofs.YthffkbbcofbceaaGreatDoor
open Go Go.RowKit Cin
theorem maxP_app (f:M→Int) (n:Int) (p:PolyL) (x:M × Rat):maxP f n (p++[x])=max (maxP f n p) (f x.1):=by unfold maxP; rw [List.foldl_append]; rfl
theorem maxP_perm {f:M→Int} {n:Int} {l p:PolyL} (h:l.Perm p):maxP f n l=maxP f n p:=
  Int.le_antisymm (maxP_le maxP_ge.1 fun x hx=>maxP_ge.2 x (h.mem_iff.1 hx)) (maxP_le maxP_ge.1 fun x hx=>maxP_ge.2 x (h.mem_iff.2 hx))
theorem mostD_ct (p:PolyL) (n:Int) (k:Nat) (hp:OkP p):Ct Tryz.prog JT 67 [some 1,none,none] [[pP p k],[pV (.int .i64 n)],[pV (.func (.func 68) #[] #[])]] [none] (fun _=>[.ro false (pV (.int .i64 (maxP (fun m=>(dg m:Nat)) n p)))]):=by
  refine aCtX ⟨true,[(2,.func (.func 68) #[] #[])]⟩ (D:=DP) hMix (tr:=(.em (.wx (.range 29 (.tmp 0)) 0 [.s (.c 0 0)] (some none)) (.loop 0 [.c 1 0] (.em (.nx (.next (.tmp 0) false) 0 [.s (.c 3 0)] [some 3,some 4]) (.cond (.c 5 0) (.em (.lt (.entry (.tmp 0)) 0 [.s (.c 3 0)] [some 3,some 4]) (.em (.call 68 [.g [.c 6 0,.c 6 1,.c 6 2]] [none]) (.em (.pr (.call (.mk (.builtin .max) #[.tmp 0,.tmp 1] #[3,3])) 3 [.s (.c 4 0),.s (.c 7 0)]) (.back 0 [.c 8 0])))) (.ret (.v (.s (.c 4 0))))))))) (by kernel_rfl) (by kernel_rfl) (by kernel_rfl) rfl (fun i v h=>?_) (fun w0 h0=>?_)
  · match i,h with
    | 0,h=>cases h
    | 1,h=>cases h
    | 2,h=>cases h; rfl
    | _+3,h=>cases h
  refine aOpen 0 0 rfl rfl (fun p0 hp0=>?_)
  refine aRange (m:=cM) (en:=entsP p0 k) (kt:=25) (e:=56) (i:=0) (j:=0) rfl (fun gi=>?_)
  refine aLoopU [(3,1,fun s:Rg=>.iter gi cM s.2.2 (entsP s.2.1 k))] (fun s=>[.ro true (pV (.int .i64 (maxP (fun m=>(dg m:Nat)) n s.1)))]) (fun s=>(s.1++s.2.1).Perm p0) (fun s=>s.2.1.length) ([],p0,none) (List.Perm.refl _) (fun ⟨s,left,cur⟩ hs=>?_)
  refine aNext (m:=cM) (kt:=25) 3 1 rfl rfl cK rfl (fun c l1 l2 hc _=>?_) (fun hc=>?_)
  · obtain ⟨L1,x,L2,rfl,rfl,rfl,rfl⟩:=entsP_split hc
    rw [entsP_app]
    have hxo:x.1.ok:=hp x (hp0.mem_iff.1 (hs.mem_iff.1 (by simp)))
    refine aTrue rfl ?_
    refine aEntry (m:=cM) (kt:=25) 3 1 rfl rfl cK ?_
    refine aCall rfl (deg_ct x.1 hxo) (fun γ=>?_)
    refine aPr rfl (qMax rfl rfl (maxP_app (fun m=>(dg m:Nat)) n s x).symm) rfl ?_
    exact aBack rfl rfl ⟨(s++[x],L1++L2,some (mVal x.1,[pQ x.2 k])),rfl,rfl,perm_step hs,by simp⟩
  · obtain rfl:=entsP_nil hc
    rw [List.append_nil] at hs
    refine aFalse rfl ?_
    exact aRet (fun _=>0) rfl rfl (by rw [maxP_perm (hs.trans hp0)]; rfl)
theorem mostV_ct (p:PolyL) (n:Int) (k:Nat) (hp:OkP p):Ct Tryz.prog JT 67 [some 1,none,none] [[pP p k],[pV (.int .i64 n)],[pV (.func (.func 71) #[] #[])]] [none] (fun _=>[.ro false (pV (.int .i64 (maxP (fun m=>(vr m:Nat)) n p)))]):=by
  refine aCtX ⟨true,[(2,.func (.func 71) #[] #[])]⟩ (D:=DP) hMix (tr:=(.em (.wx (.range 29 (.tmp 0)) 0 [.s (.c 0 0)] (some none)) (.loop 0 [.c 1 0] (.em (.nx (.next (.tmp 0) false) 0 [.s (.c 3 0)] [some 3,some 4]) (.cond (.c 5 0) (.em (.lt (.entry (.tmp 0)) 0 [.s (.c 3 0)] [some 3,some 4]) (.em (.call 71 [.g [.c 6 0,.c 6 1,.c 6 2]] [none]) (.em (.pr (.call (.mk (.builtin .max) #[.tmp 0,.tmp 1] #[3,3])) 3 [.s (.c 4 0),.s (.c 7 0)]) (.back 0 [.c 8 0])))) (.ret (.v (.s (.c 4 0))))))))) (by kernel_rfl) (by kernel_rfl) (by kernel_rfl) rfl (fun i v h=>?_) (fun w0 h0=>?_)
  · match i,h with
    | 0,h=>cases h
    | 1,h=>cases h
    | 2,h=>cases h; rfl
    | _+3,h=>cases h
  refine aOpen 0 0 rfl rfl (fun p0 hp0=>?_)
  refine aRange (m:=cM) (en:=entsP p0 k) (kt:=25) (e:=56) (i:=0) (j:=0) rfl (fun gi=>?_)
  refine aLoopU [(3,1,fun s:Rg=>.iter gi cM s.2.2 (entsP s.2.1 k))] (fun s=>[.ro true (pV (.int .i64 (maxP (fun m=>(vr m:Nat)) n s.1)))]) (fun s=>(s.1++s.2.1).Perm p0) (fun s=>s.2.1.length) ([],p0,none) (List.Perm.refl _) (fun ⟨s,left,cur⟩ hs=>?_)
  refine aNext (m:=cM) (kt:=25) 3 1 rfl rfl cK rfl (fun c l1 l2 hc _=>?_) (fun hc=>?_)
  · obtain ⟨L1,x,L2,rfl,rfl,rfl,rfl⟩:=entsP_split hc
    rw [entsP_app]
    have hxo:x.1.ok:=hp x (hp0.mem_iff.1 (hs.mem_iff.1 (by simp)))
    refine aTrue rfl ?_
    refine aEntry (m:=cM) (kt:=25) 3 1 rfl rfl cK ?_
    refine aCall rfl (vars_ct x.1) (fun γ=>?_)
    refine aPr rfl (qMax rfl rfl (maxP_app (fun m=>(vr m:Nat)) n s x).symm) rfl ?_
    exact aBack rfl rfl ⟨(s++[x],L1++L2,some (mVal x.1,[pQ x.2 k])),rfl,rfl,perm_step hs,by simp⟩
  · obtain rfl:=entsP_nil hc
    rw [List.append_nil] at hs
    refine aFalse rfl ?_
    exact aRet (fun _=>0) rfl rfl (by rw [maxP_perm (hs.trans hp0)]; rfl)
theorem degree_ct (p:PolyL) (k:Nat) (hp:OkP p):Ct Tryz.prog JT 20 [some 1] [[pP p k]] [none] (fun _=>[.ro false (pV (.int .i64 (maxP (fun m=>(dg m:Nat)) (-1) p)))]):=by
  refine aCtO ⟨true,[]⟩ (D:=DP) hMix (tr:=(.em (.call 67 [.g [.c 0 0],.s (.k (.int .i64 (Int.negSucc 0))),.s (.k (.func (.func 68) #[] #[]))] [none]) (.ret (.v (.s (.c 1 0)))))) (by kernel_rfl) (by kernel_rfl) (by kernel_rfl) rfl (fun _ _ h=>by cases h) (fun w0=>?_)
  refine aCall rfl (mostD_ct p (-1) k hp) (fun γ=>?_)
  exact aRet (fun _=>0) rfl rfl rfl
theorem pvarsP_ct (p:PolyL) (k:Nat) (hp:OkP p):Ct Tryz.prog JT 24 [some 1] [[pP p k]] [none] (fun _=>[.ro false (pV (.int .i64 (maxP (fun m=>(vr m:Nat)) 0 p)))]):=by
  refine aCtO ⟨true,[]⟩ (D:=DP) hMix (tr:=(.em (.call 67 [.g [.c 0 0],.s (.k (.int .i64 0)),.s (.k (.func (.func 71) #[] #[]))] [none]) (.ret (.v (.s (.c 1 0)))))) (by kernel_rfl) (by kernel_rfl) (by kernel_rfl) rfl (fun _ _ h=>by cases h) (fun w0=>?_)
  refine aCall rfl (mostV_ct p 0 k hp) (fun γ=>?_)
  exact aRet (fun _=>0) rfl rfl rfl
def intR:Rty:=⟨3,1,[],[]⟩
def monoR:Rty:=⟨25,3,[],[]⟩
def DT:TypeId→Bool:=fun t=>DP t || t == 3 || t == 25
def DI:TypeId→Bool:=fun t=>DP t || t == 3
theorem top1_ct (a:M) (ha:a.ok) (i:Int) (hi:0≤i∧i < 3):Ct Tryz.prog JT 70 [some 3,none] [mV a,[pElem intR [pV (.int .i64 i)]]] [none] (fun _=>[.ro false (pV (.int .i64 (exV i a:Nat)))]):=by
  refine aCtX ⟨true,[(1000,.bool true)]⟩ (D:=DT) hMix (tr:=(.em (.wx (.box 25 (.tmp 0)) 0 [.g [.c 0 0,.c 0 1,.c 0 2]] (some none)) (.em (.ld (.load 3 (.tmp 0)) 3 [.s (.c 1 0)] none) (.em (.pr (.indexAddr 25 (.tmp 0) (.tmp 1)) 0 [.s (.c 2 0),.s (.c 3 0)]) (.em (.ld (.load 5 (.tmp 0)) 5 [.s (.c 4 0)] none) (.em (.pr (.convert 5 3 (.tmp 0)) 3 [.s (.c 5 0)]) (.ret (.v (.s (.c 6 0)))))))))) (by kernel_rfl) (by kernel_rfl) (by kernel_rfl) rfl (fun i v h=>?_) (fun w0 h0=>?_)
  · simp [Opt.at] at h
    omega
  refine aBox monoR (v:=mVal a) (zs:=[.int .u8 (a.1:Nat),.int .u8 (a.2.1:Nat),.int .u8 (a.2.2:Nat)]) (row:=mV a) rfl rfl rfl (fun g=>?_)
  refine aSee 2 0 rfl ?_
  refine aLd rfl rfl rfl ?_
  obtain ⟨o0,o1,o2⟩:=ha
  rcases (show i=0∨i=1∨i=2 by omega) with rfl | rfl | rfl
  · refine aArr (m:=0) (off:=0) (e:=5) rfl rfl (fun _=>rfl) (by kernel_rfl) rfl ?_
    refine aLd rfl rfl rfl ?_
    refine aPr rfl (cvU uU uI rfl (by omega) (by omega)) rfl ?_
    exact aRet (fun _=>0) rfl rfl rfl
  · refine aArr (m:=1) (off:=1) (e:=5) rfl rfl (fun _=>rfl) (by kernel_rfl) rfl ?_
    refine aLd rfl rfl rfl ?_
    refine aPr rfl (cvU uU uI rfl (by omega) (by omega)) rfl ?_
    exact aRet (fun _=>0) rfl rfl rfl
  · refine aArr (m:=2) (off:=2) (e:=5) rfl rfl (fun _=>rfl) (by kernel_rfl) rfl ?_
    refine aLd rfl rfl rfl ?_
    refine aPr rfl (cvU uU uI rfl (by omega) (by omega)) rfl ?_
    exact aRet (fun _=>0) rfl rfl rfl
theorem mostT_ct (p:PolyL) (n:Int) (k:Nat) (i:Int) (hi:0≤i∧i < 3) (hp:OkP p):Ct Tryz.prog JT 67 [some 1,none,none] [[pP p k],[pV (.int .i64 n)],[pFn 70 [pElem intR [pV (.int .i64 i)]]]] [none] (fun _=>[.ro false (pV (.int .i64 (maxP (fun m=>(exV i m:Nat)) n p)))]):=by
  refine aCtX ⟨true,[]⟩ (D:=DP) hMix (tr:=(.em (.wx (.range 29 (.tmp 0)) 0 [.s (.c 0 0)] (some none)) (.loop 0 [.c 1 0] (.em (.nx (.next (.tmp 0) false) 0 [.s (.c 3 0)] [some 3,some 4]) (.cond (.c 5 0) (.em (.lt (.entry (.tmp 0)) 0 [.s (.c 3 0)] [some 3,some 4]) (.em (.cv (.c 2 0) [.g [.c 6 0,.c 6 1,.c 6 2]] [none]) (.em (.pr (.call (.mk (.builtin .max) #[.tmp 0,.tmp 1] #[3,3])) 3 [.s (.c 4 0),.s (.c 7 0)]) (.back 0 [.c 8 0])))) (.ret (.v (.s (.c 4 0))))))))) (by kernel_rfl) (by kernel_rfl) (by kernel_rfl) rfl (fun _ v h=>?_) (fun w0 h0=>?_)
  · cases h
  refine aOpen 0 0 rfl rfl (fun p0 hp0=>?_)
  refine aRange (m:=cM) (en:=entsP p0 k) (kt:=25) (e:=56) (i:=0) (j:=0) rfl (fun gi=>?_)
  refine aLoopU [(3,1,fun s:Rg=>.iter gi cM s.2.2 (entsP s.2.1 k))] (fun s=>[.ro true (pV (.int .i64 (maxP (fun m=>(exV i m:Nat)) n s.1)))]) (fun s=>(s.1++s.2.1).Perm p0) (fun s=>s.2.1.length) ([],p0,none) (List.Perm.refl _) (fun ⟨s,left,cur⟩ hs=>?_)
  refine aNext (m:=cM) (kt:=25) 3 1 rfl rfl cK rfl (fun c l1 l2 hc _=>?_) (fun hc=>?_)
  · obtain ⟨L1,x,L2,rfl,rfl,rfl,rfl⟩:=entsP_split hc
    rw [entsP_app]
    have hxo:x.1.ok:=hp x (hp0.mem_iff.1 (hs.mem_iff.1 (by simp)))
    refine aTrue rfl ?_
    refine aEntry (m:=cM) (kt:=25) 3 1 rfl rfl cK ?_
    refine aCallV rfl rfl (top1_ct x.1 hxo i hi) (by kernel_rfl) (fun γ=>?_)
    refine aPr rfl (qMax rfl rfl (maxP_app (fun m=>(exV i m:Nat)) n s x).symm) rfl ?_
    exact aBack rfl rfl ⟨(s++[x],L1++L2,some (mVal x.1,[pQ x.2 k])),rfl,rfl,perm_step hs,by simp⟩
  · obtain rfl:=entsP_nil hc
    rw [List.append_nil] at hs
    refine aFalse rfl ?_
    exact aRet (fun _=>0) rfl rfl (by rw [maxP_perm (hs.trans hp0)]; rfl)
theorem topK_ct (p:PolyL) (i:Int) (k:Nat) (hp:OkP p) (hi:0≤i∧i < 3):Ct Tryz.prog JT 22 [some 1,none] [[pP p k],[pV (.int .i64 i)]] [none] (fun _=>[.ro false (pV (.int .i64 (topP i p)))]):=by
  refine aCtX ⟨true,[]⟩ (D:=DI) hMix (tr:=(.em (.wx (.box 3 (.tmp 0)) 0 [.s (.c 1 0)] (some none)) (.em (.ld (.load 3 (.tmp 0)) 3 [.s (.c 2 0)] none) (.em (.pr (.binOp .lss 3 (.tmp 0) (.const (.int .i64 0)) 3) 4 [.s (.c 3 0),.s (.k (.int .i64 0))]) (.cond (.c 4 0) (.ret (.v (.s (.k (.int .i64 0))))) (.em (.ld (.load 3 (.tmp 0)) 3 [.s (.c 2 0)] none) (.em (.pr (.binOp .geq 3 (.tmp 0) (.const (.int .i64 3)) 3) 4 [.s (.c 5 0),.s (.k (.int .i64 3))]) (.cond (.c 6 0) (.ret (.v (.s (.k (.int .i64 0))))) (.em (.pr (.makeFunc (.func 70) #[] #[.tmp 0]) 121 [.s (.c 2 0)]) (.em (.call 67 [.g [.c 0 0],.s (.k (.int .i64 0)),.s (.c 7 0)] [none]) (.ret (.v (.s (.c 8 0)))))))))))))) (by kernel_rfl) (by kernel_rfl) (by kernel_rfl) rfl (fun _ _ h=>by cases h) (fun w0 h0=>?_)
  refine aBox intR (v:=.int .i64 i) (zs:=[.int .i64 i]) (row:=[pV (.int .i64 i)]) rfl rfl rfl (fun g=>?_)
  refine aSee 2 0 rfl ?_
  refine aLd rfl rfl rfl ?_
  refine aPr rfl (prLt rfl rfl) rfl ?_
  refine aFalse (by show some (Value.bool (decide _))=_; rw [decide_eq_false (by omega)]) ?_
  refine aLd rfl rfl rfl ?_
  refine aPr rfl (prGe rfl rfl) rfl ?_
  refine aFalse (by show some (Value.bool (decide _))=_; rw [decide_eq_false (by omega)]) ?_
  refine aMakeFn rfl ?_
  refine aCall rfl (mostT_ct p 0 k i hi hp) (fun γ=>?_)
  exact aRet (fun _=>0) rfl rfl (by unfold topP; rw [if_pos hi]; rfl)
theorem topN_ct (p:PolyL) (i:Int) (k:Nat) (hi:¬ (0≤i∧i < 3)):Ct Tryz.prog JT 22 [some 1,none] [[pP p k],[pV (.int .i64 i)]] [none] (fun _=>[.ro false (pV (.int .i64 (topP i p)))]):=by
  have e0:topP i p=0:=by unfold topP; rw [if_neg hi]
  refine aCtX ⟨true,[]⟩ (D:=DI) hMix (tr:=(.em (.wx (.box 3 (.tmp 0)) 0 [.s (.c 1 0)] (some none)) (.em (.ld (.load 3 (.tmp 0)) 3 [.s (.c 2 0)] none) (.em (.pr (.binOp .lss 3 (.tmp 0) (.const (.int .i64 0)) 3) 4 [.s (.c 3 0),.s (.k (.int .i64 0))]) (.cond (.c 4 0) (.ret (.v (.s (.k (.int .i64 0))))) (.em (.ld (.load 3 (.tmp 0)) 3 [.s (.c 2 0)] none) (.em (.pr (.binOp .geq 3 (.tmp 0) (.const (.int .i64 3)) 3) 4 [.s (.c 5 0),.s (.k (.int .i64 3))]) (.cond (.c 6 0) (.ret (.v (.s (.k (.int .i64 0))))) (.em (.pr (.makeFunc (.func 70) #[] #[.tmp 0]) 121 [.s (.c 2 0)]) (.em (.call 67 [.g [.c 0 0],.s (.k (.int .i64 0)),.s (.c 7 0)] [none]) (.ret (.v (.s (.c 8 0)))))))))))))) (by kernel_rfl) (by kernel_rfl) (by kernel_rfl) rfl (fun _ _ h=>by cases h) (fun w0 h0=>?_)
  refine aBox intR (v:=.int .i64 i) (zs:=[.int .i64 i]) (row:=[pV (.int .i64 i)]) rfl rfl rfl (fun g=>?_)
  refine aSee 2 0 rfl ?_
  refine aLd rfl rfl rfl ?_
  refine aPr rfl (prLt rfl rfl) rfl ?_
  refine aIf rfl (fun h=>?_) (fun h=>?_)
  · exact aRet (fun _=>0) rfl rfl (by rw [e0]; rfl)
  · have h:¬ i < 0:=of_decide_eq_false h
    refine aLd rfl rfl rfl ?_
    refine aPr rfl (prGe rfl rfl) rfl ?_
    refine aTrue (by show some (Value.bool (decide _))=_; rw [decide_eq_true (by omega)]) ?_
    exact aRet (fun _=>0) rfl rfl (by rw [e0]; rfl)
theorem top_ct (p:PolyL) (i:Int) (k:Nat) (hp:OkP p):Ct Tryz.prog JT 22 [some 1,none] [[pP p k],[pV (.int .i64 i)]] [none] (fun _=>[.ro false (pV (.int .i64 (topP i p)))]):=
  (Classical.em (0≤i∧i < 3)).elim (topK_ct p i k hp) (topN_ct p i k)
theorem topP_rng {i:Int} {p:PolyL} (hp:OkP p):0≤topP i p∧topP i p≤255:=by
  unfold topP
  split
  · exact maxP_rng (by omega) fun t ht=>by have:=exV_ok (i:=i) (hp t ht); omega
  · omega
theorem tops_ct (p:PolyL) (k:Nat) (hp:OkP p):Ct Tryz.prog JT 86 [some 1] [[pP p k]] [some 3] (fun _=>[.ro false (pV (.int .i64 (topP 0 p))),.ro false (pV (.int .i64 (topP 1 p))),.ro false (pV (.int .i64 (topP 2 p)))]):=by
  refine aCtO ⟨true,[]⟩ (D:=DP) hMix (tr:=(.em (.call 22 [.g [.c 0 0],.s (.k (.int .i64 0))] [none]) (.em (.call 22 [.g [.c 0 0],.s (.k (.int .i64 1))] [none]) (.em (.call 22 [.g [.c 0 0],.s (.k (.int .i64 2))] [none]) (.ret (.v (.g [.c 1 0,.c 2 0,.c 3 0]))))))) (by kernel_rfl) (by kernel_rfl) (by kernel_rfl) rfl (fun _ _ h=>by cases h) (fun w0=>?_)
  refine aCall rfl (top_ct p 0 k hp) (fun γ=>?_)
  refine aCall rfl (top_ct p 1 k hp) (fun γ=>?_)
  refine aCall rfl (top_ct p 2 k hp) (fun γ=>?_)
  exact aRet (fun _=>0) rfl rfl rfl
def fitsB (a0 a1 a2 b0 b1 b2:Int):Bool:=decide (a0+b0≤255) && decide (a1+b1≤255) && decide (a2+b2≤255)
theorem fits_ct (a0 a1 a2 b0 b1 b2:Int) (h0:0≤a0∧a0≤255) (h1:0≤a1∧a1≤255) (h2:0≤a2∧a2≤255) (g0:0≤b0∧b0≤255) (g1:0≤b1∧b1≤255) (g2:0≤b2∧b2≤255) :
    Ct Tryz.prog JT 85 [some 3,some 3] [[pV (.int .i64 a0),pV (.int .i64 a1),pV (.int .i64 a2)],[pV (.int .i64 b0),pV (.int .i64 b1),pV (.int .i64 b2)]] [none] (fun _=>[.ro false (pV (.bool (fitsB a0 a1 a2 b0 b1 b2)))]):=by
  refine aCtO ⟨true,[]⟩ (D:=DP) hMix (tr:=(.em (.pr (.binOp .add 3 (.tmp 0) (.tmp 1) 3) 3 [.s (.c 0 0),.s (.c 1 0)]) (.em (.pr (.binOp .gtr 3 (.tmp 0) (.const (.int .i64 255)) 3) 4 [.s (.c 2 0),.s (.k (.int .i64 255))]) (.cond (.c 3 0) (.ret (.v (.s (.k (.bool false))))) (.em (.pr (.binOp .add 3 (.tmp 0) (.tmp 1) 3) 3 [.s (.c 0 1),.s (.c 1 1)]) (.em (.pr (.binOp .gtr 3 (.tmp 0) (.const (.int .i64 255)) 3) 4 [.s (.c 4 0),.s (.k (.int .i64 255))]) (.cond (.c 5 0) (.ret (.v (.s (.k (.bool false))))) (.em (.pr (.binOp .add 3 (.tmp 0) (.tmp 1) 3) 3 [.s (.c 0 2),.s (.c 1 2)]) (.em (.pr (.binOp .gtr 3 (.tmp 0) (.const (.int .i64 255)) 3) 4 [.s (.c 6 0),.s (.k (.int .i64 255))]) (.cond (.c 7 0) (.ret (.v (.s (.k (.bool false))))) (.ret (.v (.s (.k (.bool true))))))))))))))) (by kernel_rfl) (by kernel_rfl) (by kernel_rfl) rfl (fun _ _ h=>by cases h) (fun w0=>?_)
  refine aPr rfl (qAddE (z:=a0+b0) rfl rfl rfl (by omega) (by omega)) rfl ?_
  refine aPr rfl (prGt rfl rfl) rfl ?_
  refine aIf rfl (fun h=>?_) (fun h=>?_)
  · have h:a0+b0 > 255:=of_decide_eq_true h
    exact aRet (fun _=>0) rfl rfl (by unfold fitsB; rw [decide_eq_false (by omega:¬ a0+b0≤255)]; rfl)
  have e0:a0+b0≤255:=by have:¬ a0+b0 > 255:=of_decide_eq_false h; omega
  refine aPr rfl (qAddE (z:=a1+b1) rfl rfl rfl (by omega) (by omega)) rfl ?_
  refine aPr rfl (prGt rfl rfl) rfl ?_
  refine aIf rfl (fun h=>?_) (fun h=>?_)
  · have h:a1+b1 > 255:=of_decide_eq_true h
    exact aRet (fun _=>0) rfl rfl (by unfold fitsB; rw [decide_eq_false (by omega:¬ a1+b1≤255),Bool.and_false]; rfl)
  have e1:a1+b1≤255:=by have:¬ a1+b1 > 255:=of_decide_eq_false h; omega
  refine aPr rfl (qAddE (z:=a2+b2) rfl rfl rfl (by omega) (by omega)) rfl ?_
  refine aPr rfl (prGt rfl rfl) rfl ?_
  refine aIf rfl (fun h=>?_) (fun h=>?_)
  · have h:a2+b2 > 255:=of_decide_eq_true h
    exact aRet (fun _=>0) rfl rfl (by unfold fitsB; rw [decide_eq_false (by omega:¬ a2+b2≤255),Bool.and_false]; rfl)
  have e2:a2+b2≤255:=by have:¬ a2+b2 > 255:=of_decide_eq_false h; omega
  exact aRet (fun _=>0) rfl rfl (by unfold fitsB; rw [decide_eq_true e0,decide_eq_true e1,decide_eq_true e2]; rfl)
end Go.Proofs.YthffkbbcofbceaaGreatDoor

namespace Go.Proofs.YthffkbbcofbceaaGreatDoor
open Go Go.RowKit Cin
abbrev rowM (x:M × Rat) (q:PolyL):PolyL:=q.map fun y=>(mulM x.1 y.1,x.2 * y.2)
theorem prods_app (a b q:PolyL):prods (a++b) q=prods a q++prods b q:=by unfold prods; rw [List.flatMap_append]
theorem prods_snoc (a:PolyL) (x:M × Rat) (q:PolyL):prods (a++[x]) q=prods a q++rowM x q:=by rw [prods_app,prods_cons,prods_nil,List.append_nil]
theorem prods_perm {p p0 q q0:PolyL} (hp:p0.Perm p) (hq:q0.Perm q):addP [] (prods p0 q0)=addP [] (prods p q):=
  canon_eq (Canon.of prods_ok) (Canon.of prods_ok) fun m=>by
    unfold Cin.coP
    rw [evP_of,evP_of,evP_prods,evP_prods,evP_perm _ hp]
    exact evP_congr fun x _=>evP_perm _ hq
theorem okAll_fits {p q:PolyL} (hp:OkP p) (hq:OkP q):okAll p q=fitsB (topP 0 p) (topP 1 p) (topP 2 p) (topP 0 q) (topP 1 q) (topP 2 q):=by
  have hle:∀ (i:Int) (r:PolyL) (x:M × Rat),0≤i∧i < 3→x∈r→(exV i x.1:Int)≤topP i r:=fun i r x hi hx=>by
    unfold topP; rw [if_pos hi]; exact maxP_ge.2 x hx
  have hat:∀ (i:Int) (r:PolyL),0≤i∧i < 3→r≠[]→∃ x∈r,(exV i x.1:Int)=topP i r:=fun i r hi hr=>by
    obtain ⟨x,hx,hm⟩:=exists_max (fun m=>(exV i m:Int)) hr
    refine ⟨x,hx,?_⟩
    unfold topP; rw [if_pos hi]
    have h0:(0:Int)≤(fun m=>((exV i m:Nat):Int)) x.1:=Int.natCast_nonneg _
    exact (maxP_is (f:=fun m=>((exV i m:Nat):Int)) hx h0 hm).symm
  have hnil:∀ i:Int,topP i []=0:=fun i=>by unfold topP; split <;> rfl
  have hmem:∀ a b:M,mulOk a b=true↔∀ i:Int,0≤i∧i < 3→(exV i a:Int)+exV i b≤255:=fun a b=>by
    unfold mulOk
    simp only [Bool.and_eq_true,decide_eq_true_eq]
    constructor
    · rintro ⟨⟨h0,h1⟩,h2⟩ i hi
      rcases (show i=0∨i=1∨i=2 by omega) with rfl | rfl | rfl
      · show ((a.1:Nat):Int)+((b.1:Nat):Int)≤255; omega
      · show ((a.2.1:Nat):Int)+((b.2.1:Nat):Int)≤255; omega
      · show ((a.2.2:Nat):Int)+((b.2.2:Nat):Int)≤255; omega
    · intro h
      have h0:((a.1:Nat):Int)+((b.1:Nat):Int)≤255:=h 0 (by omega)
      have h1:((a.2.1:Nat):Int)+((b.2.1:Nat):Int)≤255:=h 1 (by omega)
      have h2:((a.2.2:Nat):Int)+((b.2.2:Nat):Int)≤255:=h 2 (by omega)
      exact ⟨⟨by omega,by omega⟩,by omega⟩
  have hfit:fitsB (topP 0 p) (topP 1 p) (topP 2 p) (topP 0 q) (topP 1 q) (topP 2 q)=true↔∀ i:Int,0≤i∧i < 3→topP i p+topP i q≤255:=by
    unfold fitsB
    simp only [Bool.and_eq_true,decide_eq_true_eq]
    constructor
    · rintro ⟨⟨h0,h1⟩,h2⟩ i hi
      rcases (show i=0∨i=1∨i=2 by omega) with rfl | rfl | rfl <;> assumption
    · exact fun h=>⟨⟨h 0 (by omega),h 1 (by omega)⟩,h 2 (by omega)⟩
  rw [Bool.eq_iff_iff,hfit]
  unfold okAll
  simp only [List.all_eq_true]
  constructor
  · intro h i hi
    by_cases ep:p=[]
    · subst ep; rw [hnil]; have:=(topP_rng (i:=i) hq).2; omega
    by_cases eq:q=[]
    · subst eq; rw [hnil]; have:=(topP_rng (i:=i) hp).2; omega
    obtain ⟨x,hx,h1⟩:=hat i p hi ep
    obtain ⟨y,hy,h2⟩:=hat i q hi eq
    rw [← h1,← h2]
    exact (hmem _ _).1 (h x hx y hy) i hi
  · intro h x hx y hy
    refine (hmem _ _).2 fun i hi=>?_
    have:=hle i p x hi hx
    have:=hle i q y hi hy
    have:=h i hi
    omega
theorem prods_fit {D N L E W K k:Nat} {p q p0 q0:PolyL} (hp:PB D N L p) (hq:PB E W K q) (hD:D * E < pw k) (hN:N * W < pw k) (h0:p0.Perm p) (h1:q0.Perm q) {l r:PolyL} (h:(l++r).Perm (prods p0 q0)):FitP (fitQ k) (addP [] l):=by
  have hw:WtP (D * E) (prods p0 q0) (N * W):=WtP.prods (hq.wt.perm h1) (hp.wt.perm h0)
  have:=WtP.add (p:=[]) (N:=0) (D:=D * E) trivial ((hw.perm h).pre ⟨r,rfl⟩)
  exact this.fit (Nat.mul_pos hp.pos hq.pos) hD (by omega)
theorem rmid {α:Type} {a b c d:List α}:(a++b++(c++d)).Perm (a++(b++c)++d):=by
  simp only [List.append_assoc]
  exact List.Perm.refl _
theorem pmulP_ct {D N L E W K:Nat} (p q:PolyL) (a b k:Nat) (hp:PB D N L p) (hq:PB E W K q) (cp:Canon p) (cq:Canon q) (hD:D * E < pw k) (hN:N * W < pw k) (hk:k≤100000:=by omega) (ha:a≤50000:=by omega) (hb:b≤50000:=by omega) :
    Ct Tryz.prog JT 43 [some 1,some 1] [[pP p a],[pP q b]] [some 1,none] (fun _=>if okAll p q=true then [.ro false (pP (addP [] (prods p q)) k),.ro false (pV (.bool true))] else [.ro false (pP [] k),.ro false (pV (.bool false))]):=by
  have hfits:=okAll_fits cp.ok cq.ok
  refine aCtX ⟨true,[]⟩ (D:=DP) hMix (tr:=(.em (.call 86 [.g [.c 0 0]] [some 3]) (.em (.call 86 [.g [.c 1 0]] [some 3]) (.em (.call 85 [.g [.c 2 0,.c 2 1,.c 2 2],.g [.c 3 0,.c 3 1,.c 3 2]] [none]) (.em (.pr (.unOp .not 4 (.tmp 0)) 4 [.s (.c 4 0)]) (.cond (.c 5 0) (.ret (.t [.g [.k (.map none)],.s (.k (.bool false))])) (.em (.wx (.makeMap 29 none) 29 [] (some none)) (.em (.wx (.range 29 (.tmp 0)) 0 [.s (.c 0 0)] (some none)) (.loop 0 [] (.em (.nx (.next (.tmp 0) false) 0 [.s (.c 7 0)] [some 3,some 4]) (.cond (.c 9 0) (.em (.lt (.entry (.tmp 0)) 0 [.s (.c 7 0)] [some 3,some 4]) (.em (.wx (.range 29 (.tmp 0)) 0 [.s (.c 1 0)] (some none)) (.loop 1 [] (.em (.nx (.next (.tmp 0) false) 0 [.s (.c 11 0)] [some 3,some 4]) (.cond (.c 13 0) (.em (.lt (.entry (.tmp 0)) 0 [.s (.c 11 0)] [some 3,some 4]) (.em (.call 87 [.g [.c 10 0,.c 10 1,.c 10 2],.g [.c 14 0,.c 14 1,.c 14 2]] [some 3,none]) (.em (.call 55 [.g [.c 10 3,.c 10 4,.c 10 5,.c 10 6],.g [.c 14 3,.c 14 4,.c 14 5,.c 14 6]] [some 4]) (.em (.call 76 [.s (.c 6 0),.g [.c 15 0,.c 15 1,.c 15 2],.g [.c 16 0,.c 16 1,.c 16 2,.c 16 3]] []) (.back 1 []))))) (.back 0 [])))))) (.em (.call 62 [.s (.c 6 0)] [some 1]) (.ret (.t [.g [.c 10 0],.s (.k (.bool true))])))))))))))))) (by kernel_rfl) (by kernel_rfl) (by kernel_rfl) rfl (fun _ _ h=>by cases h) (fun w0 h0=>?_)
  refine aCall rfl (tops_ct p a cp.ok) (fun γ=>?_)
  refine aCall rfl (tops_ct q b cq.ok) (fun γ=>?_)
  refine aCall rfl (fits_ct _ _ _ _ _ _ (topP_rng cp.ok) (topP_rng cp.ok) (topP_rng cp.ok) (topP_rng cq.ok) (topP_rng cq.ok) (topP_rng cq.ok)) (fun γ=>?_)
  refine aPr rfl (prNot rfl) rfl ?_
  rw [← hfits]
  refine aIf rfl (fun h1=>?_) (fun h1=>?_)
  · have hno:¬ okAll p q=true:=by simpa using h1
    exact aRetC (fun _=>0) rfl rfl (by rw [if_neg hno]; exact ConvS.nilP rfl (ConvS.same ConvS.nil))
  have hyes:okAll p q=true:=by simpa using h1
  refine aMakeMap cM (k':=25) (e:=56) (fun g=>?_)
  refine aOpen 0 0 rfl rfl (fun p0 hp0=>?_)
  refine aOpen 1 0 rfl rfl (fun q0 hq0=>?_)
  refine aRange (m:=cM) (en:=entsP p0 a) (kt:=25) (e:=56) (i:=0) (j:=0) rfl (fun gi=>?_)
  refine aLoopU [(6,1,fun t:PolyL × Rg=>.map g cM (entsP t.1 k)),(7,1,fun t:PolyL × Rg=>.iter gi cM t.2.2.2 (entsP t.2.2.1 a))] (fun _=>[]) (fun t=>(t.2.1++t.2.2.1).Perm p0∧t.1.Perm (addP [] (prods t.2.1 q0))) (fun t=>t.2.2.1.length) ([],[],p0,none) ⟨List.Perm.refl _,List.Perm.refl _⟩ (fun ⟨s,done,left,cur⟩ ⟨hd,hs⟩=>?_)
  have hok:∀ y∈done++left,y∈p:=fun y hy=>hp0.mem_iff.1 (hd.mem_iff.1 hy)
  refine aNext (m:=cM) (kt:=25) 7 1 rfl rfl cK rfl (fun c l1 l2 hc _=>?_) (fun hc=>?_)
  · obtain ⟨L1,x,L2,rfl,rfl,rfl,rfl⟩:=entsP_split hc
    rw [entsP_app]
    have hxp:x∈p:=hok x (by simp)
    refine aTrue rfl ?_
    refine aEntry (m:=cM) (kt:=25) 7 1 rfl rfl cK ?_
    have hst:=perm_step hd
    refine aRange (m:=cM) (en:=entsP q0 b) (kt:=25) (e:=56) (i:=1) (j:=0) rfl (fun gj=>?_)
    refine aLoopU [(6,1,fun t:PolyL × Rg=>.map g cM (entsP t.1 k)),(11,1,fun t:PolyL × Rg=>.iter gj cM t.2.2.2 (entsP t.2.2.1 b))] (fun _=>[]) (fun t=>(t.2.1++t.2.2.1).Perm q0∧t.1.Perm (addP [] (prods done q0++rowM x t.2.1))) (fun t=>t.2.2.1.length) (s,[],q0,none) ⟨List.Perm.refl _,by rw [show rowM x []=[] from rfl,List.append_nil]; exact hs⟩ (fun ⟨t,don2,lef2,cur2⟩ ⟨hd2,ht⟩=>?_)
    have hok2:∀ y∈don2++lef2,y∈q:=fun y hy=>hq0.mem_iff.1 (hd2.mem_iff.1 hy)
    have hrow:OkP (prods done q0++rowM x don2):=fun y hy=>by
      rcases List.mem_append.1 hy with hy | hy
      · exact prods_ok y hy
      · obtain ⟨z,_,rfl⟩:=List.mem_map.1 hy; exact mulM_ok _ _
    refine aNext (m:=cM) (kt:=25) 11 1 rfl rfl cK rfl (fun c l1 l2 hc _=>?_) (fun hc=>?_)
    · obtain ⟨M1,y,M2,rfl,rfl,rfl,rfl⟩:=entsP_split hc
      rw [entsP_app]
      have hyq:y∈q:=hok2 y (by simp)
      have hst2:=perm_step hd2
      refine aTrue rfl ?_
      refine aEntry (m:=cM) (kt:=25) 11 1 rfl rfl cK ?_
      refine aCall rfl (mul_ct x.1 y.1 (cp.ok x hxp) (cq.ok y hyq)) (fun γ=>?_)
      refine aCall rfl (qmul_ct x.2 y.2 a b) (fun γ=>?_)
      have hpp:=ins_perm (t:=(mulM x.1 y.1,x.2 * y.2)) ht (Canon.of hrow) (mulM_ok _ _)
      have hsn:rowM x (don2++[y])=rowM x don2++[(mulM x.1 y.1,x.2 * y.2)]:=by simp [rowM]
      rw [← addP_snoc,List.append_assoc,← hsn] at hpp
      have hfit:FitP (fitQ k) (addP [] (prods done q0++rowM x (don2++[y]))):=by
        refine prods_fit hp hq hD hN hp0 hq0 (r:=rowM x (M1++M2)++prods (L1++L2) q0) ?_
        have e1:(rowM x (don2++[y])++rowM x (M1++M2)).Perm (rowM x q0):=by
          rw [← List.map_append]; exact hst2.map _
        refine rmid.trans ?_
        have e2:(prods done q0++rowM x q0++prods (L1++L2) q0).Perm (prods p0 q0):=by
          rw [← prods_snoc,← prods_app]
          exact hst.flatMap_right _
        exact ((e1.append_left _).append_right _).trans e2
      refine aCallM 6 1 rfl rfl (cadd_ct t g (mulM x.1 y.1) (x.2 * y.2) k (a+b) (GoodP.perm ht (Canon.of hrow).good) (mulM_ok _ _) (FitP.perm hpp hfit)) (fun γ=>?_)
      exact aBack rfl rfl ⟨(insT t (mulM x.1 y.1,x.2 * y.2),don2++[y],M1++M2,some (mVal y.1,[pQ y.2 b])),rfl,rfl,⟨hst2,hpp⟩,by simp⟩
    · obtain rfl:=entsP_nil hc
      rw [List.append_nil] at hd2
      refine aFalse rfl ?_
      refine aBack rfl rfl ⟨(t,done++[x],L1++L2,some (mVal x.1,[pQ x.2 a])),rfl,rfl,⟨hst,?_⟩,by simp⟩
      show t.Perm (addP [] (prods (done++[x]) q0))
      rw [prods_snoc]
      have e1:(prods done q0++rowM x don2).Perm (prods done q0++rowM x q0):=(hd2.map _).append_left _
      have e2:OkP (prods done q0++rowM x q0):=fun y hy=>by
        rcases List.mem_append.1 hy with hy | hy
        · exact prods_ok y hy
        · obtain ⟨z,_,rfl⟩:=List.mem_map.1 hy; exact mulM_ok _ _
      rw [← addP_perm Canon.nil e2 e1]
      exact ht
  · obtain rfl:=entsP_nil hc
    rw [List.append_nil] at hd
    refine aFalse rfl ?_
    refine aFreeze 6 0 6 1 rfl rfl h0 ?_
    have hs:s.Perm (addP [] (prods p q)):=by rw [← prods_perm (hd.trans hp0) hq0]; exact hs
    refine aCall rfl (ctake_ct s _ k hs) (fun γ=>?_)
    exact aRet (fun _=>0) rfl rfl (by rw [if_pos hyes]; rfl)
end Go.Proofs.YthffkbbcofbceaaGreatDoor

namespace Go.Proofs.YthffkbbcofbceaaGreatDoor
open Go Go.RowKit Cin
abbrev cmpV:Value:=.func (.func 75) #[] #[]
theorem tcmp_ct (x y:M × Rat) (k:Nat) (hx:x.1.ok) (hy:y.1.ok):Ct Tryz.prog JT 75 [some 7,some 7] [mV x.1++[pQ x.2 k],mV y.1++[pQ y.2 k]] [none] (fun _=>[.ro false (pV (.int .i64 (mc x.1 y.1)))]):=by
  refine aCtO ⟨true,[]⟩ (D:=DP) hMix (tr:=(.em (.call 61 [.g [.c 0 0,.c 0 1,.c 0 2],.g [.c 1 0,.c 1 1,.c 1 2]] [none]) (.ret (.v (.s (.c 2 0)))))) (by kernel_rfl) (by kernel_rfl) (by kernel_rfl) rfl (fun _ _ h=>by cases h) (fun w0=>?_)
  refine aCall rfl (mcmp_ct x.1 y.1 hx hy) (fun γ=>?_)
  exact aRet (fun _=>0) rfl rfl rfl
theorem swap_rows {A C:PolyL} {x y:M × Rat} {k:Nat}:((rowsQ (A++y::x::C) k).set (A.length+1) (mV y.1++[pQ y.2 k])).set A.length (mV x.1++[pQ x.2 k])=rowsQ (A++x::y::C) k:=by
  unfold rowsQ
  rw [List.map_append,List.map_append,List.set_append_right _ _ (by simp),List.set_append_right _ _ (by simp)]
  simp
def Rising (l:PolyL):Prop:=l.Pairwise fun x y=>mc x.1 y.1 < 0
theorem rising_canon {l p:PolyL} (h:l.Perm p) (hp:Canon p) (hr:Rising l):l=p:=by
  have hg:=GoodP.perm h hp.good
  exact canon_eq ⟨hg.ok,hr,hg.nz⟩ hp fun m=>evP_perm _ h
theorem rising_mid {A B:PolyL} {x:M × Rat} (h:Rising (A++B)) (h1:∀ a∈A,mc a.1 x.1 < 0) (h2:∀ b∈B,mc x.1 b.1 < 0):Rising (A++x::B):=by
  unfold Rising at h ⊢
  rw [List.pairwise_append] at h ⊢
  refine ⟨h.1,List.pairwise_cons.2 ⟨h2,h.2.1⟩,fun a ha b hb=>?_⟩
  rcases List.mem_cons.1 hb with rfl | hb
  · exact h1 a ha
  · exact h.2.2 a ha b hb
theorem rising_last {A B:PolyL} {x y:M × Rat} (h:Rising ((A++[y])++B)) (hok:∀ z∈A++[y],z.1.ok) (hxo:x.1.ok) (hy:mc y.1 x.1 < 0):∀ a∈A++[y],mc a.1 x.1 < 0:=fun a ha=>by
  unfold Rising at h
  rw [List.pairwise_append,List.pairwise_append] at h
  rcases List.mem_append.1 ha with h1 | h1
  · exact mc_lt_trans (hok a ha) (hok y (by simp)) hxo (h.1.2.2 a h1 y (by simp)) hy
  · rw [List.mem_singleton.1 h1]; exact hy
abbrev JS (l:PolyL) (i:Nat) (S R:PolyL):Prop:=(S++R).Perm l∧Rising S∧(i=S.length∨(S=[]∧R=[]∧i=1))
theorem isort_ct (l p:PolyL) (g cap k:Nat) (hl:l.Perm p) (hp:Canon p) (hlen:l.length≤1000000) :
    CtM Tryz.prog JT 153 [none,none,none,none] [[pV (.slice (some ⟨g,0,none⟩) l.length cap)],[pV (.int .i64 0)],[pV (.int .i64 l.length)],[pV cmpV]] (.blk g ptR cap (rowsQ l k)) [] (fun _=>.blk g ptR cap (rowsQ p k)) (fun _=>[]):=by
  have hg:=GoodP.perm hl hp.good
  refine aCtM ⟨true,[(3,cmpV)]⟩ (D:=DP) hMix (tr:=(.em (.pr (.binOp .add 3 (.tmp 0) (.const (.int .i64 1)) 3) 3 [.s (.c 1 0),.s (.k (.int .i64 1))]) (.loop 0 [.c 4 0] (.em (.pr (.binOp .lss 3 (.tmp 0) (.tmp 1) 3) 4 [.s (.c 5 0),.s (.c 2 0)]) (.cond (.c 6 0) (.loop 1 [.c 5 0] (.em (.pr (.binOp .gtr 3 (.tmp 0) (.tmp 1) 3) 4 [.s (.c 7 0),.s (.c 1 0)]) (.cond (.c 8 0) (.em (.pr (.indexAddr 45 (.tmp 0) (.tmp 1)) 0 [.s (.c 0 0),.s (.c 7 0)]) (.em (.pr (.binOp .sub 3 (.tmp 0) (.const (.int .i64 1)) 3) 3 [.s (.c 7 0),.s (.k (.int .i64 1))]) (.em (.pr (.indexAddr 45 (.tmp 0) (.tmp 1)) 0 [.s (.c 0 0),.s (.c 10 0)]) (.em (.ld (.load 65 (.tmp 0)) 65 [.s (.c 9 0)] (some 7)) (.em (.ld (.load 65 (.tmp 0)) 65 [.s (.c 11 0)] (some 7)) (.em (.call 75 [.g [.c 12 0,.c 12 1,.c 12 2,.c 12 3,.c 12 4,.c 12 5,.c 12 6],.g [.c 13 0,.c 13 1,.c 13 2,.c 13 3,.c 13 4,.c 13 5,.c 13 6]] [none]) (.em (.pr (.binOp .lss 3 (.tmp 0) (.const (.int .i64 0)) 3) 4 [.s (.c 14 0),.s (.k (.int .i64 0))]) (.cond (.c 15 0) (.em (.pr (.binOp .sub 3 (.tmp 0) (.const (.int .i64 1)) 3) 3 [.s (.c 7 0),.s (.k (.int .i64 1))]) (.em (.pr (.binOp .sub 3 (.tmp 0) (.const (.int .i64 1)) 3) 3 [.s (.c 7 0),.s (.k (.int .i64 1))]) (.em (.pr (.indexAddr 45 (.tmp 0) (.tmp 1)) 0 [.s (.c 0 0),.s (.c 17 0)]) (.em (.pr (.indexAddr 45 (.tmp 0) (.tmp 1)) 0 [.s (.c 0 0),.s (.c 7 0)]) (.em (.ld (.load 65 (.tmp 0)) 65 [.s (.c 18 0)] (some 7)) (.em (.ld (.load 65 (.tmp 0)) 65 [.s (.c 19 0)] (some 7)) (.em (.pr (.indexAddr 45 (.tmp 0) (.tmp 1)) 0 [.s (.c 0 0),.s (.c 7 0)]) (.em (.wx (.store 65 (.tmp 0) (.tmp 1)) 0 [.s (.c 22 0),.g [.c 20 0,.c 20 1,.c 20 2,.c 20 3,.c 20 4,.c 20 5,.c 20 6]] none) (.em (.pr (.indexAddr 45 (.tmp 0) (.tmp 1)) 0 [.s (.c 0 0),.s (.c 16 0)]) (.em (.wx (.store 65 (.tmp 0) (.tmp 1)) 0 [.s (.c 24 0),.g [.c 21 0,.c 21 1,.c 21 2,.c 21 3,.c 21 4,.c 21 5,.c 21 6]] none) (.em (.pr (.binOp .sub 3 (.tmp 0) (.const (.int .i64 1)) 3) 3 [.s (.c 7 0),.s (.k (.int .i64 1))]) (.back 1 [.c 26 0])))))))))))) (.em (.pr (.binOp .add 3 (.tmp 0) (.const (.int .i64 1)) 3) 3 [.s (.c 5 0),.s (.k (.int .i64 1))]) (.back 0 [.c 16 0])))))))))) (.em (.pr (.binOp .add 3 (.tmp 0) (.const (.int .i64 1)) 3) 3 [.s (.c 5 0),.s (.k (.int .i64 1))]) (.back 0 [.c 9 0]))))) (.ret (.t []))))))) (by kernel_rfl) (by kernel_rfl) (by kernel_rfl) rfl rfl (fun i v h=>?_) (fun w0 hX=>?_)
  · match i,h with
    | 0,h=>cases h
    | 1,h=>cases h
    | 2,h=>cases h
    | 3,h=>cases h; rfl
    | _+4,h=>cases h
  refine aPr rfl (qAddE (z:=(1:Nat)) rfl rfl (by omega) (by omega) (by omega)) rfl ?_
  refine aLoopU [(0,1,fun s:Nat × PolyL × PolyL=>.blk g ptR cap (rowsQ (s.2.1++s.2.2) k))] (fun s:Nat × PolyL × PolyL=>[.ro true (pV (.int .i64 (s.1:Nat)))]) (fun s=>JS l s.1 s.2.1 s.2.2) (fun s=>s.2.2.length)
    (1,l.take 1,l.drop 1) ⟨by rw [List.take_append_drop],?_,?_⟩ (fun ⟨i,S,R⟩ ⟨hs,hr,hi⟩=>?_) (h0:=by rw [List.take_append_drop]; rfl)
  · match l with
    | []=>exact List.Pairwise.nil
    | x::_=>exact List.pairwise_singleton _ _
  · match l with
    | []=>exact .inr ⟨rfl,rfl,rfl⟩
    | x::_=>exact .inl (by simp)
  have hsl:S.length+R.length=l.length:=by have:=hs.length_eq; rw [List.length_append] at this; exact this
  refine aPr rfl (prLt rfl rfl) rfl ?_
  refine aIf rfl (fun h1=>?_) (fun h1=>?_)
  · have h1:(i:Int) < (l.length:Nat):=of_decide_eq_true h1
    have hiS:i=S.length:=hi.elim id fun ⟨e1,e2,_⟩=>by subst e1; subst e2; simp at hsl; omega
    obtain ⟨x,R',rfl⟩:∃ x R',R=x::R':=by
      match R with
      | []=>simp at hsl; omega
      | x::R'=>exact ⟨x,R',rfl⟩
    have hgs:GoodP (S++x::R'):=GoodP.perm hs hg
    have hall:∀ z∈S++x::R',z.1.ok:=hgs.ok
    refine aLoopU [(0,1,fun s:PolyL × PolyL=>.blk g ptR cap (rowsQ (s.1++x::(s.2++R')) k))] (fun s:PolyL × PolyL=>[.ro true (pV (.int .i64 (s.1.length:Nat)))]) (fun s=>s.1++s.2=S∧∀ b∈s.2,mc x.1 b.1 < 0) (fun s=>s.1.length)
      (S,[]) ⟨List.append_nil _,fun _ h=>by cases h⟩ (fun ⟨A,B⟩ ⟨hab,hxb⟩=>?_) (h0:=by rw [hiS]; rfl)
    subst hab
    have hsub:∀ z∈A++B,z.1.ok:=fun z hz=>hall z (by simp at hz ⊢; rcases hz with h | h <;> simp [h])
    have hxo:x.1.ok:=hall x (by simp)
    have hpm:((A++x::B)++R').Perm l:=by
      refine List.Perm.trans ?_ hs
      rw [List.append_assoc,List.append_assoc]
      exact List.Perm.append_left A (by rw [List.cons_append]; exact List.perm_middle.symm)
    have hA:A.length+B.length < l.length:=by simp at hsl; omega
    refine aPr rfl (prGt rfl rfl) rfl ?_
    refine aIf rfl (fun h2=>?_) (fun h2=>?_)
    · have h2:(0:Int) < (A.length:Nat):=of_decide_eq_true h2
      obtain ⟨A',y,rfl⟩:∃ A' y,A=A'++[y]:=⟨A.dropLast,A.getLast (by rintro rfl; simp at h2),(List.dropLast_concat_getLast _).symm⟩
      have eA:(A'++[y]).length=A'.length+1:=by simp
      have hyo:y.1.ok:=hsub y (by simp)
      have hrj:(rowsQ ((A'++[y])++x::(B++R')) k)[A'.length+1]?=some (mV x.1++[pQ x.2 k]):=by simp [rowsQ]
      have hrj':(rowsQ ((A'++[y])++x::(B++R')) k)[A'.length]?=some (mV y.1++[pQ y.2 k]):=by simp [rowsQ]
      have hlA:A'.length+1 < l.length:=by rw [eA] at hA; omega
      simp only [eA]
      refine aIdxK ptR (A'.length+1) rfl rfl (fun _=>rfl) hlA ?_
      refine aPr rfl (qSubE (z:=(A'.length:Nat)) rfl rfl (by omega) (by omega) (by omega)) rfl ?_
      refine aIdxK ptR A'.length rfl rfl (fun _=>rfl) (by omega) ?_
      refine aLdK 0 1 (A'.length+1) 0 rfl rfl hrj rfl rfl rfl ?_
      refine aLdK 0 1 A'.length 0 rfl rfl hrj' rfl rfl rfl ?_
      refine aCall rfl (tcmp_ct x y k hxo hyo) (fun γ=>?_)
      refine aPr rfl (prLt rfl rfl) rfl ?_
      refine aIf rfl (fun h3=>?_) (fun h3=>?_)
      · have h3:mc x.1 y.1 < 0:=of_decide_eq_true h3
        refine aPr rfl (qSubE (z:=(A'.length:Nat)) rfl rfl (by omega) (by omega) (by omega)) rfl ?_
        refine aPr rfl (qSubE (z:=(A'.length:Nat)) rfl rfl (by omega) (by omega) (by omega)) rfl ?_
        refine aIdxK ptR A'.length rfl rfl (fun _=>rfl) (by omega) ?_
        refine aIdxK ptR (A'.length+1) rfl rfl (fun _=>rfl) hlA ?_
        refine aLdK 0 1 A'.length 0 rfl rfl hrj' rfl rfl rfl ?_
        refine aLdK 0 1 (A'.length+1) 0 rfl rfl hrj rfl rfl rfl ?_
        refine aIdxK ptR (A'.length+1) rfl rfl (fun _=>rfl) hlA ?_
        refine aStore 0 1 (A'.length+1) 0 rfl rfl rfl rfl hrj rfl rfl rfl ?_
        refine aIdxK ptR A'.length rfl rfl (fun _=>rfl) (by omega) ?_
        have hrs:((rowsQ ((A'++[y])++x::(B++R')) k).set (A'.length+1) (mV y.1++[pQ y.2 k]))[A'.length]?=some (mV y.1++[pQ y.2 k]):=by
          rw [List.getElem?_set_ne (by omega)]; exact hrj'
        refine aStore 0 1 A'.length 0 rfl rfl rfl rfl hrs rfl rfl rfl ?_
        refine aPr rfl (qSubE (z:=(A'.length:Nat)) rfl rfl (by omega) (by omega) (by omega)) rfl ?_
        refine aBack rfl rfl ⟨(A',y::B),?_,rfl,⟨by simp,fun b hb=>?_⟩,by simp⟩
        · have e1:(A'++[y])++x::(B++R')=A'++y::x::(B++R'):=by simp
          have e:((rowsQ ((A'++[y])++x::(B++R')) k).set (A'.length+1) (mV y.1++[pQ y.2 k])).set A'.length (mV x.1++[pQ x.2 k])=rowsQ (A'++x::((y::B)++R')) k:=by rw [e1]; exact swap_rows
          exact congrArg (fun rs=>[[AV.ro true (pV (Value.slice (some ⟨g,0,none⟩) l.length cap)),AV.blk g ptR cap rs],[.ro true (pV (.int .i64 0))],[.ro true (pV (.int .i64 l.length))],[.ro true (pV cmpV)],[.ro true (pV (.int .i64 (1:Nat)))],[.ro true (pV (.int .i64 i))],[.ro true (pV (.bool (decide ((i:Int) < (l.length:Nat)))))]]) e
        · rcases List.mem_cons.1 hb with rfl | hb
          · exact h3
          · exact hxb b hb
      · have h3:¬ mc x.1 y.1 < 0:=of_decide_eq_false h3
        have hne:y.1≠x.1:=fun e=>by
          have h4:=hgs.nd
          rw [List.map_append] at h4
          exact (List.nodup_append.1 h4).2.2 y.1 (by simp) x.1 (by simp) e
        have hyx:mc y.1 x.1 < 0:=by
          have h5:=mc_neg hyo hxo
          have h6:=mt (mc_zero hyo hxo).1 hne
          have:=mc_rng x.1 y.1
          omega
        have hlast:=rising_last hr (fun z hz=>hsub z (by simp at hz ⊢; rcases hz with h | h <;> simp [h])) hxo hyx
        refine aPr rfl (qAddE (z:=(i+1:Nat)) rfl rfl (by omega) (by omega) (by omega)) rfl ?_
        refine aBack rfl rfl ⟨(i+1,(A'++[y])++x::B,R'),?_,rfl,⟨hpm,rising_mid hr hlast hxb,.inl ?_⟩,?_⟩
        · exact congrArg (fun q=>[[AV.ro true (pV (Value.slice (some ⟨g,0,none⟩) l.length cap)),AV.blk g ptR cap (rowsQ q k)],[.ro true (pV (.int .i64 0))],[.ro true (pV (.int .i64 l.length))],[.ro true (pV cmpV)],[.ro true (pV (.int .i64 (1:Nat)))]]) (show (A'++[y])++x::(B++R')=((A'++[y])++x::B)++R' by simp)
        · rw [hiS]; simp; omega
        · simp
    · have h2:¬ (0:Int) < (A.length:Nat):=of_decide_eq_false h2
      obtain rfl:A=[]:=List.eq_nil_of_length_eq_zero (by omega)
      refine aPr rfl (qAddE (z:=(i+1:Nat)) rfl rfl (by omega) (by omega) (by omega)) rfl ?_
      refine aBack rfl rfl ⟨(i+1,x::B,R'),?_,rfl,⟨hpm,rising_mid (A:=[]) hr (fun _ h=>by cases h) hxb,.inl ?_⟩,?_⟩
      · exact congrArg (fun q=>[[AV.ro true (pV (Value.slice (some ⟨g,0,none⟩) l.length cap)),AV.blk g ptR cap (rowsQ q k)],[.ro true (pV (.int .i64 0))],[.ro true (pV (.int .i64 l.length))],[.ro true (pV cmpV)],[.ro true (pV (.int .i64 (1:Nat)))]]) (show []++x::(B++R')=(x::B)++R' by simp)
      · rw [hiS]; simp
      · simp
  · have h1:¬ (i:Int) < (l.length:Nat):=of_decide_eq_false h1
    obtain rfl:R=[]:=by
      rcases hi with e | ⟨_,e,_⟩
      · have e:i=S.length:=e
        exact List.eq_nil_of_length_eq_zero (by omega)
      · exact e
    rw [List.append_nil] at hs
    have e:=rising_canon (hs.trans hl) hp hr
    subst e
    exact aRetM (fun _=>0) 1 hX rfl rfl rfl (by rw [List.append_nil]; rfl)
end Go.Proofs.YthffkbbcofbceaaGreatDoor

namespace Go.Proofs.YthffkbbcofbceaaGreatDoor
open Go Go.RowKit Cin
theorem pdq_small (s c:Value) (n:Nat) (lim:Int) (w:World) {Q:Ending→World→Prop} (hn:n≤12) (h:Calls Tryz.prog 153 #[s,.int .i64 0,.int .i64 n,c] w Q) (hQ:∀ e w',Q e w'→e=.returned (.tuple #[])) :
    Calls Tryz.prog 118 #[s,.int .i64 0,.int .i64 n,.int .i64 lim,c] w Q:=by
  have hle:(((n:Nat):Int) - 0≤12):=by omega
  have H:=Lib.hid h
  have HQ:=Lib.hid hQ
  clear h hQ
  go_enter Tryz.func118,Tryz.ntmps118
  go_wp2_with fail
  go_loop [1,2] (fun a b=>a=.int .i64 0∧b=.int .i64 n) (fun a b=>0)
  case atStart=>exact ⟨rfl,rfl⟩
  case round=>
    obtain ⟨rfl,rfl⟩:=hrel
    have hd:decide (((n:Nat):Int) - 0≤12)=true:=decide_eq_true hle
    go_wp2_with fail
    refine H.out.mono ?_
    intro e w' hq
    obtain rfl:=HQ.out e w' hq
    go_wp2
    (try simp only [Exit.inBlock,Exit.then]); refine bodyPost_ret (results_none rfl _ _ _) rfl ?_
    exact hq
end Go.Proofs.YthffkbbcofbceaaGreatDoor

namespace Go.Proofs.YthffkbbcofbceaaGreatDoor
open Go Go.RowKit Cin
theorem bitlen_ct (n:Nat) (hn:n≤4294967296):Ct Tryz.prog J0 119 [none] [[pV (.int .u64 n)]] [none] (fun _=>[.ro false (pV (.int .i64 (Lib.bitLen n)))]):=by
  intro w0 E _ hJ hA
  obtain ⟨c1,E1,rfl,_,h1,hE⟩:=hA
  obtain rfl:=rV h1
  subst hE
  refine (Tryz.bits_Len (n:Int) w0.w (by omega) (by omega)).mono ?_
  rintro e w1 ⟨rfl,rfl⟩
  rw [Int.toNat_natCast]
  exact tV ⟨rfl,Below.refl _ _⟩ rfl
theorem told0 {w0:W0} {e:Ending} {w:World} (h:TellsA w0 [] (fun _=>[]) e w):e=.returned (.tuple #[]):=by
  obtain ⟨cs,os,γ,S,rfl,_,_,h1,_⟩:=h
  rfl
theorem told0M {w0:W0} {A':(Nat→Nat)→AV} {e:Ending} {w:World} (h:TellsM w0 A' [] (fun _=>[]) e w):e=.returned (.tuple #[]):=by
  obtain ⟨cs,os,γ,S,o,rfl,_⟩:=h
  rfl
theorem argsV {l:Lm} {w:World} {v:Value} {s:Option Nat} {sh:List (Option Nat)} {asx:List (List Pd)} {E:Env} (hs:s=none) (h:ArgsR l w (s::sh) ([pV v]::asx) E):∃ E',E=[v]::E'∧ArgsR l w sh asx E':=by
  subst hs
  obtain ⟨cs,E',rfl,_,⟨c1,c2,rfl,⟨rfl,_⟩,rfl⟩,h2⟩:=h
  exact ⟨E',rfl,h2⟩
theorem pdqS_ct (l p:PolyL) (g cap k:Nat) (lim:Int) (hl:l.Perm p) (hp:Canon p) (hlen:l.length≤12) :
    CtM Tryz.prog JT 118 [none,none,none,none,none] [[pV (.slice (some ⟨g,0,none⟩) l.length cap)],[pV (.int .i64 0)],[pV (.int .i64 l.length)],[pV (.int .i64 lim)],[pV cmpV]] (.blk g ptR cap (rowsQ l k)) [] (fun _=>.blk g ptR cap (rowsQ p k)) (fun _=>[]):=by
  intro w0 E o hJ hA hv ho hX
  obtain ⟨E1,e1,hA1⟩:=argsV rfl hA
  obtain ⟨E2,e2,hA2⟩:=argsV rfl hA1
  obtain ⟨E3,e3,hA3⟩:=argsV rfl hA2
  obtain ⟨E4,e4,hA4⟩:=argsV rfl hA3
  obtain ⟨E5,e5,hA5⟩:=argsV rfl hA4
  obtain rfl:E5=[]:=hA5
  subst e5 e4 e3 e2 e1
  refine pdq_small _ _ l.length lim w0.w hlen (Q:=TellsM w0 _ [] _) ?_ (fun e w' h=>told0M h)
  exact isort_ct l p g cap k hl hp (by omega) w0 [[.slice (some ⟨g,0,none⟩) l.length cap],[.int .i64 0],[.int .i64 l.length],[cmpV]] o hJ ⟨_,_,rfl,rfl,⟨_,[],rfl,⟨rfl,rfl⟩,rfl⟩,_,_,rfl,rfl,⟨_,[],rfl,⟨rfl,rfl⟩,rfl⟩,_,_,rfl,rfl,⟨_,[],rfl,⟨rfl,rfl⟩,rfl⟩,_,_,rfl,rfl,⟨_,[],rfl,⟨rfl,rfl⟩,rfl⟩,rfl⟩ hv ho hX
theorem sortS_ct (l p:PolyL) (g cap k:Nat) (hl:l.Perm p) (hp:Canon p) (hlen:l.length≤12) :
    CtM Tryz.prog JT 74 [none,none] [[pV (.slice (some ⟨g,0,none⟩) l.length cap)],[pV cmpV]] (.blk g ptR cap (rowsQ l k)) [] (fun _=>.blk g ptR cap (rowsQ p k)) (fun _=>[]):=by
  refine aCtM ⟨true,[(1,cmpV)]⟩ (D:=DP) hMix (tr:=(.em (.pr (.call (.mk (.builtin .len) #[.tmp 0] #[45])) 3 [.s (.c 0 0)]) (.em (.pr (.convert 3 171 (.tmp 0)) 171 [.s (.c 2 0)]) (.em (.call 119 [.s (.c 3 0)] [none]) (.em (.call 118 [.s (.c 0 0),.s (.k (.int .i64 0)),.s (.c 2 0),.s (.c 4 0),.s (.k (.func (.func 75) #[] #[]))] []) (.ret (.t []))))))) (by kernel_rfl) (by kernel_rfl) (by kernel_rfl) rfl rfl (fun i v h=>?_) (fun w0 hX=>?_)
  · match i,h with
    | 0,h=>cases h
    | 1,h=>cases h; rfl
    | _+2,h=>cases h
  refine aPr rfl (prLen (e:=65) (by kernel_rfl) rfl) rfl ?_
  refine aPr rfl (cvN uI (by kernel_rfl) rfl (by omega) (by omega)) rfl ?_
  refine aCall rfl (bitlen_ct l.length (by omega)) (fun γ=>?_)
  refine aCallM 0 1 rfl rfl (pdqS_ct l p g cap k _ hl hp hlen) (fun γ=>?_)
  exact aRetM (fun _=>0) 1 hX rfl rfl rfl rfl
theorem isort0_ct (k:Nat):Ct Tryz.prog JT 153 [none,none,none,none] [[pTm [] k],[pV (.int .i64 0)],[pV (.int .i64 0)],[pV cmpV]] [] (fun _=>[]):=by
  refine aCtO ⟨true,[(3,cmpV)]⟩ (D:=DP) hMix (tr:=(.em (.pr (.binOp .add 3 (.tmp 0) (.const (.int .i64 1)) 3) 3 [.s (.c 1 0),.s (.k (.int .i64 1))]) (.loop 0 [.c 4 0] (.em (.pr (.binOp .lss 3 (.tmp 0) (.tmp 1) 3) 4 [.s (.c 5 0),.s (.c 2 0)]) (.cond (.c 6 0) (.loop 1 [.c 5 0] (.em (.pr (.binOp .gtr 3 (.tmp 0) (.tmp 1) 3) 4 [.s (.c 7 0),.s (.c 1 0)]) (.cond (.c 8 0) (.em (.pr (.indexAddr 45 (.tmp 0) (.tmp 1)) 0 [.s (.c 0 0),.s (.c 7 0)]) (.em (.pr (.binOp .sub 3 (.tmp 0) (.const (.int .i64 1)) 3) 3 [.s (.c 7 0),.s (.k (.int .i64 1))]) (.em (.pr (.indexAddr 45 (.tmp 0) (.tmp 1)) 0 [.s (.c 0 0),.s (.c 10 0)]) (.em (.ld (.load 65 (.tmp 0)) 65 [.s (.c 9 0)] (some 7)) (.em (.ld (.load 65 (.tmp 0)) 65 [.s (.c 11 0)] (some 7)) (.em (.call 75 [.g [.c 12 0,.c 12 1,.c 12 2,.c 12 3,.c 12 4,.c 12 5,.c 12 6],.g [.c 13 0,.c 13 1,.c 13 2,.c 13 3,.c 13 4,.c 13 5,.c 13 6]] [none]) (.em (.pr (.binOp .lss 3 (.tmp 0) (.const (.int .i64 0)) 3) 4 [.s (.c 14 0),.s (.k (.int .i64 0))]) (.cond (.c 15 0) (.em (.pr (.binOp .sub 3 (.tmp 0) (.const (.int .i64 1)) 3) 3 [.s (.c 7 0),.s (.k (.int .i64 1))]) (.em (.pr (.binOp .sub 3 (.tmp 0) (.const (.int .i64 1)) 3) 3 [.s (.c 7 0),.s (.k (.int .i64 1))]) (.em (.pr (.indexAddr 45 (.tmp 0) (.tmp 1)) 0 [.s (.c 0 0),.s (.c 17 0)]) (.em (.pr (.indexAddr 45 (.tmp 0) (.tmp 1)) 0 [.s (.c 0 0),.s (.c 7 0)]) (.em (.ld (.load 65 (.tmp 0)) 65 [.s (.c 18 0)] (some 7)) (.em (.ld (.load 65 (.tmp 0)) 65 [.s (.c 19 0)] (some 7)) (.em (.pr (.indexAddr 45 (.tmp 0) (.tmp 1)) 0 [.s (.c 0 0),.s (.c 7 0)]) (.em (.wx (.store 65 (.tmp 0) (.tmp 1)) 0 [.s (.c 22 0),.g [.c 20 0,.c 20 1,.c 20 2,.c 20 3,.c 20 4,.c 20 5,.c 20 6]] none) (.em (.pr (.indexAddr 45 (.tmp 0) (.tmp 1)) 0 [.s (.c 0 0),.s (.c 16 0)]) (.em (.wx (.store 65 (.tmp 0) (.tmp 1)) 0 [.s (.c 24 0),.g [.c 21 0,.c 21 1,.c 21 2,.c 21 3,.c 21 4,.c 21 5,.c 21 6]] none) (.em (.pr (.binOp .sub 3 (.tmp 0) (.const (.int .i64 1)) 3) 3 [.s (.c 7 0),.s (.k (.int .i64 1))]) (.back 1 [.c 26 0])))))))))))) (.em (.pr (.binOp .add 3 (.tmp 0) (.const (.int .i64 1)) 3) 3 [.s (.c 5 0),.s (.k (.int .i64 1))]) (.back 0 [.c 16 0])))))))))) (.em (.pr (.binOp .add 3 (.tmp 0) (.const (.int .i64 1)) 3) 3 [.s (.c 5 0),.s (.k (.int .i64 1))]) (.back 0 [.c 9 0]))))) (.ret (.t []))))))) (by kernel_rfl) (by kernel_rfl) (by kernel_rfl) rfl (fun i v h=>?_) (fun w0=>?_)
  · match i,h with
    | 0,h=>cases h
    | 1,h=>cases h
    | 2,h=>cases h
    | 3,h=>cases h; rfl
    | _+4,h=>cases h
  refine aPr rfl (qAddE (z:=1) rfl rfl (by omega) (by omega) (by omega)) rfl ?_
  refine aLoop (fun _:Unit=>[.ro true (pV (.int .i64 1))]) (fun _=>True) (fun _=>0) () rfl trivial (fun _ _=>?_)
  refine aPr rfl (prLt rfl rfl) rfl ?_
  refine aFalse rfl ?_
  exact aRet (fun _=>0) rfl rfl rfl
theorem pdq0_ct (k:Nat) (lim:Int):Ct Tryz.prog JT 118 [none,none,none,none,none] [[pTm [] k],[pV (.int .i64 0)],[pV (.int .i64 0)],[pV (.int .i64 lim)],[pV cmpV]] [] (fun _=>[]):=by
  intro w0 E hX hJ hA
  obtain ⟨cs,E1,e1,hl1,hR,hA1⟩:=hA
  obtain ⟨E2,e2,hA2⟩:=argsV rfl hA1
  obtain ⟨E3,e3,hA3⟩:=argsV rfl hA2
  obtain ⟨E4,e4,hA4⟩:=argsV rfl hA3
  obtain ⟨E5,e5,hA5⟩:=argsV rfl hA4
  obtain rfl:E5=[]:=hA5
  subst e5 e4 e3 e2 e1
  have hh:=isort0_ct k w0 [cs,[.int .i64 0],[.int .i64 0],[cmpV]] hX hJ ⟨cs,_,rfl,hl1,hR,_,_,rfl,rfl,⟨_,[],rfl,⟨rfl,rfl⟩,rfl⟩,_,_,rfl,rfl,⟨_,[],rfl,⟨rfl,rfl⟩,rfl⟩,_,_,rfl,rfl,⟨_,[],rfl,⟨rfl,rfl⟩,rfl⟩,rfl⟩
  exact pdq_small _ _ 0 lim w0.w (by omega) (Q:=TellsA w0 [] _) hh (fun e w' h=>told0 h)
theorem sort0_ct (k:Nat):Ct Tryz.prog JT 74 [none,none] [[pTm [] k],[pV cmpV]] [] (fun _=>[]):=by
  refine aCtO ⟨true,[(1,cmpV)]⟩ (D:=DP) hMix (tr:=(.em (.pr (.call (.mk (.builtin .len) #[.tmp 0] #[45])) 3 [.s (.c 0 0)]) (.em (.pr (.convert 3 171 (.tmp 0)) 171 [.s (.c 2 0)]) (.em (.call 119 [.s (.c 3 0)] [none]) (.em (.call 118 [.s (.c 0 0),.s (.k (.int .i64 0)),.s (.c 2 0),.s (.c 4 0),.s (.k (.func (.func 75) #[] #[]))] []) (.ret (.t []))))))) (by kernel_rfl) (by kernel_rfl) (by kernel_rfl) rfl (fun i v h=>?_) (fun w0=>?_)
  · match i,h with
    | 0,h=>cases h
    | 1,h=>cases h; rfl
    | _+2,h=>cases h
  refine aLen rfl (rowsQ_len [] k) ?_
  refine aPr rfl (cvN (x:=((0:Nat):Int)) uI (by kernel_rfl) rfl (by omega) (by omega)) rfl ?_
  refine aCall rfl (bitlen_ct 0 (by omega)) (fun γ=>?_)
  refine aCall rfl (pdq0_ct k _) (fun γ=>?_)
  exact aRet (fun _=>0) rfl rfl rfl
abbrev ZeroPt:List Value:=[.int .u8 0,.int .u8 0,.int .u8 0,.bool false,.slice none 0 0,.bool false,.slice none 0 0]
theorem rowsQ_snoc (d:PolyL) (x:M × Rat) (k:Nat):rowsQ d k++[mV x.1++[pQ x.2 k]]=rowsQ (d++[x]) k:=by simp [rowsQ]
theorem termsS_ct (p:PolyL) (k:Nat) (hp:Canon p) (hlen:p.length≤12) (hk:k≤100000:=by omega):Ct Tryz.prog JT 26 [some 1] [[pP p k]] [none] (fun γ=>[.own (γ 0) ptR (rowsQ p k)]):=by
  refine aCtX ⟨true,[]⟩ (D:=DP) hMix (tr:=(.em (.wx (.range 29 (.tmp 0)) 0 [.s (.c 0 0)] (some none)) (.loop 0 [.k (.slice none 0 0)] (.em (.nx (.next (.tmp 0) false) 0 [.s (.c 1 0)] [some 3,some 4]) (.cond (.c 3 0) (.em (.lt (.entry (.tmp 0)) 0 [.s (.c 1 0)] [some 3,some 4]) (.em (.call 73 [.g [.c 4 3,.c 4 4,.c 4 5,.c 4 6]] [some 4]) (.em (.wx (.buildSlice 45 1 #[(0,.tmp 0)]) 45 [.g [.c 4 0,.c 4 1,.c 4 2,.c 5 0,.c 5 1,.c 5 2,.c 5 3]] (some none)) (.em (.wx (.call (.mk (.builtin .append) #[.tmp 0,.tmp 1] #[45,45])) 45 [.s (.c 2 0),.s (.c 6 0)] (some none)) (.back 0 [.c 7 0]))))) (.em (.call 74 [.s (.c 2 0),.s (.k (.func (.func 75) #[] #[]))] []) (.ret (.v (.s (.c 2 0)))))))))) (by kernel_rfl) (by kernel_rfl) (by kernel_rfl) rfl (fun _ _ h=>by cases h) (fun w0 h0=>?_)
  refine aOpen 0 0 rfl rfl (fun p0 hp0=>?_)
  refine aRange (m:=cM) (en:=entsP p0 k) (kt:=25) (e:=56) (i:=0) (j:=0) rfl (fun gi=>?_)
  refine aLoopC [(1,1,fun s:Nat × Rg=>.iter gi cM s.2.2.2 (entsP s.2.2.1 k))] (fun s:Nat × Rg=>[.own s.1 ptR (rowsQ s.2.1 k)]) (fun s=>(s.2.1++s.2.2.1).Perm p0) (fun s=>s.2.2.1.length) (0,[],p0,none) (List.Perm.refl _) (fun ⟨g,done,left,cur⟩ hs=>?_) (hc:=ConvS.own ConvS.nil)
  have hlp:done.length+left.length≤12:=by
    have h5:=(hs.trans hp0).length_eq
    rw [List.length_append] at h5
    have h5:done.length+left.length=p.length:=h5
    omega
  refine aNext (m:=cM) (kt:=25) 1 1 rfl rfl cK rfl (fun c l1 l2 hc _=>?_) (fun hc=>?_)
  · obtain ⟨L1,x,L2,rfl,rfl,rfl,rfl⟩:=entsP_split hc
    rw [entsP_app]
    refine aTrue rfl ?_
    refine aEntry (m:=cM) (kt:=25) 1 1 rfl rfl cK ?_
    refine aCall rfl (fresh_ct x.2 k) (fun γ=>?_)
    refine aBuild ptR rfl (fun g6=>?_)
    refine aAppend [] rfl rfl (zs:=ZeroPt) (by rw [rowsQ_len]; simp at hlp ⊢; omega) (fun g7=>?_)
    exact aBack rfl rfl ⟨(g7,done++[x],L1++L2,some (mVal x.1,[pQ x.2 k])),rfl,congrArg (fun r=>[AV.own g7 ptR r]) (rowsQ_snoc done x k),perm_step hs,by simp⟩
  · obtain rfl:=entsP_nil hc
    rw [List.append_nil] at hs
    have hs:=hs.trans hp0
    refine aFalse rfl ?_
    by_cases hn:done=[]
    · subst hn
      have e:p=[]:=hs.symm.eq_nil
      subst e
      refine aCall (asx:=[[pTm [] k],[pV cmpV]]) rfl (sort0_ct k) (fun γ=>?_)
      exact aRet (fun _=>g) rfl rfl rfl
    · refine aSplit 2 0 rfl (by cases done with | nil=>exact absurd rfl hn | cons _ _=>exact List.cons_ne_nil _ _) (by simp) (fun cap hc1 hc2=>?_)
      rw [rowsQ_len]
      refine aCallM 2 1 rfl rfl (sortS_ct done p g cap k hs hp (by simp at hlp; omega)) (fun γ=>?_)
      rw [hs.length_eq]
      refine aJoin 2 0 2 1 rfl (by rw [rowsQ_len]; rfl) ?_
      exact aRet (fun _=>g) rfl rfl rfl
theorem qtext_ct (x:Rat) (k:Nat) (hk:k≤200000:=by omega):Ct Tryz.prog JP 89 [some 4] [[pQ x k]] [none] (fun _=>[.ro false (pV (.string (ratS x)))]):=by
  intro w0 E _ hJ hA
  obtain ⟨c1,E1,rfl,_,h1,hE⟩:=hA
  obtain ⟨a1,b1,c1,d1,rfl,q1⟩:=rQ h1
  subst hE
  exact (qtext_any _ x k w0.w ⟨_,_,_,_,rfl,q1⟩ hk hJ).mono fun e w1 h=>tV h rfl
theorem plainS_ct (p:PolyL) (k:Nat) (hp:Canon p) (hlen:p.length≤12) (hk:k≤100000:=by omega):Ct Tryz.prog JP 57 [some 1] [[pP p k]] [none] (fun γ=>[.own (γ 0) tR (rowsS (plainP p))]):=by
  refine aCtO ⟨true,[]⟩ (D:=DP) hMix (tr:=(.em (.call 26 [.g [.c 0 0]] [none]) (.em (.pr (.call (.mk (.builtin .len) #[.tmp 0] #[45])) 3 [.s (.c 1 0)]) (.loop 0 [.k (.slice none 0 0),.k (.int .i64 0)] (.em (.pr (.binOp .lss 3 (.tmp 0) (.tmp 1) 3) 0 [.s (.c 3 1),.s (.c 2 0)]) (.cond (.c 4 0) (.em (.pr (.indexAddr 45 (.tmp 0) (.tmp 1)) 0 [.s (.c 1 0),.s (.c 3 1)]) (.em (.ld (.load 65 (.tmp 0)) 65 [.s (.c 5 0)] (some 7)) (.em (.call 89 [.g [.c 6 3,.c 6 4,.c 6 5,.c 6 6]] [none]) (.em (.wx (.buildSlice 22 1 #[(0,.tmp 0)]) 22 [.g [.c 6 0,.c 6 1,.c 6 2,.c 7 0]] (some none)) (.em (.wx (.call (.mk (.builtin .append) #[.tmp 0,.tmp 1] #[22,22])) 22 [.s (.c 3 0),.s (.c 8 0)] (some none)) (.em (.pr (.binOp .add 3 (.tmp 0) (.const (.int .i64 1)) 3) 3 [.s (.c 3 1),.s (.k (.int .i64 1))]) (.back 0 [.c 9 0,.c 10 0]))))))) (.ret (.v (.s (.c 3 0)))))))))) (by kernel_rfl) (by kernel_rfl) (by kernel_rfl) rfl (fun _ _ h=>by cases h) (fun w0=>?_)
  refine aCall rfl (termsS_ct p k hp hlen) (fun γ=>?_)
  refine aLen rfl (rowsQ_len p k) ?_
  refine aLoopC [] (fun s:Nat × Nat=>[.own s.2 tR (rowsS (plainP (p.take s.1))),.ro true (pV (.int .i64 (s.1:Nat)))]) (fun s=>s.1≤p.length) (fun s=>p.length - s.1) (0,0) (Nat.zero_le _) (fun s hi=>?_) (hc:=ConvS.own (ConvS.same ConvS.nil))
  obtain ⟨i,g⟩:=s
  simp only [] at hi
  refine aPr rfl (prLt rfl rfl) rfl ?_
  refine aIf rfl (fun h1=>?_) (fun h1=>?_)
  · have hlt:i < p.length:=by simpa using h1
    obtain ⟨x,hx⟩:∃ x,p[i]?=some x:=⟨_,List.getElem?_eq_getElem hlt⟩
    have hpl:(rowsS (plainP (p.take i))).length≤i:=by rw [rowsS_len,plainP,List.length_map,List.length_take]; omega
    refine aIdxB rfl rfl (fun _=>rfl) (by omega) (rowQ_at hx) ?_
    refine aLd rfl rfl rfl ?_
    refine aCall rfl (qtext_ct x.2 k) (fun γ=>?_)
    refine aBuild tR rfl (fun g11=>?_)
    refine aAppend [] rfl rfl (zs:=ZeroTt) (by simp only [List.length_cons,List.length_nil]; omega) (fun g12=>?_)
    refine aPr rfl (qAddE (z:=(i+1:Nat)) rfl rfl (by omega) (by omega) (by omega)) rfl ?_
    exact aBack rfl rfl ⟨(i+1,g12),rfl,by rw [plainP_step hx]; rfl,hlt,by show p.length - (i+1) < p.length - i; omega⟩
  · have hil:i=p.length:=by have:¬ i < p.length:=(by simpa using h1); omega
    subst hil
    exact aRet (fun _=>g) rfl rfl (by rw [List.take_length]; rfl)
end Go.Proofs.YthffkbbcofbceaaGreatDoor
