/- Contracts of the program's polynomials: derivatives (written by mk_pj.py). -/
import Derived.Test.YthffkbbcofbceaaGreatDoorYzc
import Derived.Test.YthffkbbcofbceaaGreatDoorYw
namespace Go.Proofs.YthffkbbcofbceaaGreatDoor
open Go Go.RowKit Cin
theorem dterms_app (i:Int) (a b:PolyL):dterms i (a++b)=dterms i a++dterms i b:=by unfold dterms; rw [List.flatMap_append]
theorem dterms_one (i:Int) (x:M × Rat):dterms i [x]=dterm i x:=by simp [dterms]
theorem mem_dterms {i:Int} {p:PolyL} {z:M × Rat} (h:z∈dterms i p):∃ x∈p,0 < exV i x.1∧z=(decM i x.1,x.2 * ((exV i x.1:Int):Rat)):=by
  obtain ⟨x,hx,hz⟩:=List.mem_flatMap.1 h
  unfold dterm at hz
  split at hz
  · rename_i h0; exact ⟨x,hx,h0,List.mem_singleton.1 hz⟩
  · cases hz
theorem decM_inj {i:Int} {a b:M} (ha:0 < exV i a) (hb:0 < exV i b) (h:decM i a=decM i b):a=b:=by
  obtain ⟨a0,a1,a2⟩:=a
  obtain ⟨b0,b1,b2⟩:=b
  unfold exV at ha hb
  unfold decM at h
  split at h <;> rename_i h0
  · rw [if_pos h0] at ha hb
    simp only [Prod.mk.injEq] at h ha hb ⊢
    omega
  · rw [if_neg h0] at ha hb
    split at h <;> rename_i h1
    · rw [if_pos h1] at ha hb
      simp only [Prod.mk.injEq] at h ha hb ⊢
      omega
    · rw [if_neg h1] at ha hb
      simp only [Prod.mk.injEq] at h ha hb ⊢
      omega
theorem dterms_new {i:Int} {p:PolyL} {x:M × Rat} (hn:((p++[x]).map (·.1)).Nodup) (hx:0 < exV i x.1):∀ y∈dterms i p,y.1≠decM i x.1:=fun y hy e=>by
  obtain ⟨z,hz,h0,rfl⟩:=mem_dterms hy
  have:=decM_inj h0 hx e
  rw [List.map_append] at hn
  exact (List.nodup_append.1 hn).2.2 z.1 (List.mem_map.2 ⟨z,hz,rfl⟩) x.1 (by simp) this
theorem dterms_keys {i:Int}:∀ {p:PolyL},(p.map (·.1)).Nodup→((dterms i p).map (·.1)).Nodup
  | [],_=>List.nodup_nil
  | x::p,h=>by
    have hn:=List.nodup_cons.1 (show ((x.1:M)::p.map (·.1)).Nodup from h)
    show ((dterm i x++dterms i p).map (·.1)).Nodup
    unfold dterm
    split
    · rename_i h0
      refine List.nodup_cons.2 ⟨fun hm=>?_,dterms_keys hn.2⟩
      obtain ⟨y,hy,e⟩:=List.mem_map.1 hm
      obtain ⟨z,hz,h1,rfl⟩:=mem_dterms hy
      have:=decM_inj h1 h0 e
      exact hn.1 (List.mem_map.2 ⟨z,hz,this⟩)
    · exact dterms_keys hn.2
theorem dterms_good {i:Int} {p:PolyL} (h:GoodP p):GoodP (dterms i p):=⟨dterms_keys h.nd,fun z hz=>by
  obtain ⟨x,hx,h0,rfl⟩:=mem_dterms hz
  have h1:((exV i x.1:Int):Rat)≠0:=by
    intro e
    have:((exV i x.1:Nat):Int)=0:=Rat.intCast_inj.1 e
    omega
  exact rat_mul_ne (h.nz x hx) h1,dterms_ok h.ok⟩
theorem dterms_perm {i:Int} {q p:PolyL} (h:q.Perm p) (hp:Canon p):(dterms i q).Perm (addP [] (dterms i p)):=
  good_perm (dterms_good (GoodP.perm h hp.good)) (Canon.of (dterms_ok hp.ok)).good fun m=>by unfold Cin.coP; rw [evP_of,evP_diff,evP_diff,evP_perm _ h]
theorem qofE_ct (e:Nat) (he:e≤255):Ct Tryz.prog JT 58 [none] [[pV (.int .i64 (e:Nat))]] [some 4] (fun _=>[.ro false (pQ (((e:Nat):Int):Rat) 2)]):=by
  intro w0 E _ hJ hA
  obtain ⟨c1,E1,rfl,_,h1,hE⟩:=hA
  obtain rfl:=rV h1
  subst hE
  exact (qof_any (e:Nat) w0.w (by omega) (by omega)).mono fun e w1 h=>tQ h
theorem Sz.diff {d L:Nat} {p:PolyL} (i:Int) (h:Sz d L p):Sz (d+1) L (addP [] (dterms i p)):=by
  obtain ⟨D,N,h,hD,hN⟩:=h
  have h2:=(PB.nil (D:=D) (N:=0) (L:=0) h.pos).add (h.diff i)
  have:=pw_le (show d≤d+1 by omega)
  refine ⟨D,N * 255,h2.mono (by omega) (by omega),by omega,?_⟩
  rw [pw_succ,Nat.mul_comm]
  exact Nat.mul_le_mul (by omega) hN
theorem Sz.dfit {d L k:Nat} {p:PolyL} (i:Int) (h:Sz d L p) (hk:d+1 < k):FitP (fitQ k) (dterms i p):=by
  obtain ⟨D,N,h,hD,hN⟩:=h
  have h1:=pw_lt hk
  have h2:=pw_le (show d≤d+1 by omega)
  refine (h.diff i).wt.fit h.pos (by omega) (Nat.lt_of_le_of_lt ?_ h1)
  rw [pw_succ,Nat.mul_comm]
  exact Nat.mul_le_mul (by omega) hN
theorem diff_ct {d L:Nat} (p:PolyL) (i:Int) (k j:Nat) (hi:0≤i∧i < 3) (hp:Canon p) (hs:Sz d L p) (hj:d+1 < j) (hk:k≤50000:=by omega):Ct Tryz.prog JT 45 [some 1,none] [[pP p k],[pV (.int .i64 i)]] [some 1] (fun _=>[.ro false (pP (addP [] (dterms i p)) j)]):=by
  have hm:=hs.dfit i hj
  refine aCtX ⟨true,[]⟩ (D:=DP) hMix (tr:=(.em (.pr (.binOp .lss 3 (.tmp 0) (.const (.int .i64 0)) 3) 4 [.s (.c 1 0),.s (.k (.int .i64 0))]) (.cond (.c 2 0) (.ret (.v (.g [.k (.map none)]))) (.em (.pr (.binOp .geq 3 (.tmp 0) (.const (.int .i64 3)) 3) 4 [.s (.c 1 0),.s (.k (.int .i64 3))]) (.cond (.c 3 0) (.ret (.v (.g [.k (.map none)]))) (.em (.wx (.makeMap 29 none) 29 [] (some none)) (.em (.wx (.range 29 (.tmp 0)) 0 [.s (.c 0 0)] (some none)) (.loop 0 [] (.em (.nx (.next (.tmp 0) false) 0 [.s (.c 5 0)] [some 3,some 4]) (.cond (.c 7 0) (.em (.lt (.entry (.tmp 0)) 0 [.s (.c 5 0)] [some 3,some 4]) (.ifeq (.c 1 0) (.int .i64 0) (.em (.pr (.binOp .gtr 5 (.tmp 0) (.const (.int .u8 0)) 5) 4 [.s (.c 8 0),.s (.k (.int .u8 0))]) (.cond (.c 9 0) (.em (.pr (.binOp .sub 5 (.tmp 0) (.const (.int .u8 1)) 5) 5 [.s (.c 8 0),.s (.k (.int .u8 1))]) (.em (.pr (.convert 5 2 (.tmp 0)) 2 [.s (.c 8 0)]) (.em (.call 58 [.s (.c 11 0)] [some 4]) (.em (.call 55 [.g [.c 8 3,.c 8 4,.c 8 5,.c 8 6],.g [.c 12 0,.c 12 1,.c 12 2,.c 12 3]] [some 4]) (.em (.wx (.mapUpdate 29 (.tmp 0) (.tmp 1) (.tmp 2)) 0 [.s (.c 4 0),.g [.c 10 0,.c 8 1,.c 8 2],.g [.c 13 0,.c 13 1,.c 13 2,.c 13 3]] none) (.back 0 [])))))) (.back 0 []))) (.ifeq (.c 1 0) (.int .i64 1) (.em (.pr (.binOp .gtr 5 (.tmp 0) (.const (.int .u8 0)) 5) 4 [.s (.c 8 1),.s (.k (.int .u8 0))]) (.cond (.c 9 0) (.em (.pr (.binOp .sub 5 (.tmp 0) (.const (.int .u8 1)) 5) 5 [.s (.c 8 1),.s (.k (.int .u8 1))]) (.em (.pr (.convert 5 2 (.tmp 0)) 2 [.s (.c 8 1)]) (.em (.call 58 [.s (.c 11 0)] [some 4]) (.em (.call 55 [.g [.c 8 3,.c 8 4,.c 8 5,.c 8 6],.g [.c 12 0,.c 12 1,.c 12 2,.c 12 3]] [some 4]) (.em (.wx (.mapUpdate 29 (.tmp 0) (.tmp 1) (.tmp 2)) 0 [.s (.c 4 0),.g [.c 8 0,.c 10 0,.c 8 2],.g [.c 13 0,.c 13 1,.c 13 2,.c 13 3]] none) (.back 0 [])))))) (.back 0 []))) (.ifeq (.c 1 0) (.int .i64 2) (.em (.pr (.binOp .gtr 5 (.tmp 0) (.const (.int .u8 0)) 5) 4 [.s (.c 8 2),.s (.k (.int .u8 0))]) (.cond (.c 9 0) (.em (.pr (.binOp .sub 5 (.tmp 0) (.const (.int .u8 1)) 5) 5 [.s (.c 8 2),.s (.k (.int .u8 1))]) (.em (.pr (.convert 5 2 (.tmp 0)) 2 [.s (.c 8 2)]) (.em (.call 58 [.s (.c 11 0)] [some 4]) (.em (.call 55 [.g [.c 8 3,.c 8 4,.c 8 5,.c 8 6],.g [.c 12 0,.c 12 1,.c 12 2,.c 12 3]] [some 4]) (.em (.wx (.mapUpdate 29 (.tmp 0) (.tmp 1) (.tmp 2)) 0 [.s (.c 4 0),.g [.c 8 0,.c 8 1,.c 10 0],.g [.c 13 0,.c 13 1,.c 13 2,.c 13 3]] none) (.back 0 [])))))) (.back 0 []))) .nope)))) (.em (.call 62 [.s (.c 4 0)] [some 1]) (.ret (.v (.g [.c 8 0])))))))))))))) (by kernel_rfl) (by kernel_rfl) (by kernel_rfl) rfl (fun _ _ h=>by cases h) (fun w0 h0=>?_)
  refine aPr rfl (prLt rfl rfl) rfl ?_
  refine aFalse (by show some (Value.bool (decide _))=_; rw [decide_eq_false (by omega)]) ?_
  refine aPr rfl (prGe rfl rfl) rfl ?_
  refine aFalse (by show some (Value.bool (decide _))=_; rw [decide_eq_false (by omega)]) ?_
  refine aMakeMap cM (k':=25) (e:=56) (fun g=>?_)
  refine aOpen 0 0 rfl rfl (fun p0 hp0=>?_)
  refine aRange (m:=cM) (en:=entsP p0 k) (kt:=25) (e:=56) (i:=0) (j:=0) rfl (fun gi=>?_)
  refine aLoopU [(4,1,fun s:Rg=>.map g cM (entsP (dterms i s.1) j)),(5,1,fun s:Rg=>.iter gi cM s.2.2 (entsP s.2.1 k))] (fun _=>[]) (fun s=>(s.1++s.2.1).Perm p0) (fun s=>s.2.1.length) ([],p0,none) (List.Perm.refl _) (fun ⟨s,left,cur⟩ hd=>?_)
  have hgd:GoodP (s++left):=GoodP.perm hd (GoodP.perm hp0 hp.good)
  refine aNext (m:=cM) (kt:=25) 5 1 rfl rfl cK rfl (fun c l1 l2 hc _=>?_) (fun hc=>?_)
  · obtain ⟨L1,x,L2,rfl,rfl,rfl,rfl⟩:=entsP_split hc
    rw [entsP_app]
    have hst:=perm_step hd
    have hgs:GoodP (s++[x]++(L1++L2)):=GoodP.perm hst (GoodP.perm hp0 hp.good)
    have hnx:((s++[x]).map (·.1)).Nodup:=by
      have:=hgs.nd
      rw [List.map_append] at this
      exact (List.nodup_append.1 this).1
    have hns:(s.map (·.1)).Nodup:=by
      rw [List.map_append] at hnx
      exact (List.nodup_append.1 hnx).1
    have hxp:x∈p:=hp0.mem_iff.1 (hd.mem_iff.1 (by simp))
    have hxo:=hp.ok x hxp
    have hxo':=hxo
    obtain ⟨o0,o1,o2⟩:=hxo'
    have hdone:∀ (e:Nat),exV i x.1=e→¬ 0 < e→dterms i (s++[x])=dterms i s:=fun e he h=>by
      rw [dterms_app,dterms_one,dterm,if_neg (by omega),List.append_nil]
    have hmore:∀ (e:Nat),exV i x.1=e→0 < e→dterms i (s++[x])=dterms i s++[(decM i x.1,x.2 * (((e:Nat):Int):Rat))]:=fun e he h=>by
      subst he
      rw [dterms_app,dterms_one,dterm,if_pos h]
    have hfit:∀ (e:Nat),exV i x.1=e→0 < e→fitQ j (x.2 * (((e:Nat):Int):Rat)):=fun e he h=>by
      subst he
      exact hm (decM i x.1,_) (List.mem_flatMap.2 ⟨x,hxp,by rw [dterm,if_pos h]; exact List.mem_singleton.2 rfl⟩)
    refine aTrue rfl ?_
    refine aEntry (m:=cM) (kt:=25) 5 1 rfl rfl cK ?_
    refine aEq rfl (fun h4=>?_) (fun h0'=>?_)
    · cases h4
      have he:exV 0 x.1=x.1.1:=by simp [exV]
      refine aPr rfl (prGt rfl rfl) rfl ?_
      refine aIf rfl (fun h5=>?_) (fun h5=>?_)
      · have hpos:0 < x.1.1:=by simpa using h5
        refine aPr rfl (uSub (z:=(x.1.1 - 1:Nat)) rfl rfl (by omega) (by omega) (by omega)) rfl ?_
        refine aPr rfl (cvU uU (by kernel_rfl) rfl (by omega) (by omega)) rfl ?_
        refine aCall rfl (qofE_ct x.1.1 (by omega)) (fun γ=>?_)
        refine aCall rfl (qmul_ct x.2 (((x.1.1:Nat):Int):Rat) k 2) (fun γ=>?_)
        refine aConv 13 [.ro false (pQ (x.2 * (((x.1.1:Nat):Int):Rat)) j)] rfl (ConvS.qfit (hfit _ he hpos) ConvS.nil) ?_
        refine aPut (m:=cM) (kv:=mVal (decM 0 x.1)) (e:=56) 4 1 rfl rfl rfl ⟨_,decM_ok hxo,rfl⟩ cK rfl (fun en' hdd _=>?_)
        obtain rfl:=(entsP_put hdd (dterms_keys hns)).1 (dterms_new hnx (by rw [he]; exact hpos))
        exact aBack rfl rfl ⟨(s++[x],L1++L2,some (mVal x.1,[pQ x.2 k])),by rw [hmore _ he hpos]; rfl,rfl,hst,by simp⟩
      · have hz:¬ 0 < x.1.1:=by simpa using h5
        exact aBack rfl rfl ⟨(s++[x],L1++L2,some (mVal x.1,[pQ x.2 k])),by rw [hdone _ he hz]; rfl,rfl,hst,by simp⟩
    refine aEq rfl (fun h4=>?_) (fun h1'=>?_)
    · cases h4
      have he:exV 1 x.1=x.1.2.1:=by simp [exV]
      refine aPr rfl (prGt rfl rfl) rfl ?_
      refine aIf rfl (fun h5=>?_) (fun h5=>?_)
      · have hpos:0 < x.1.2.1:=by simpa using h5
        refine aPr rfl (uSub (z:=(x.1.2.1 - 1:Nat)) rfl rfl (by omega) (by omega) (by omega)) rfl ?_
        refine aPr rfl (cvU uU (by kernel_rfl) rfl (by omega) (by omega)) rfl ?_
        refine aCall rfl (qofE_ct x.1.2.1 (by omega)) (fun γ=>?_)
        refine aCall rfl (qmul_ct x.2 (((x.1.2.1:Nat):Int):Rat) k 2) (fun γ=>?_)
        refine aConv 13 [.ro false (pQ (x.2 * (((x.1.2.1:Nat):Int):Rat)) j)] rfl (ConvS.qfit (hfit _ he hpos) ConvS.nil) ?_
        refine aPut (m:=cM) (kv:=mVal (decM 1 x.1)) (e:=56) 4 1 rfl rfl rfl ⟨_,decM_ok hxo,rfl⟩ cK rfl (fun en' hdd _=>?_)
        obtain rfl:=(entsP_put hdd (dterms_keys hns)).1 (dterms_new hnx (by rw [he]; exact hpos))
        exact aBack rfl rfl ⟨(s++[x],L1++L2,some (mVal x.1,[pQ x.2 k])),by rw [hmore _ he hpos]; rfl,rfl,hst,by simp⟩
      · have hz:¬ 0 < x.1.2.1:=by simpa using h5
        exact aBack rfl rfl ⟨(s++[x],L1++L2,some (mVal x.1,[pQ x.2 k])),by rw [hdone _ he hz]; rfl,rfl,hst,by simp⟩
    refine aEq rfl (fun h4=>?_) (fun h2'=>?_)
    · cases h4
      have he:exV 2 x.1=x.1.2.2:=by simp [exV]
      refine aPr rfl (prGt rfl rfl) rfl ?_
      refine aIf rfl (fun h5=>?_) (fun h5=>?_)
      · have hpos:0 < x.1.2.2:=by simpa using h5
        refine aPr rfl (uSub (z:=(x.1.2.2 - 1:Nat)) rfl rfl (by omega) (by omega) (by omega)) rfl ?_
        refine aPr rfl (cvU uU (by kernel_rfl) rfl (by omega) (by omega)) rfl ?_
        refine aCall rfl (qofE_ct x.1.2.2 (by omega)) (fun γ=>?_)
        refine aCall rfl (qmul_ct x.2 (((x.1.2.2:Nat):Int):Rat) k 2) (fun γ=>?_)
        refine aConv 13 [.ro false (pQ (x.2 * (((x.1.2.2:Nat):Int):Rat)) j)] rfl (ConvS.qfit (hfit _ he hpos) ConvS.nil) ?_
        refine aPut (m:=cM) (kv:=mVal (decM 2 x.1)) (e:=56) 4 1 rfl rfl rfl ⟨_,decM_ok hxo,rfl⟩ cK rfl (fun en' hdd _=>?_)
        obtain rfl:=(entsP_put hdd (dterms_keys hns)).1 (dterms_new hnx (by rw [he]; exact hpos))
        exact aBack rfl rfl ⟨(s++[x],L1++L2,some (mVal x.1,[pQ x.2 k])),by rw [hmore _ he hpos]; rfl,rfl,hst,by simp⟩
      · have hz:¬ 0 < x.1.2.2:=by simpa using h5
        exact aBack rfl rfl ⟨(s++[x],L1++L2,some (mVal x.1,[pQ x.2 k])),by rw [hdone _ he hz]; rfl,rfl,hst,by simp⟩
    exact absurd (show Value.int .i64 i=Value.int .i64 0∨Value.int .i64 i=Value.int .i64 1∨Value.int .i64 i=Value.int .i64 2 from by
      rcases (show i=0∨i=1∨i=2 by omega) with rfl | rfl | rfl <;> simp) (by
      rintro (e | e | e)
      · exact h0' e
      · exact h1' e
      · exact h2' e)
  · obtain rfl:=entsP_nil hc
    rw [List.append_nil] at hd
    refine aFalse rfl ?_
    refine aFreeze 4 0 4 1 rfl rfl h0 ?_
    refine aCall rfl (ctake_ct (dterms i s) (addP [] (dterms i p)) j (dterms_perm (hd.trans hp0) hp)) (fun γ=>?_)
    exact aRet (fun _=>0) rfl rfl rfl
end Go.Proofs.YthffkbbcofbceaaGreatDoor

namespace Go.Proofs.YthffkbbcofbceaaGreatDoor
open Go Go.RowKit Cin
theorem within8_ct (x lo hi:Int) (h:lo≤hi) (hl:-1000≤lo) (hh:hi≤1000):Ct Tryz.prog J0 56 [none,none,none] [[pV (.int .i64 x)],[pV (.int .i64 lo)],[pV (.int .i64 hi)]] [none] (fun _=>[.ro false (pV (.int .i64 (wI x lo hi)))]):=by
  have h1:=Int.tmod_lt_of_pos x (b:=hi - lo+1) (by omega)
  have h2:=Int.lt_tmod_of_pos x (b:=hi - lo+1) (by omega)
  refine aCtO ⟨true,[]⟩ (D:=DM) mMix (tr:=(.em (.pr (.binOp .sub 3 (.tmp 0) (.tmp 1) 3) 3 [.s (.c 2 0),.s (.c 1 0)]) (.em (.pr (.binOp .add 3 (.tmp 0) (.const (.int .i64 1)) 3) 3 [.s (.c 3 0),.s (.k (.int .i64 1))]) (.em (.pr (.binOp .rem 3 (.tmp 0) (.tmp 1) 3) 3 [.s (.c 0 0),.s (.c 4 0)]) (.em (.pr (.binOp .lss 3 (.tmp 0) (.const (.int .i64 0)) 3) 4 [.s (.c 5 0),.s (.k (.int .i64 0))]) (.cond (.c 6 0) (.em (.pr (.binOp .sub 3 (.tmp 0) (.tmp 1) 3) 3 [.s (.c 2 0),.s (.c 1 0)]) (.em (.pr (.binOp .add 3 (.tmp 0) (.const (.int .i64 1)) 3) 3 [.s (.c 7 0),.s (.k (.int .i64 1))]) (.em (.pr (.binOp .add 3 (.tmp 0) (.tmp 1) 3) 3 [.s (.c 5 0),.s (.c 8 0)]) (.em (.pr (.binOp .add 3 (.tmp 0) (.tmp 1) 3) 3 [.s (.c 1 0),.s (.c 9 0)]) (.ret (.v (.s (.c 10 0)))))))) (.em (.pr (.binOp .add 3 (.tmp 0) (.tmp 1) 3) 3 [.s (.c 1 0),.s (.c 5 0)]) (.ret (.v (.s (.c 7 0))))))))))) (by kernel_rfl) (by kernel_rfl) (by kernel_rfl) rfl (fun _ _ h=>by cases h) (fun w0=>?_)
  refine aPr rfl (qSub rfl rfl (by omega) (by omega)) rfl ?_
  refine aPr rfl (qAdd rfl rfl (by omega) (by omega)) rfl ?_
  refine aPr rfl (qRem rfl rfl (by omega)) rfl ?_
  refine aPr rfl (prLt rfl rfl) rfl ?_
  refine aIf rfl (fun e=>?_) (fun e=>?_)
  · refine aPr rfl (qSub rfl rfl (by omega) (by omega)) rfl ?_
    refine aPr rfl (qAdd rfl rfl (by omega) (by omega)) rfl ?_
    refine aPr rfl (qAdd rfl rfl (by omega) (by omega)) rfl ?_
    refine aPr rfl (qAdd rfl rfl (by omega) (by omega)) rfl ?_
    exact aRet (fun _=>0) rfl rfl (by simp at e; simp [AV.new,wI,e])
  · refine aPr rfl (qAdd rfl rfl (by omega) (by omega)) rfl ?_
    exact aRet (fun _=>0) rfl rfl (by simp at e; simp [AV.new,wI,Int.not_lt.2 e])
theorem wI_rng (x:Int):0≤wI x 0 2∧wI x 0 2 < 3:=by
  have h1:=Int.tmod_lt_of_pos x (b:=3) (by omega)
  have h2:=Int.lt_tmod_of_pos x (b:=3) (by omega)
  unfold wI
  simp only [show (2:Int) - 0+1=3 by omega]
  split <;> omega
theorem leibniz_ct (a b:TermL) (i k:Int) (ha:FitsT a) (hb:FitsT b):Ct Tryz.prog JP 12 [none,none,none,none] [[pTerms a],[pTerms b],[pV (.int .i64 i)],[pV (.int .i64 k)]] [none] (fun _=>[.ro false (pV (.bool true))]):=by
  have cA:Canon (of8P a 20):=ofP_canon ha
  have cB:Canon (of8P b 20):=ofP_canon hb
  have sA:Sz 57 14 (of8P a 20):=ofP_sz ha
  have sB:Sz 57 14 (of8P b 20):=ofP_sz hb
  have mA:SmP 20 (of8P a 20):=ofP_sm
  have mB:SmP 20 (of8P b 20):=ofP_sm
  have oA:=of8_ct a 20 ha
  have oB:=of8_ct b 20 hb
  generalize of8P a 20=A at *
  generalize of8P b 20=B at *
  have wi:=within8_ct i 0 2 (by decide) (by decide) (by decide)
  have wk:=within8_ct k 0 2 (by decide) (by decide) (by decide)
  have ri:=wI_rng i
  have rk:=wI_rng k
  generalize wI i 0 2=u at *
  generalize wI k 0 2=v at *
  have hok:okAll A B=true:=mA.all mB (by decide)
  have mA':SmP 20 (addP [] (dterms u A)):=SmP.of mA.diff
  have mB':SmP 20 (addP [] (dterms u B)):=SmP.of mB.diff
  have cA':Canon (addP [] (dterms u A)):=Canon.of (dterms_ok cA.ok)
  have cB':Canon (addP [] (dterms u B)):=Canon.of (dterms_ok cB.ok)
  have cA2:Canon (addP [] (dterms v A)):=Canon.of (dterms_ok cA.ok)
  have sA':=sA.diff u
  have sB':=sB.diff u
  have sA2:=sA.diff v
  have cM:Canon (addP [] (prods A B)):=Canon.of prods_ok
  have sM:=sA.mul sB
  have cX:Canon (addP [] (prods (addP [] (dterms u A)) B)):=Canon.of prods_ok
  have cY:Canon (addP [] (prods A (addP [] (dterms u B)))):=Canon.of prods_ok
  have sX:=sA'.mul sB
  have sY:=sA.mul sB'
  have cD:Canon (addP [] (dterms u (addP [] (prods A B)))):=Canon.of (dterms_ok cM.ok)
  have sD:=sM.diff u
  have e1:=leibniz u hok
  have e2:addP [] (dterms v (addP [] (dterms u A)))=addP [] (dterms u (addP [] (dterms v A))):=diff_comm u v cA.ok
  have hs1:=same_ct (addP [] (dterms u (addP [] (prods A B)))) (addP (addP [] (prods (addP [] (dterms u A)) B)) (addP [] (prods A (addP [] (dterms u B))))) 240 240 cD (cX.add sY.ok) (Nat.le_trans sD.len (by decide))
  rw [decide_eq_true e1] at hs1
  have cAA:Canon (addP [] (dterms v (addP [] (dterms u A)))):=Canon.of (dterms_ok cA'.ok)
  have cAB:Canon (addP [] (dterms u (addP [] (dterms v A)))):=Canon.of (dterms_ok cA2.ok)
  have hs2:=same_ct (addP [] (dterms v (addP [] (dterms u A)))) (addP [] (dterms u (addP [] (dterms v A)))) 120 120 cAA cAB (Nat.le_trans (sA'.diff v).len (by decide))
  rw [decide_eq_true e2] at hs2
  refine aCtO ⟨true,[]⟩ (D:=DP) hMix (tr:=(.em (.call 31 [.s (.c 0 0),.s (.k (.int .i64 20))] [some 1,none,none]) (.em (.call 31 [.s (.c 1 0),.s (.k (.int .i64 20))] [some 1,none,none]) (.em (.pr (.unOp .not 4 (.tmp 0)) 4 [.s (.c 4 2)]) (.cond (.c 6 0) (.em (.call 15 [] [none]) (.ret (.v (.s (.c 7 0))))) (.em (.pr (.unOp .not 4 (.tmp 0)) 4 [.s (.c 5 2)]) (.cond (.c 7 0) (.em (.call 15 [] [none]) (.ret (.v (.s (.c 8 0))))) (.em (.call 15 [] [none]) (.em (.pr (.unOp .not 4 (.tmp 0)) 4 [.s (.c 8 0)]) (.cond (.c 9 0) (.em (.call 15 [] [none]) (.ret (.v (.s (.c 10 0))))) (.em (.call 56 [.s (.c 2 0),.s (.k (.int .i64 0)),.s (.k (.int .i64 2))] [none]) (.em (.call 56 [.s (.c 3 0),.s (.k (.int .i64 0)),.s (.k (.int .i64 2))] [none]) (.em (.call 43 [.g [.c 4 0],.g [.c 5 0]] [some 1,none]) (.em (.call 45 [.g [.c 4 0],.s (.c 10 0)] [some 1]) (.em (.call 43 [.g [.c 13 0],.g [.c 5 0]] [some 1,none]) (.em (.call 45 [.g [.c 5 0],.s (.c 10 0)] [some 1]) (.em (.call 43 [.g [.c 4 0],.g [.c 15 0]] [some 1,none]) (.cond (.c 12 1) (.cond (.c 14 1) (.cond (.c 16 1) (.em (.call 45 [.g [.c 12 0],.s (.c 10 0)] [some 1]) (.em (.call 32 [.g [.c 14 0],.g [.c 16 0]] [some 1]) (.em (.call 27 [.g [.c 17 0],.g [.c 18 0]] [none]) (.cond (.c 19 0) (.em (.call 45 [.g [.c 4 0],.s (.c 10 0)] [some 1]) (.em (.call 45 [.g [.c 20 0],.s (.c 11 0)] [some 1]) (.em (.call 45 [.g [.c 4 0],.s (.c 11 0)] [some 1]) (.em (.call 45 [.g [.c 22 0],.s (.c 10 0)] [some 1]) (.em (.call 27 [.g [.c 21 0],.g [.c 23 0]] [none]) (.ret (.v (.s (.c 24 0))))))))) (.ret (.v (.s (.k (.bool false))))))))) (.ret (.v (.s (.k (.bool false)))))) (.ret (.v (.s (.k (.bool false)))))) (.ret (.v (.s (.k (.bool false))))))))))))))))))))))) (by kernel_rfl) (by kernel_rfl) (by kernel_rfl) rfl (fun _ _ h=>by cases h) (fun w0=>?_)
  refine aCall rfl oA (fun _=>?_)
  refine aCall rfl oB (fun _=>?_)
  refine aPr rfl (prNot rfl) rfl ?_
  refine aIf rfl (fun _=>?_) (fun _=>?_)
  · refine aCall rfl alive8_ct (fun _=>?_)
    exact aRet (fun _=>0) rfl rfl rfl
  refine aPr rfl (prNot rfl) rfl ?_
  refine aIf rfl (fun _=>?_) (fun _=>?_)
  · refine aCall rfl alive8_ct (fun _=>?_)
    exact aRet (fun _=>0) rfl rfl rfl
  refine aCall rfl alive8_ct (fun _=>?_)
  refine aPr rfl (prNot rfl) rfl ?_
  refine aFalse rfl ?_
  refine aCall rfl wi (fun _=>?_)
  refine aCall rfl wk (fun _=>?_)
  refine aConv 4 [.ro false (pP A 120),.ro false (pPoly A 500),.ro false (pV (.bool (of8B a 20)))] rfl (ConvS.pqfit (sA.fit (by decide)) (ConvS.same (ConvS.same ConvS.nil))) ?_
  refine aConv 5 [.ro false (pP B 120),.ro false (pPoly B 500),.ro false (pV (.bool (of8B b 20)))] rfl (ConvS.pqfit (sB.fit (by decide)) (ConvS.same (ConvS.same ConvS.nil))) ?_
  refine aCall rfl (mulY_ct A B 120 120 240 sA sB cA cB hok (by decide)) (fun _=>?_)
  refine aCall rfl (diff_ct A u 120 120 ri cA sA (by decide)) (fun _=>?_)
  refine aCall rfl (mulY_ct (addP [] (dterms u A)) B 120 120 240 sA' sB cA' cB (mA'.all mB (by decide)) (by decide)) (fun _=>?_)
  refine aCall rfl (diff_ct B u 120 120 ri cB sB (by decide)) (fun _=>?_)
  refine aCall rfl (mulY_ct A (addP [] (dterms u B)) 120 120 240 sA sB' cA cB' (mA.all mB' (by decide)) (by decide)) (fun _=>?_)
  refine aTrue rfl ?_
  refine aTrue rfl ?_
  refine aTrue rfl ?_
  refine aCall rfl (diff_ct (addP [] (prods A B)) u 240 240 ri cM sM (by decide)) (fun _=>?_)
  refine aCall rfl (addS_ct (addP [] (prods (addP [] (dterms u A)) B)) (addP [] (prods A (addP [] (dterms u B)))) 240 240 240 sX sY cX (by decide) (by decide) (by decide) rfl rfl) (fun _=>?_)
  refine aCall rfl hs1 (fun _=>?_)
  refine aTrue rfl ?_
  refine aCall rfl (diff_ct A u 120 120 ri cA sA (by decide)) (fun _=>?_)
  refine aCall rfl (diff_ct (addP [] (dterms u A)) v 120 120 rk cA' sA' (by decide)) (fun _=>?_)
  refine aCall rfl (diff_ct A v 120 120 rk cA sA (by decide)) (fun _=>?_)
  refine aCall rfl (diff_ct (addP [] (dterms v A)) u 120 120 ri cA2 sA2 (by decide)) (fun _=>?_)
  refine aCall rfl hs2 (fun _=>?_)
  exact aRet (fun _=>0) rfl rfl rfl
theorem polyLeibniz_any (a b:TermL) (i k:Int) (v0 v1:Value) (W:World) (hT:TabsP W) (h0:RowR 4 W v0 (termRows a)) (h1:RowR 4 W v1 (termRows b)) (f0:∀ p∈a,p.1.ok∧p.2.size≤maxLen) (f1:∀ p∈b,p.1.ok∧p.2.size≤maxLen) :
    Calls Tryz.prog 12 #[v0,v1,.int .i64 i,.int .i64 k] W fun e w'=>e=.returned (.bool true)∧Below W.heap.size W w':=
  (leibniz_ct a b i k (fitsT_of f0) (fitsT_of f1) (at7 W) [[v0],[v1],[.int .i64 i],[.int .i64 k]] (fun _ h=>h) hT ⟨[v0],_,rfl,rfl,terms_arg h0,[v1],_,rfl,rfl,terms_arg h1,[.int .i64 i],_,rfl,rfl,⟨[.int .i64 i],[],rfl,⟨rfl,rfl⟩,rfl⟩,[.int .i64 k],[],rfl,rfl,⟨[.int .i64 k],[],rfl,⟨rfl,rfl⟩,rfl⟩,rfl⟩).mono fun _ _ h=>told7 h
end Go.Proofs.YthffkbbcofbceaaGreatDoor
