/- Contracts of package mono, and of the document's monomials. -/
import Derived.Test.YthffkbbcofbceaaGreatDoorYv
import Derived.Test.YthffkbbcofbceaaGreatDoorChecked
import Derived.Test.YthffkbbcofbceaaGreatDoorYr
import Derived.Test.YthffkbbcofbceaaGreatDoorYp
import Derived.Test.YthffkbbcofbceaaGreatDoorYj
import Derived.Test.YthffkbbcofbceaaGreatDoorYn
namespace Go.Proofs.YthffkbbcofbceaaGreatDoor
open Go Go.RowKit Cin
theorem mMix:Tryz.prog.follows .mixedOrders=true:=by kernel_rfl
abbrev DM:TypeId→Bool:=fun t=>t == 5
theorem uM:Tryz.prog.underlying 25=some (.array 3 5):=by kernel_rfl
theorem uU:Tryz.prog.underlying 5=some (.int .u8):=by kernel_rfl
theorem uI:Tryz.prog.underlying 3=some (.int .i64):=by kernel_rfl
theorem iU:Tryz.prog.info? 5=some (Tryz.prog.info? 5).get!:=by kernel_rfl
theorem sU:(Tryz.prog.info? 5).get!.size=1:=by kernel_rfl
theorem nanI_ct (x:Int):Ct Tryz.prog J0 149 [none] [[pV (.int .i64 x)]] [none] (fun _=>[.ro false (pV (.bool false))]):=by
  refine aCtO ⟨true,[]⟩ (D:=DM) mMix (tr:=(.em (.pr (.binOp .neq 3 (.tmp 0) (.tmp 1) 3) 4 [.s (.c 0 0),.s (.c 0 0)]) (.ret (.v (.s (.c 1 0)))))) (by kernel_rfl) (by kernel_rfl) (by kernel_rfl) rfl (fun _ _ h=>by cases h) (fun w0=>?_)
  refine aPr rfl (prNe rfl rfl) rfl ?_
  exact aRet (fun _=>0) rfl rfl (by simp [AV.new])
theorem nanU_ct (x:Int):Ct Tryz.prog J0 150 [none] [[pV (.int .u8 x)]] [none] (fun _=>[.ro false (pV (.bool false))]):=by
  refine aCtO ⟨true,[]⟩ (D:=DM) mMix (tr:=(.em (.pr (.binOp .neq 5 (.tmp 0) (.tmp 1) 5) 4 [.s (.c 0 0),.s (.c 0 0)]) (.ret (.v (.s (.c 1 0)))))) (by kernel_rfl) (by kernel_rfl) (by kernel_rfl) rfl (fun _ _ h=>by cases h) (fun w0=>?_)
  refine aPr rfl (prNe rfl rfl) rfl ?_
  exact aRet (fun _=>0) rfl rfl (by simp [AV.new])
theorem cmpI_ct (x y:Int):Ct Tryz.prog J0 111 [none,none] [[pV (.int .i64 x)],[pV (.int .i64 y)]] [none] (fun _=>[.ro false (pV (.int .i64 (sgI x y)))]):=by
  refine aCtO ⟨true,[]⟩ (D:=DM) mMix (tr:=(.em (.call 149 [.s (.c 0 0)] [none]) (.em (.call 149 [.s (.c 1 0)] [none]) (.cond (.c 2 0) (.cond (.c 3 0) (.ret (.v (.s (.k (.int .i64 0))))) (.ret (.v (.s (.k (.int .i64 (Int.negSucc 0))))))) (.cond (.c 3 0) (.ret (.v (.s (.k (.int .i64 1))))) (.em (.pr (.binOp .lss 3 (.tmp 0) (.tmp 1) 3) 4 [.s (.c 0 0),.s (.c 1 0)]) (.cond (.c 4 0) (.ret (.v (.s (.k (.int .i64 (Int.negSucc 0)))))) (.em (.pr (.binOp .gtr 3 (.tmp 0) (.tmp 1) 3) 4 [.s (.c 0 0),.s (.c 1 0)]) (.cond (.c 5 0) (.ret (.v (.s (.k (.int .i64 1))))) (.ret (.v (.s (.k (.int .i64 0)))))))))))))) (by kernel_rfl) (by kernel_rfl) (by kernel_rfl) rfl (fun _ _ h=>by cases h) (fun w0=>?_)
  refine aCall rfl (nanI_ct _) (fun γ=>?_)
  refine aCall rfl (nanI_ct _) (fun γ=>?_)
  refine aFalse rfl ?_
  refine aFalse rfl ?_
  refine aPr rfl (prLt rfl rfl) rfl ?_
  refine aIf rfl (fun h=>?_) (fun h=>?_)
  · exact aRet (fun _=>0) rfl rfl (by simp at h; simp [AV.new,sgI,h])
  refine aPr rfl (prGt rfl rfl) rfl ?_
  refine aIf rfl (fun h1=>?_) (fun h1=>?_)
  · exact aRet (fun _=>0) rfl rfl (by simp at h h1; simp [AV.new,sgI,h1,Int.not_lt.2 h])
  · exact aRet (fun _=>0) rfl rfl (by simp at h h1; simp [AV.new,sgI,Int.not_lt.2 h,Int.not_lt.2 h1])
theorem cmpU_ct (x y:Int):Ct Tryz.prog J0 112 [none,none] [[pV (.int .u8 x)],[pV (.int .u8 y)]] [none] (fun _=>[.ro false (pV (.int .i64 (sgI x y)))]):=by
  refine aCtO ⟨true,[]⟩ (D:=DM) mMix (tr:=(.em (.call 150 [.s (.c 0 0)] [none]) (.em (.call 150 [.s (.c 1 0)] [none]) (.cond (.c 2 0) (.cond (.c 3 0) (.ret (.v (.s (.k (.int .i64 0))))) (.ret (.v (.s (.k (.int .i64 (Int.negSucc 0))))))) (.cond (.c 3 0) (.ret (.v (.s (.k (.int .i64 1))))) (.em (.pr (.binOp .lss 5 (.tmp 0) (.tmp 1) 5) 4 [.s (.c 0 0),.s (.c 1 0)]) (.cond (.c 4 0) (.ret (.v (.s (.k (.int .i64 (Int.negSucc 0)))))) (.em (.pr (.binOp .gtr 5 (.tmp 0) (.tmp 1) 5) 4 [.s (.c 0 0),.s (.c 1 0)]) (.cond (.c 5 0) (.ret (.v (.s (.k (.int .i64 1))))) (.ret (.v (.s (.k (.int .i64 0)))))))))))))) (by kernel_rfl) (by kernel_rfl) (by kernel_rfl) rfl (fun _ _ h=>by cases h) (fun w0=>?_)
  refine aCall rfl (nanU_ct _) (fun γ=>?_)
  refine aCall rfl (nanU_ct _) (fun γ=>?_)
  refine aFalse rfl ?_
  refine aFalse rfl ?_
  refine aPr rfl (prLt rfl rfl) rfl ?_
  refine aIf rfl (fun h=>?_) (fun h=>?_)
  · exact aRet (fun _=>0) rfl rfl (by simp at h; simp [AV.new,sgI,h])
  refine aPr rfl (prGt rfl rfl) rfl ?_
  refine aIf rfl (fun h1=>?_) (fun h1=>?_)
  · exact aRet (fun _=>0) rfl rfl (by simp at h h1; simp [AV.new,sgI,h1,Int.not_lt.2 h])
  · exact aRet (fun _=>0) rfl rfl (by simp at h h1; simp [AV.new,sgI,Int.not_lt.2 h,Int.not_lt.2 h1])
theorem deg_ct (a:M) (ha:a.ok):Ct Tryz.prog J0 68 [some 3] [mV a] [none] (fun _=>[.ro false (pV (.int .i64 (dg a:Nat)))]):=by
  obtain ⟨h0,h1,h2⟩:=ha
  refine aCtO ⟨true,[]⟩ (D:=DM) mMix (tr:=(.em (.pr (.convert 5 3 (.tmp 0)) 3 [.s (.c 0 0)]) (.em (.pr (.binOp .add 3 (.tmp 0) (.tmp 1) 3) 3 [.s (.k (.int .i64 0)),.s (.c 1 0)]) (.em (.pr (.convert 5 3 (.tmp 0)) 3 [.s (.c 0 1)]) (.em (.pr (.binOp .add 3 (.tmp 0) (.tmp 1) 3) 3 [.s (.c 2 0),.s (.c 3 0)]) (.em (.pr (.convert 5 3 (.tmp 0)) 3 [.s (.c 0 2)]) (.em (.pr (.binOp .add 3 (.tmp 0) (.tmp 1) 3) 3 [.s (.c 4 0),.s (.c 5 0)]) (.ret (.v (.s (.c 6 0))))))))))) (by kernel_rfl) (by kernel_rfl) (by kernel_rfl) rfl (fun _ _ h=>by cases h) (fun w0=>?_)
  refine aPr rfl (cvU uU uI rfl (by omega) (by omega)) rfl ?_
  refine aPr rfl (qAddE (z:=(a.1:Nat)) rfl rfl (by omega) (by omega) (by omega)) rfl ?_
  refine aPr rfl (cvU uU uI rfl (by omega) (by omega)) rfl ?_
  refine aPr rfl (qAddE (z:=(a.1+a.2.1:Nat)) rfl rfl (by omega) (by omega) (by omega)) rfl ?_
  refine aPr rfl (cvU uU uI rfl (by omega) (by omega)) rfl ?_
  refine aPr rfl (qAddE (z:=(dg a:Nat)) rfl rfl (by unfold dg; omega) (by omega) (by unfold dg; omega)) rfl ?_
  exact aRet (fun _=>0) rfl rfl rfl
theorem rdeg_ct (a:M) (ha:a.ok):Ct Tryz.prog J0 69 [some 3] [mV a] [none] (fun _=>[.ro false (pV (.int .i64 (dg a:Nat)))]):=by
  obtain ⟨h0,h1,h2⟩:=ha
  refine aCtO ⟨true,[]⟩ (D:=DM) mMix (tr:=(.em (.pr (.convert 5 3 (.tmp 0)) 3 [.s (.c 0 0)]) (.em (.pr (.convert 5 3 (.tmp 0)) 3 [.s (.c 0 1)]) (.em (.pr (.binOp .add 3 (.tmp 0) (.tmp 1) 3) 3 [.s (.c 1 0),.s (.c 2 0)]) (.em (.pr (.convert 5 3 (.tmp 0)) 3 [.s (.c 0 2)]) (.em (.pr (.binOp .add 3 (.tmp 0) (.tmp 1) 3) 3 [.s (.c 3 0),.s (.c 4 0)]) (.ret (.v (.s (.c 5 0)))))))))) (by kernel_rfl) (by kernel_rfl) (by kernel_rfl) rfl (fun _ _ h=>by cases h) (fun w0=>?_)
  refine aPr rfl (cvU uU uI rfl (by omega) (by omega)) rfl ?_
  refine aPr rfl (cvU uU uI rfl (by omega) (by omega)) rfl ?_
  refine aPr rfl (qAddE (z:=(a.1+a.2.1:Nat)) rfl rfl (by omega) (by omega) (by omega)) rfl ?_
  refine aPr rfl (cvU uU uI rfl (by omega) (by omega)) rfl ?_
  refine aPr rfl (qAddE (z:=(dg a:Nat)) rfl rfl (by unfold dg; omega) (by omega) (by unfold dg; omega)) rfl ?_
  exact aRet (fun _=>0) rfl rfl rfl
theorem vars_ct (a:M):Ct Tryz.prog J0 71 [some 3] [mV a] [none] (fun _=>[.ro false (pV (.int .i64 (vr a:Nat)))]):=by
  refine aCtO ⟨true,[]⟩ (D:=DM) mMix (tr:=(.em (.pr (.binOp .eql 5 (.tmp 0) (.const (.int .u8 0)) 5) 4 [.s (.c 0 2),.s (.k (.int .u8 0))]) (.cond (.c 1 0) (.em (.pr (.binOp .eql 5 (.tmp 0) (.const (.int .u8 0)) 5) 4 [.s (.c 0 1),.s (.k (.int .u8 0))]) (.cond (.c 2 0) (.em (.pr (.binOp .eql 5 (.tmp 0) (.const (.int .u8 0)) 5) 4 [.s (.c 0 0),.s (.k (.int .u8 0))]) (.cond (.c 3 0) (.ret (.v (.s (.k (.int .i64 0))))) (.ret (.v (.s (.k (.int .i64 1))))))) (.ret (.v (.s (.k (.int .i64 2))))))) (.ret (.v (.s (.k (.int .i64 3)))))))) (by kernel_rfl) (by kernel_rfl) (by kernel_rfl) rfl (fun _ _ h=>by cases h) (fun w0=>?_)
  refine aPr rfl (prEq rfl rfl) rfl ?_
  refine aIf rfl (fun h=>?_) (fun h=>?_)
  · refine aPr rfl (prEq rfl rfl) rfl ?_
    refine aIf rfl (fun h1=>?_) (fun h1=>?_)
    · refine aPr rfl (prEq rfl rfl) rfl ?_
      refine aIf rfl (fun h2=>?_) (fun h2=>?_)
      · exact aRet (fun _=>0) rfl rfl (by simp at h h1 h2; simp [AV.new,vr,h,h1,h2])
      · exact aRet (fun _=>0) rfl rfl (by simp at h h1 h2; simp [AV.new,vr,h,h1,h2])
    · exact aRet (fun _=>0) rfl rfl (by simp at h h1; simp [AV.new,vr,h,h1])
  · exact aRet (fun _=>0) rfl rfl (by simp at h; simp [AV.new,vr,h])
theorem mcmp_ct (a b:M) (ha:a.ok) (hb:b.ok):Ct Tryz.prog J0 61 [some 3,some 3] [mV a,mV b] [none] (fun _=>[.ro false (pV (.int .i64 (mc a b)))]):=by
  refine aCtO ⟨true,[]⟩ (D:=DM) mMix (tr:=(.em (.call 68 [.g [.c 0 0,.c 0 1,.c 0 2]] [none]) (.em (.call 68 [.g [.c 1 0,.c 1 1,.c 1 2]] [none]) (.em (.call 111 [.s (.c 2 0),.s (.c 3 0)] [none]) (.em (.pr (.binOp .neq 3 (.tmp 0) (.const (.int .i64 0)) 3) 4 [.s (.c 4 0),.s (.k (.int .i64 0))]) (.cond (.c 5 0) (.ret (.v (.s (.c 4 0)))) (.em (.call 112 [.s (.c 0 0),.s (.c 1 0)] [none]) (.em (.pr (.binOp .neq 3 (.tmp 0) (.const (.int .i64 0)) 3) 4 [.s (.c 6 0),.s (.k (.int .i64 0))]) (.cond (.c 7 0) (.ret (.v (.s (.c 6 0)))) (.em (.call 112 [.s (.c 0 1),.s (.c 1 1)] [none]) (.em (.pr (.binOp .neq 3 (.tmp 0) (.const (.int .i64 0)) 3) 4 [.s (.c 8 0),.s (.k (.int .i64 0))]) (.cond (.c 9 0) (.ret (.v (.s (.c 8 0)))) (.em (.call 112 [.s (.c 0 2),.s (.c 1 2)] [none]) (.em (.pr (.binOp .neq 3 (.tmp 0) (.const (.int .i64 0)) 3) 4 [.s (.c 10 0),.s (.k (.int .i64 0))]) (.cond (.c 11 0) (.ret (.v (.s (.c 10 0)))) (.ret (.v (.s (.k (.int .i64 0)))))))))))))))))))) (by kernel_rfl) (by kernel_rfl) (by kernel_rfl) rfl (fun _ _ h=>by cases h) (fun w0=>?_)
  refine aCall rfl (deg_ct a ha) (fun γ=>?_)
  refine aCall rfl (deg_ct b hb) (fun γ=>?_)
  refine aCall rfl (cmpI_ct _ _) (fun γ=>?_)
  refine aPr rfl (prNe rfl rfl) rfl ?_
  refine aIf rfl (fun h=>?_) (fun h=>?_)
  · exact aRet (fun _=>0) rfl rfl (by simp at h; simp [AV.new,mc,h])
  refine aCall rfl (cmpU_ct _ _) (fun γ=>?_)
  refine aPr rfl (prNe rfl rfl) rfl ?_
  refine aIf rfl (fun h1=>?_) (fun h1=>?_)
  · exact aRet (fun _=>0) rfl rfl (by simp at h h1; simp [AV.new,mc,h,h1])
  refine aCall rfl (cmpU_ct _ _) (fun γ=>?_)
  refine aPr rfl (prNe rfl rfl) rfl ?_
  refine aIf rfl (fun h2=>?_) (fun h2=>?_)
  · exact aRet (fun _=>0) rfl rfl (by simp at h h1 h2; simp [AV.new,mc,h,h1,h2])
  refine aCall rfl (cmpU_ct _ _) (fun γ=>?_)
  refine aPr rfl (prNe rfl rfl) rfl ?_
  refine aIf rfl (fun h3=>?_) (fun h3=>?_)
  · exact aRet (fun _=>0) rfl rfl (by simp at h h1 h2; simp [AV.new,mc,h,h1,h2])
  · exact aRet (fun _=>0) rfl rfl (by simp at h h1 h2 h3; simp [AV.new,mc,h,h1,h2,h3])
theorem mul_ct (a b:M) (ha:a.ok) (hb:b.ok):Ct Tryz.prog J0 87 [some 3,some 3] [mV a,mV b] [some 3,none] (fun _=>(mV (mulM a b)++[pV (.bool (mulOk a b))]).map (.ro false)):=by
  obtain ⟨h0,h1,h2⟩:=ha
  obtain ⟨k0,k1,k2⟩:=hb
  refine aCtO ⟨true,[]⟩ (D:=DM) mMix (tr:=(.em (.pr (.convert 5 3 (.tmp 0)) 3 [.s (.c 0 0)]) (.em (.pr (.convert 5 3 (.tmp 0)) 3 [.s (.c 1 0)]) (.em (.pr (.binOp .add 3 (.tmp 0) (.tmp 1) 3) 3 [.s (.c 2 0),.s (.c 3 0)]) (.em (.pr (.binOp .gtr 3 (.tmp 0) (.const (.int .i64 255)) 3) 4 [.s (.c 4 0),.s (.k (.int .i64 255))]) (.cond (.c 5 0) (.ret (.t [.g [.k (.int .u8 0),.k (.int .u8 0),.k (.int .u8 0)],.s (.k (.bool false))])) (.em (.pr (.binOp .add 5 (.tmp 0) (.tmp 1) 5) 5 [.s (.c 0 0),.s (.c 1 0)]) (.em (.pr (.convert 5 3 (.tmp 0)) 3 [.s (.c 0 1)]) (.em (.pr (.convert 5 3 (.tmp 0)) 3 [.s (.c 1 1)]) (.em (.pr (.binOp .add 3 (.tmp 0) (.tmp 1) 3) 3 [.s (.c 7 0),.s (.c 8 0)]) (.em (.pr (.binOp .gtr 3 (.tmp 0) (.const (.int .i64 255)) 3) 4 [.s (.c 9 0),.s (.k (.int .i64 255))]) (.cond (.c 10 0) (.ret (.t [.g [.k (.int .u8 0),.k (.int .u8 0),.k (.int .u8 0)],.s (.k (.bool false))])) (.em (.pr (.binOp .add 5 (.tmp 0) (.tmp 1) 5) 5 [.s (.c 0 1),.s (.c 1 1)]) (.em (.pr (.convert 5 3 (.tmp 0)) 3 [.s (.c 0 2)]) (.em (.pr (.convert 5 3 (.tmp 0)) 3 [.s (.c 1 2)]) (.em (.pr (.binOp .add 3 (.tmp 0) (.tmp 1) 3) 3 [.s (.c 12 0),.s (.c 13 0)]) (.em (.pr (.binOp .gtr 3 (.tmp 0) (.const (.int .i64 255)) 3) 4 [.s (.c 14 0),.s (.k (.int .i64 255))]) (.cond (.c 15 0) (.ret (.t [.g [.k (.int .u8 0),.k (.int .u8 0),.k (.int .u8 0)],.s (.k (.bool false))])) (.em (.pr (.binOp .add 5 (.tmp 0) (.tmp 1) 5) 5 [.s (.c 0 2),.s (.c 1 2)]) (.ret (.t [.g [.c 6 0,.c 11 0,.c 16 0],.s (.k (.bool true))]))))))))))))))))))))) (by kernel_rfl) (by kernel_rfl) (by kernel_rfl) rfl (fun _ _ h=>by cases h) (fun w0=>?_)
  refine aPr rfl (cvU uU uI rfl (by omega) (by omega)) rfl ?_
  refine aPr rfl (cvU uU uI rfl (by omega) (by omega)) rfl ?_
  refine aPr rfl (qAddE (z:=(a.1+b.1:Nat)) rfl rfl (by omega) (by omega) (by omega)) rfl ?_
  refine aPr rfl (prGt rfl rfl) rfl ?_
  refine aIf rfl (fun e0=>?_) (fun e0=>?_)
  · have e:mulOk a b=false:=by simp at e0; simp [mulOk]; omega
    exact aRet (fun _=>0) rfl rfl (by simp [AV.new,mulM,e])
  simp only [decide_eq_false_iff_not,Int.not_lt] at e0
  refine aPr rfl (uAdd (z:=(a.1+b.1:Nat)) rfl rfl (by omega) (by omega) (by omega)) rfl ?_
  refine aPr rfl (cvU uU uI rfl (by omega) (by omega)) rfl ?_
  refine aPr rfl (cvU uU uI rfl (by omega) (by omega)) rfl ?_
  refine aPr rfl (qAddE (z:=(a.2.1+b.2.1:Nat)) rfl rfl (by omega) (by omega) (by omega)) rfl ?_
  refine aPr rfl (prGt rfl rfl) rfl ?_
  refine aIf rfl (fun e1=>?_) (fun e1=>?_)
  · have e:mulOk a b=false:=by simp at e1; simp [mulOk]; omega
    exact aRet (fun _=>0) rfl rfl (by simp [AV.new,mulM,e])
  simp only [decide_eq_false_iff_not,Int.not_lt] at e1
  refine aPr rfl (uAdd (z:=(a.2.1+b.2.1:Nat)) rfl rfl (by omega) (by omega) (by omega)) rfl ?_
  refine aPr rfl (cvU uU uI rfl (by omega) (by omega)) rfl ?_
  refine aPr rfl (cvU uU uI rfl (by omega) (by omega)) rfl ?_
  refine aPr rfl (qAddE (z:=(a.2.2+b.2.2:Nat)) rfl rfl (by omega) (by omega) (by omega)) rfl ?_
  refine aPr rfl (prGt rfl rfl) rfl ?_
  refine aIf rfl (fun e2=>?_) (fun e2=>?_)
  · have e:mulOk a b=false:=by simp at e2; simp [mulOk]; omega
    exact aRet (fun _=>0) rfl rfl (by simp [AV.new,mulM,e])
  simp only [decide_eq_false_iff_not,Int.not_lt] at e2
  refine aPr rfl (uAdd (z:=(a.2.2+b.2.2:Nat)) rfl rfl (by omega) (by omega) (by omega)) rfl ?_
  have e:mulOk a b=true:=by simp [mulOk]; omega
  exact aRet (fun _=>0) rfl rfl (by simp [AV.new,mulM,e])
theorem rmcmp_ct (a b:M) (ha:a.ok) (hb:b.ok):Ct Tryz.prog J0 65 [some 3,some 3] [mV a,mV b] [none] (fun _=>[.ro false (pV (.int .i64 (mc a b)))]):=by
  refine aCtO ⟨true,[]⟩ (D:=DM) mMix (tr:=(.em (.call 69 [.g [.c 0 0,.c 0 1,.c 0 2]] [none]) (.em (.call 69 [.g [.c 1 0,.c 1 1,.c 1 2]] [none]) (.em (.pr (.binOp .neq 3 (.tmp 0) (.tmp 1) 3) 4 [.s (.c 2 0),.s (.c 3 0)]) (.cond (.c 4 0) (.em (.call 69 [.g [.c 0 0,.c 0 1,.c 0 2]] [none]) (.em (.call 69 [.g [.c 1 0,.c 1 1,.c 1 2]] [none]) (.em (.pr (.binOp .lss 3 (.tmp 0) (.tmp 1) 3) 4 [.s (.c 5 0),.s (.c 6 0)]) (.cond (.c 7 0) (.ret (.v (.s (.k (.int .i64 (Int.negSucc 0)))))) (.ret (.v (.s (.k (.int .i64 1))))))))) (.em (.pr (.binOp .lss 5 (.tmp 0) (.tmp 1) 5) 4 [.s (.c 0 0),.s (.c 1 0)]) (.cond (.c 5 0) (.ret (.v (.s (.k (.int .i64 (Int.negSucc 0)))))) (.em (.pr (.binOp .gtr 5 (.tmp 0) (.tmp 1) 5) 4 [.s (.c 0 0),.s (.c 1 0)]) (.cond (.c 6 0) (.ret (.v (.s (.k (.int .i64 1))))) (.em (.pr (.binOp .lss 5 (.tmp 0) (.tmp 1) 5) 4 [.s (.c 0 1),.s (.c 1 1)]) (.cond (.c 7 0) (.ret (.v (.s (.k (.int .i64 (Int.negSucc 0)))))) (.em (.pr (.binOp .gtr 5 (.tmp 0) (.tmp 1) 5) 4 [.s (.c 0 1),.s (.c 1 1)]) (.cond (.c 8 0) (.ret (.v (.s (.k (.int .i64 1))))) (.em (.pr (.binOp .lss 5 (.tmp 0) (.tmp 1) 5) 4 [.s (.c 0 2),.s (.c 1 2)]) (.cond (.c 9 0) (.ret (.v (.s (.k (.int .i64 (Int.negSucc 0)))))) (.em (.pr (.binOp .gtr 5 (.tmp 0) (.tmp 1) 5) 4 [.s (.c 0 2),.s (.c 1 2)]) (.cond (.c 10 0) (.ret (.v (.s (.k (.int .i64 1))))) (.ret (.v (.s (.k (.int .i64 0)))))))))))))))))))))) (by kernel_rfl) (by kernel_rfl) (by kernel_rfl) rfl (fun _ _ h=>by cases h) (fun w0=>?_)
  refine aCall rfl (rdeg_ct a ha) (fun γ=>?_)
  refine aCall rfl (rdeg_ct b hb) (fun γ=>?_)
  refine aPr rfl (prNe rfl rfl) rfl ?_
  refine aIf rfl (fun h=>?_) (fun h=>?_)
  · refine aCall rfl (rdeg_ct a ha) (fun γ=>?_)
    refine aCall rfl (rdeg_ct b hb) (fun γ=>?_)
    refine aPr rfl (prLt rfl rfl) rfl ?_
    refine aIf rfl (fun h1=>?_) (fun h1=>?_)
    · exact aRet (fun _=>0) rfl rfl (by simp at h h1; simp [AV.new,mc,sgI,h1])
    · exact aRet (fun _=>0) rfl rfl (by
        simp at h h1
        have h2:dg b < dg a:=by omega
        simp [AV.new,mc,sgI,h2,Nat.not_lt.2 h1])
  have hd:dg a=dg b:=by simp at h; omega
  refine aPr rfl (prLt rfl rfl) rfl ?_
  refine aIf rfl (fun h1=>?_) (fun h1=>?_)
  · exact aRet (fun _=>0) rfl rfl (by simp at h1; simp [AV.new,mc,sgI,h1,hd])
  refine aPr rfl (prGt rfl rfl) rfl ?_
  refine aIf rfl (fun h2=>?_) (fun h2=>?_)
  · exact aRet (fun _=>0) rfl rfl (by simp at h1 h2; simp [AV.new,mc,sgI,h2,Nat.not_lt.2 h1,hd])
  have d0:a.1=b.1:=by simp at h1 h2; omega
  refine aPr rfl (prLt rfl rfl) rfl ?_
  refine aIf rfl (fun h1=>?_) (fun h1=>?_)
  · exact aRet (fun _=>0) rfl rfl (by simp at h1; simp [AV.new,mc,sgI,h1,hd,d0])
  refine aPr rfl (prGt rfl rfl) rfl ?_
  refine aIf rfl (fun h2=>?_) (fun h2=>?_)
  · exact aRet (fun _=>0) rfl rfl (by simp at h1 h2; simp [AV.new,mc,sgI,h2,Nat.not_lt.2 h1,hd,d0])
  have d1:a.2.1=b.2.1:=by simp at h1 h2; omega
  refine aPr rfl (prLt rfl rfl) rfl ?_
  refine aIf rfl (fun h1=>?_) (fun h1=>?_)
  · exact aRet (fun _=>0) rfl rfl (by simp at h1; simp [AV.new,mc,sgI,h1,hd,d0,d1])
  refine aPr rfl (prGt rfl rfl) rfl ?_
  refine aIf rfl (fun h2=>?_) (fun h2=>?_)
  · exact aRet (fun _=>0) rfl rfl (by simp at h1 h2; simp [AV.new,mc,sgI,h2,Nat.not_lt.2 h1,hd,d0,d1])
  · exact aRet (fun _=>0) rfl rfl (by simp at h1 h2; simp [AV.new,mc,sgI,Nat.not_lt.2 h1,Nat.not_lt.2 h2,hd,d0,d1])
end Go.Proofs.YthffkbbcofbceaaGreatDoor

namespace Go.Proofs.YthffkbbcofbceaaGreatDoor
open Go Go.RowKit Cin
def termR:Rty:=⟨67,6,[202],[]⟩
def rowsP (p:PolyL) (k:Nat):List (List Pd):=p.map fun x=>mV x.1++[pD x.2 k]
abbrev pPoly (p:PolyL) (k:Nat):Pd:=pRows termR (rowsP p k)
def fitQ (k:Nat) (q:Rat):Prop:=q.num.natAbs < pw k∧q.den < pw k
theorem rowsP_len (p:PolyL) (k:Nat):(rowsP p k).length=p.length:=List.length_map _
theorem ConvS.dfit {o:Bool} {q:Rat} {k k':Nat} {a b:List AV} (hf:fitQ k' q) (h:ConvS a b):ConvS (.ro o (pD q k)::a) (.ro o (pD q k')::b):=fun B w _ _ ⟨c1,c2,o1,o2,e,e2,⟨⟨x,y,z,e3,h1⟩,h3⟩,h2⟩=>
  ⟨c1,c2,o1,o2,e,e2,⟨⟨x,y,z,e3,h1.cut hf.1 hf.2⟩,h3⟩,h B w _ _ h2⟩
def pI (z:Int) (k:Nat):Pd:=pdOf 202 2 (fun w cs=>∃ a b,cs=[a,b]∧IB w a b z k) (by rintro w cs ⟨a,b,rfl,_⟩; rfl) (by rintro w cs ⟨a,b,rfl,h⟩; exact ipl h)
  (by rintro u w cs he ⟨a,b,rfl,h⟩; exact ⟨a,b,rfl,mI (D:=fun t=>t == 202) _ _ _ _ rfl u w he h⟩)
theorem dsign_ct (z:Int) (k:Nat):Ct Tryz.prog JT 64 [some 2] [[pI z k]] [none] (fun _=>[.ro false (pV (.int .i64 (sgnZ z)))]):=by
  intro w0 E _ hJ hA
  obtain ⟨c1,E1,rfl,_,h1,hE⟩:=hA
  obtain ⟨d1,d2,rfl,⟨a,b,rfl,h⟩,h2⟩:=h1
  obtain rfl:d2=[]:=h2
  obtain rfl:E1=[]:=hE
  exact (rsign_any _ z k w0.w h).mono fun e w1 h=>tV h rfl
theorem pD_num {q:Rat} {k:Nat}:∀ l w cs,(pD q k).R l w cs→2≤cs.length∧RL l w [pI q.num k] (cs.take 2):=fun l w cs ⟨a,b,d,e,h⟩=>by
  subst e
  exact ⟨by simp,[a,b],[],rfl,⟨a,b,rfl,h.1⟩,rfl⟩
theorem sgnZ_zero {z:Int}:sgnZ z=0↔z=0:=by unfold sgnZ; (repeat' split) <;> omega
theorem num_zero {q:Rat}:q.num=0↔q=0:=
  Rat.num_eq_zero
theorem sgnR_zero {q:Rat}:((sgnZ q.num) == 0)=decide (q=0):=by
  by_cases h:q=0
  · subst h; rfl
  · have:=mt sgnZ_zero.1 (mt num_zero.1 h)
    simp [h,this]
abbrev ZeroTm:List Value:=[.int .u8 0,.int .u8 0,.int .u8 0,.bool false,.slice none 0 0,.slice none 0 0]
end Go.Proofs.YthffkbbcofbceaaGreatDoor

namespace Cin
open Go Go.RowKit
def WtP (D:Nat):PolyL→Nat→Prop
  | [],_=>True
  | x::p,N=>∃ (a:Int) (n:Nat),x.2 * (D:Rat)=(a:Rat)∧a.natAbs+n≤N∧WtP D p n
theorem WtP.mono {D:Nat}:∀ {p:PolyL} {N M:Nat},WtP D p N→N≤M→WtP D p M
  | [],_,_,_,_=>trivial
  | _::_,_,_,⟨a,n,h1,h2,h3⟩,h=>⟨a,n,h1,by omega,h3⟩
theorem WtP.put {D:Nat} {t:M × Rat} {b:Int} (hb:t.2 * (D:Rat)=(b:Rat)):∀ {p:PolyL} {N:Nat},WtP D p N→WtP D (putP p t) (N+b.natAbs)
  | [],N,_=>by
    unfold putP
    split
    · trivial
    · exact ⟨b,0,hb,by omega,trivial⟩
  | x::r,N,⟨a,n,h1,h2,h3⟩=>by
    unfold putP
    split
    · exact ⟨a,n+b.natAbs,h1,by omega,WtP.put hb h3⟩
    · split
      · split
        · exact h3.mono (by omega)
        · refine ⟨a+b,n,?_,by have:=Int.natAbs_add_le a b; omega,h3⟩
          simp only []
          rw [Rat.add_mul,h1,hb,Rat.intCast_add]
      · split
        · exact ⟨a,n,h1,by omega,h3⟩
        · exact ⟨b,N,hb,by omega,a,n,h1,h2,h3⟩
theorem WtP.add {D:Nat}:∀ {q p:PolyL} {N M:Nat},WtP D p N→WtP D q M→WtP D (addP p q) (N+M)
  | [],_,_,_,h,_=>h.mono (by omega)
  | x::r,p,N,M,h,⟨a,n,h1,h2,h3⟩=>by
    have:=WtP.add (h.put h1) h3
    exact this.mono (by omega)
theorem WtP.pre {D:Nat}:∀ {l q:PolyL} {M:Nat},l <+: q→WtP D q M→WtP D l M
  | [],_,_,_,_=>trivial
  | x::l,q,M,hp,h=>by
    obtain ⟨s,rfl⟩:=hp
    obtain ⟨a,n,h1,h2,h3⟩:=h
    exact ⟨a,n,h1,h2,WtP.pre ⟨s,rfl⟩ h3⟩
theorem WtP.app {D:Nat}:∀ {l q:PolyL} {N M:Nat},WtP D l N→WtP D q M→WtP D (l++q) (N+M)
  | [],_,_,_,_,h=>h.mono (by omega)
  | x::l,q,N,M,⟨a,n,h1,h2,h3⟩,h=>⟨a,n+M,h1,by omega,h3.app h⟩
theorem WtP.mulR {D E:Nat} {r:Rat} {b:Int} (hb:r * (E:Rat)=(b:Rat)):∀ {p:PolyL} {N:Nat},WtP D p N→WtP (D * E) (mulR p r) (N * b.natAbs)
  | [],_,_=>trivial
  | x::p,N,⟨a,n,h1,h2,h3⟩=>by
    refine ⟨a * b,n * b.natAbs,?_,?_,WtP.mulR hb h3⟩
    · simp only []
      rw [Rat.natCast_mul,Rat.intCast_mul,← h1,← hb]; grind
    · rw [Int.natAbs_mul,← Nat.add_mul]; exact Nat.mul_le_mul_right _ h2
theorem WtP.scale {D:Nat} (E:Nat):∀ {p:PolyL} {N:Nat},WtP D p N→WtP (D * E) p (N * E)
  | [],_,_=>trivial
  | x::p,N,⟨a,n,h1,h2,h3⟩=>by
    refine ⟨a * E,n * E,?_,?_,WtP.scale E h3⟩
    · rw [Rat.natCast_mul,← Rat.mul_assoc,h1,Rat.intCast_mul]; rfl
    · rw [Int.natAbs_mul,Int.natAbs_natCast,← Nat.add_mul]; exact Nat.mul_le_mul_right _ h2
theorem parts_le {D:Nat} {x:Rat} {a:Int} (hD:0 < D) (h:x * (D:Rat)=(a:Rat)):x.den≤D∧x.num.natAbs≤a.natAbs:=by
  have hx:x=mkRat a D:=by
    rw [Rat.mkRat_eq_div,← h,Rat.div_def,Rat.mul_assoc,Rat.mul_inv_cancel,Rat.mul_one]
    · intro h0
      have:(D:Rat)=((0:Nat):Rat):=h0
      have:=Rat.natCast_inj.1 this
      omega
  have hd:D≠0:=by omega
  rw [hx]
  constructor
  · rw [← Rat.normalize_eq_mkRat hd,Rat.normalize_eq]
    exact Nat.div_le_self _ _
  · rw [← Rat.normalize_eq_mkRat hd,Rat.normalize_eq]
    show (a / ((a.natAbs.gcd D:Nat):Int)).natAbs≤a.natAbs
    obtain ⟨c,hc⟩:((a.natAbs.gcd D:Nat):Int) ∣ a:=Int.ofNat_dvd_left.2 (Nat.gcd_dvd_left _ _)
    generalize a.natAbs.gcd D=g at hc ⊢
    subst hc
    by_cases hg:g=0
    · subst hg; simp
    · rw [Int.mul_ediv_cancel_left _ (by omega),Int.natAbs_mul]
      exact Nat.le_mul_of_pos_left _ (by omega)
theorem WtP.fit {D N:Nat} {B:Nat} (hD:0 < D) (hB:D < B) (hN:N < B):∀ {p:PolyL},WtP D p N→FitP (fun q=>q.num.natAbs < B∧q.den < B) p
  | [],_=>fun x h=>by cases h
  | y::p,⟨a,n,h1,h2,h3⟩=>fun x h=>by
    rcases List.mem_cons.1 h with rfl | h
    · have:=parts_le hD h1; exact ⟨by omega,by omega⟩
    · exact WtP.fit hD hB (show n < B by omega) h3 x h
def prods (p q:PolyL):PolyL:=p.flatMap fun x=>q.map fun y=>(mulM x.1 y.1,x.2 * y.2)
theorem prods_nil (q:PolyL):prods [] q=[]:=rfl
theorem prods_cons (x:M × Rat) (p q:PolyL):prods (x::p) q=(q.map fun y=>(mulM x.1 y.1,x.2 * y.2))++prods p q:=rfl
theorem prods_len (p q:PolyL):(prods p q).length=p.length * q.length:=by
  induction p with
  | nil=>simp [prods_nil]
  | cons x p ih=>rw [prods_cons,List.length_append,ih]; simp [Nat.add_mul,Nat.add_comm]
theorem wt_row {E:Nat} (x:M × Rat) {D:Nat} {a:Int} (hx:x.2 * (D:Rat)=(a:Rat)):∀ {q:PolyL} {N:Nat},WtP E q N→WtP (D * E) (q.map fun y=>(mulM x.1 y.1,x.2 * y.2)) (a.natAbs * N)
  | [],_,_=>trivial
  | y::q,N,⟨b,n,h1,h2,h3⟩=>by
    refine ⟨a * b,a.natAbs * n,?_,?_,wt_row x hx h3⟩
    · simp only []
      rw [Rat.natCast_mul,Rat.intCast_mul,← h1,← hx]; grind
    · rw [Int.natAbs_mul,← Nat.mul_add]; exact Nat.mul_le_mul_left _ h2
theorem WtP.prods {D E:Nat} {q:PolyL} {M:Nat} (hq:WtP E q M):∀ {p:PolyL} {N:Nat},WtP D p N→WtP (D * E) (prods p q) (N * M)
  | [],_,_=>trivial
  | x::p,N,⟨a,n,h1,h2,h3⟩=>by
    rw [prods_cons]
    exact ((wt_row x h1 hq).app (WtP.prods hq h3)).mono (by rw [← Nat.add_mul]; exact Nat.mul_le_mul_right _ h2)
theorem prods_ok {p q:PolyL}:OkP (prods p q):=fun x hx=>by
  unfold prods at hx
  obtain ⟨y,_,hx⟩:=List.mem_flatMap.1 hx
  obtain ⟨z,_,rfl⟩:=List.mem_map.1 hx
  exact mulM_ok _ _
def okAll (p q:PolyL):Bool:=p.all fun x=>q.all fun y=>mulOk x.1 y.1
def mulP (p q:PolyL):Option PolyL:=if okAll p q then some (addP [] (prods p q)) else none
def constP (r:Rat):PolyL:=putP [] ((0,0,0),r)
def mulN (v q:PolyL):Nat→Option PolyL
  | 0=>some v
  | n+1=>(mulN v q n).bind fun u=>mulP u q
def mul3 (r:Rat) (l0 l1 l2:PolyL) (a b c:Nat):Option PolyL:=(mulN (constP r) l0 a).bind fun v=>(mulN v l1 b).bind fun u=>mulN u l2 c
def compP (p l0 l1 l2:PolyL):Option PolyL:=p.foldl (fun out x=>out.bind fun o=>(mul3 x.2 l0 l1 l2 x.1.1 x.1.2.1 x.1.2.2).map fun v=>addP o v) (some [])
structure PB (D N L:Nat) (p:PolyL):Prop where
  pos:0 < D
  wt:WtP D p N
  ok:OkP p
  len:p.length≤L
theorem addP_len (p:PolyL):∀ q:PolyL,(addP p q).length≤p.length+q.length
  | []=>by simp [addP]
  | x::r=>by
    have h1:=addP_len (putP p x) r
    have h2:=putP_len p x
    simp only [List.length_cons]
    have e:addP p (x::r)=addP (putP p x) r:=rfl
    rw [e]; omega
theorem PB.mono {D N N' L L':Nat} {p:PolyL} (h:PB D N L p) (hN:N≤N') (hL:L≤L'):PB D N' L' p:=⟨h.pos,h.wt.mono hN,h.ok,Nat.le_trans h.len hL⟩
theorem PB.nil {D N L:Nat} (h:0 < D):PB D N L []:=⟨h,trivial,(fun _ h=>by cases h),by simp⟩
theorem PB.add {D N M L K:Nat} {p q:PolyL} (h:PB D N L p) (h':PB D M K q):PB D (N+M) (L+K) (addP p q):=
  ⟨h.pos,h.wt.add h'.wt,h.ok.add h'.ok,Nat.le_trans (addP_len _ _) (Nat.add_le_add h.len h'.len)⟩
theorem PB.scale {D N L:Nat} {p:PolyL} (E:Nat) (hE:0 < E) (h:PB D N L p):PB (D * E) (N * E) L p:=⟨Nat.mul_pos h.pos hE,h.wt.scale E,h.ok,h.len⟩
theorem PB.prods {D E N M L K:Nat} {p q:PolyL} (h:PB D N L p) (h':PB E M K q):PB (D * E) (N * M) (L * K) (prods p q):=
  ⟨Nat.mul_pos h.pos h'.pos,h'.wt.prods h.wt,prods_ok,by rw [prods_len]; exact Nat.mul_le_mul h.len h'.len⟩
theorem PB.mulP {D E N M L K:Nat} {p q r:PolyL} (h:PB D N L p) (h':PB E M K q) (hr:mulP p q=some r):PB (D * E) (N * M) (L * K) r:=by
  unfold Cin.mulP at hr
  split at hr
  · cases hr
    have:=(PB.nil (N:=0) (L:=0) (Nat.mul_pos h.pos h'.pos)).add (h.prods h')
    simpa using this
  · cases hr
theorem mulR_len (p:PolyL) (r:Rat):(mulR p r).length=p.length:=by simp [mulR]
theorem mulR_ok {p:PolyL} {r:Rat} (h:OkP p):OkP (mulR p r):=fun x hx=>by
  obtain ⟨y,hy,rfl⟩:=List.mem_map.1 hx
  exact h y hy
theorem PB.mulR {D E N L:Nat} {p:PolyL} {r:Rat} {b:Int} (h:PB D N L p) (hE:0 < E) (hb:r * (E:Rat)=(b:Rat)):PB (D * E) (N * b.natAbs) L (mulR p r):=
  ⟨Nat.mul_pos h.pos hE,h.wt.mulR hb,mulR_ok h.ok,by rw [mulR_len]; exact h.len⟩
theorem PB.mulN {D E N M L K:Nat} {v q:PolyL} (h:PB D N L v) (h':PB E M K q):∀ {n:Nat} {r:PolyL},mulN v q n=some r→PB (D * E ^ n) (N * M ^ n) (L * K ^ n) r
  | 0,r,hr=>by cases hr; simpa using h
  | n+1,r,hr=>by
    unfold Cin.mulN at hr
    obtain ⟨u,hu,hr⟩:=Option.bind_eq_some_iff.1 hr
    have:=(PB.mulN h h' hu).mulP h' hr
    simpa [Nat.pow_succ,Nat.mul_assoc] using this
theorem den_num (r:Rat):r * (r.den:Rat)=(r.num:Rat):=by
  have h:mkRat r.num r.den=r:=Rat.mkRat_self r
  rw [Rat.mkRat_eq_div] at h
  conv=>lhs; lhs; rw [← h]
  rw [Rat.div_def,Rat.mul_assoc,Rat.inv_mul_cancel,Rat.mul_one]
  intro h0
  have:((r.den:Nat):Rat)=((0:Nat):Rat):=h0
  have:=Rat.natCast_inj.1 this
  exact r.den_nz this
theorem PB.const (r:Rat):PB r.den r.num.natAbs 1 (constP r):=by
  have h:WtP r.den (constP r) (0+r.num.natAbs):=WtP.put (p:=[]) (N:=0) (t:=((0,0,0),r)) (den_num r) trivial
  rw [Nat.zero_add] at h
  exact ⟨r.den_pos,h,OkP.put (fun _ h=>by cases h) ⟨by simp,by simp,by simp⟩,putP_len [] _⟩
theorem PB.mul3 {r:Rat} {E0 M0 K0 E1 M1 K1 E2 M2 K2:Nat} {l0 l1 l2:PolyL} (h0:PB E0 M0 K0 l0) (h1:PB E1 M1 K1 l1) (h2:PB E2 M2 K2 l2) {a b c:Nat} {v:PolyL} (h:mul3 r l0 l1 l2 a b c=some v) :
    PB (r.den * E0 ^ a * E1 ^ b * E2 ^ c) (r.num.natAbs * M0 ^ a * M1 ^ b * M2 ^ c) (1 * K0 ^ a * K1 ^ b * K2 ^ c) v:=by
  unfold Cin.mul3 at h
  obtain ⟨u,hu,h⟩:=Option.bind_eq_some_iff.1 h
  obtain ⟨x,hx,h⟩:=Option.bind_eq_some_iff.1 h
  exact (((PB.const r).mulN h0 hu).mulN h1 hx).mulN h2 h
theorem wt_of_fit {B:Nat} (hB:0 < B):∀ {p:PolyL},FitP (fun q=>q.num.natAbs < B∧q.den < B) p→∃ D,0 < D∧D≤B ^ p.length∧WtP D p (p.length * B ^ p.length)
  | [],_=>⟨1,by omega,by simp,trivial⟩
  | x::p,h=>by
    obtain ⟨D,h1,h2,h3⟩:=wt_of_fit hB (p:=p) fun y hy=>h y (List.mem_cons_of_mem _ hy)
    have hx:=h x List.mem_cons_self
    refine ⟨D * x.2.den,Nat.mul_pos h1 x.2.den_pos,?_,x.2.num * D,p.length * B ^ p.length * x.2.den,?_,?_,h3.scale _⟩
    · rw [List.length_cons,Nat.pow_succ]; exact Nat.mul_le_mul h2 (by omega)
    · rw [Rat.natCast_mul,Rat.intCast_mul,← den_num]
      rw [show (x.2 * (x.2.den:Rat):Rat)=x.2 * (x.2.den:Rat) from rfl]
      have:((D:Int):Rat)=((D:Nat):Rat):=rfl
      rw [this]; grind
    · rw [Int.natAbs_mul,List.length_cons,Nat.pow_succ,Nat.add_mul,Nat.add_comm,Nat.one_mul,← Nat.mul_assoc]
      refine Nat.add_le_add ?_ ?_
      · exact Nat.mul_le_mul_left _ (by omega)
      · rw [Nat.mul_comm]; exact Nat.mul_le_mul (by simpa using h2) (by omega)
def exV (i:Int) (m:M):Nat:=if i=0 then m.1 else if i=1 then m.2.1 else m.2.2
def decM (i:Int) (m:M):M:=if i=0 then (m.1 - 1,m.2.1,m.2.2) else if i=1 then (m.1,m.2.1 - 1,m.2.2) else (m.1,m.2.1,m.2.2 - 1)
def dterm (i:Int) (x:M × Rat):PolyL:=if 0 < exV i x.1 then [(decM i x.1,x.2 * ((exV i x.1:Int):Rat))] else []
def dterms (i:Int) (p:PolyL):PolyL:=p.flatMap (dterm i)
theorem exV_ok {i:Int} {m:M} (h:m.ok):exV i m≤255:=by obtain ⟨h0,h1,h2⟩:=h; unfold exV; (repeat' split) <;> assumption
theorem decM_ok {i:Int} {m:M} (h:m.ok):(decM i m).ok:=by obtain ⟨h0,h1,h2⟩:=h; unfold decM; (repeat' split) <;> refine ⟨?_,?_,?_⟩ <;> simp only [] <;> omega
theorem dterms_ok {i:Int} {p:PolyL} (h:OkP p):OkP (dterms i p):=fun x hx=>by
  obtain ⟨y,hy,hx⟩:=List.mem_flatMap.1 hx
  unfold dterm at hx
  split at hx
  · rw [List.mem_singleton.1 hx]; exact decM_ok (h y hy)
  · cases hx
theorem dterms_len (i:Int) (p:PolyL):(dterms i p).length≤p.length:=by
  induction p with
  | nil=>simp [dterms]
  | cons x p ih=>
    have e:dterms i (x::p)=dterm i x++dterms i p:=rfl
    rw [e,List.length_append,List.length_cons]
    have:(dterm i x).length≤1:=by unfold dterm; split <;> simp
    omega
theorem WtP.diff {D:Nat} {i:Int}:∀ {p:PolyL} {N:Nat},OkP p→WtP D p N→WtP D (dterms i p) (N * 255)
  | [],_,_,_=>trivial
  | x::p,N,ho,⟨a,n,h1,h2,h3⟩=>by
    have e:dterms i (x::p)=dterm i x++dterms i p:=rfl
    have hx:=exV_ok (i:=i) (ho x List.mem_cons_self)
    have ih:=WtP.diff (i:=i) (fun y hy=>ho y (List.mem_cons_of_mem _ hy)) h3
    rw [e]
    unfold dterm
    split
    · refine ⟨a * (exV i x.1:Int),n * 255,?_,?_,ih⟩
      · simp only []
        rw [Rat.intCast_mul,← h1]; grind
      · rw [Int.natAbs_mul,Int.natAbs_natCast]
        refine Nat.le_trans (Nat.add_le_add_right (Nat.mul_le_mul_left _ hx) _) ?_
        rw [← Nat.add_mul]; exact Nat.mul_le_mul_right _ h2
    · exact ih.mono (Nat.mul_le_mul_right _ (by omega))
theorem PB.diff {D N L:Nat} {p:PolyL} (i:Int) (h:PB D N L p):PB D (N * 255) L (dterms i p):=⟨h.pos,h.wt.diff h.ok,dterms_ok h.ok,Nat.le_trans (dterms_len i p) h.len⟩
def maxP (f:M→Int) (n:Int) (p:PolyL):Int:=p.foldl (fun a t=>max a (f t.1)) n
theorem maxP_rng {f:M→Int} {n hi:Int} (h0:n≤hi):∀ {p:PolyL},(∀ t∈p,f t.1≤hi)→n≤maxP f n p∧maxP f n p≤hi:=by
  intro p
  induction p generalizing n with
  | nil=>exact fun _=>⟨Int.le_refl _,h0⟩
  | cons t p ih=>
    intro h
    have ht:=h t List.mem_cons_self
    have:=ih (n:=max n (f t.1)) (by omega) fun y hy=>h y (List.mem_cons_of_mem _ hy)
    have e:maxP f n (t::p)=maxP f (max n (f t.1)) p:=rfl
    rw [e]; omega
end Cin

namespace Go.Proofs.YthffkbbcofbceaaGreatDoor
open Go Go.RowKit Cin
theorem ConvS.lim {p:Pd} {a b:List AV} (h:ConvS a b):ConvS (.ro true p::a) (.ro false p::b):=fun B w _ _ ⟨c1,c2,o1,o2,e,e2,⟨h1,h3⟩,h2⟩=>⟨c1,c2,o1,o2,e,e2,⟨p.lim h1,h3⟩,h B w _ _ h2⟩
theorem ConvS.trans {a b c:List AV} (h:ConvS a b) (h':ConvS b c):ConvS a c:=fun B w _ _ k=>h' B w _ _ (h B w _ _ k)
def FitAll (k:Nat) (p q:PolyL):Prop:=∀ l,l <+: q→FitP (fitQ k) (addP p l)∧(addP p l).length≤900000
theorem PB.fit {D N L k:Nat} {p:PolyL} (h:PB D N L p) (hD:D < pw k) (hN:N < pw k):FitP (fitQ k) p:=h.wt.fit h.pos hD hN
end Go.Proofs.YthffkbbcofbceaaGreatDoor

namespace Go.Proofs.YthffkbbcofbceaaGreatDoor
open Go Go.RowKit Cin
theorem cvN {P:Program} {ty s d:TypeId} {vs:List Value} {p:Operand} {x:Int} {us:TypeDesc} (hs:P.underlying s=some us) (hd:P.underlying d=some (.int .u64)) (hp:pe vs p=.int .i64 x) (h0:0≤x) (h1:x≤4294967296):PrimOk P (.convert s d p) ty vs (.int .u64 x):=fun w=>by
  have e:IntKind.u64.wrap x=x:=by
    show (x % (2 ^ 64:Int))=x
    omega
  simp only [execOp,hp]
  simp [convert,run_underlying hs,run_underlying hd,Conv.intToInt,e]
end Go.Proofs.YthffkbbcofbceaaGreatDoor

namespace Go.Proofs.YthffkbbcofbceaaGreatDoor
open Go Go.RowKit Cin
theorem Ct.pre {P:Program} {J:Jd} {f:FuncId} {shI:List (Option Nat)} {asx asy:List (List Pd)} {sh:List (Option Nat)} {rs:(Nat→Nat)→List AV} (h:Ct P J f shI asx sh rs) (hc:∀ l w E,ArgsR l w shI asy E→ArgsR l w shI asx E):Ct P J f shI asy sh rs:=fun w0 E hX hJ hA=>h w0 E hX hJ (hc _ _ _ hA)
def varP (i:Int):PolyL:=if i=0 then [((1,0,0),1)] else if i=1 then [((0,1,0),1)] else if i=2 then [((0,0,1),1)] else []
section pmul
variable {p q:PolyL} {i k:Nat} {x y:M × Rat}
theorem all_snoc {α:Type} {l:List α} {f:α→Bool} {i:Nat} {x:α} (hx:l[i]?=some x) (h:(l.take i).all f=true) (h':f x=true):(l.take (i+1)).all f=true:=by
  rw [take_snoc hx,List.all_append,h]; simp [h']
end pmul
end Go.Proofs.YthffkbbcofbceaaGreatDoor

namespace Go.Proofs.YthffkbbcofbceaaGreatDoor
open Go Go.RowKit Cin
theorem cmpR_self (x:Rat):cmpQ x x=0:=by unfold cmpQ; rw [if_neg Rat.lt_irrefl,if_neg Rat.lt_irrefl]
theorem cmpR_eq {x y:Rat} (h:cmpQ x y=0):x=y:=by
  unfold cmpQ at h
  split at h
  · cases h
  · split at h
    · cases h
    · exact Rat.le_antisymm (Rat.not_lt.1 (by assumption)) (Rat.not_lt.1 (by assumption))
def topP (i:Int) (p:PolyL):Int:=if 0≤i∧i < 3 then maxP (fun m=>(exV i m:Nat)) 0 p else 0
end Go.Proofs.YthffkbbcofbceaaGreatDoor

namespace Go.Proofs.YthffkbbcofbceaaGreatDoor
open Go Go.RowKit Cin
structure StepOk (k:Nat) (v q:PolyL):Prop where
  fit:FitP (fitQ k) (prods v q)
  all:FitAll k [] (prods v q)
  len:v.length≤900000
  ok:OkP v
section mul3
variable {r:Rat} {l0 l1 l2:PolyL} {a b c:Nat} {v:PolyL}
end mul3
structure CompOk (k:Nat) (p l0 l1 l2:PolyL):Prop where
  cst:∀ x∈p,fitQ k x.2
  s0:∀ x∈p,∀ a v,a < x.1.1→mul3 x.2 l0 l1 l2 a 0 0=some v→StepOk k v l0
  s1:∀ x∈p,∀ b v,b < x.1.2.1→mul3 x.2 l0 l1 l2 x.1.1 b 0=some v→StepOk k v l1
  s2:∀ x∈p,∀ c v,c < x.1.2.2→mul3 x.2 l0 l1 l2 x.1.1 x.1.2.1 c=some v→StepOk k v l2
  sum:∀ (n:Nat) x o v,p[n]?=some x→compP (p.take n) l0 l1 l2=some o→mul3 x.2 l0 l1 l2 x.1.1 x.1.2.1 x.1.2.2=some v→FitAll k o v∧OkP o∧OkP v∧v.length≤1000000
end Go.Proofs.YthffkbbcofbceaaGreatDoor

namespace Cin
open Go Go.RowKit
theorem nodup_len:∀ (n:Nat) (l:List Nat),l.Nodup→(∀ x∈l,x < n)→l.length≤n
  | 0,[],_,_=>Nat.le_refl _
  | 0,x::_,_,h=>by have:=h x List.mem_cons_self; omega
  | n+1,l,hn,h=>by
    by_cases hm:n∈l
    · have h1:=nodup_len n (l.erase n) (hn.erase n) fun x hx=>by
        have:=(hn.mem_erase_iff).1 hx
        have:=h x this.2
        omega
      rw [List.length_erase_of_mem hm] at h1
      omega
    · have:=nodup_len n l hn fun x hx=>by
        have h1:=h x hx
        have h2:x≠n:=fun e=>hm (e ▸ hx)
        omega
      omega
def Rise:List M→Prop
  | []=>True
  | [_]=>True
  | a::b::l=>mc a b < 0∧Rise (b::l)
theorem Rise.tl {a:M} {l:List M} (h:Rise (a::l)):Rise l:=by cases l with
  | nil=>trivial
  | cons b l=>exact h.2
theorem mc_lt_trans {a b c:M} (ha:a.ok) (hb:b.ok) (hc:c.ok) (h1:mc a b < 0) (h2:mc b c < 0):mc a c < 0:=by
  rw [mc_key ha hb,sgI_lt] at h1
  rw [mc_key hb hc,sgI_lt] at h2
  rw [mc_key ha hc,sgI_lt]
  omega
theorem Rise.lt {a:M}:∀ {l:List M},Rise (a::l)→a.ok→(∀ x∈l,x.ok)→∀ x∈l,mc a x < 0
  | [],_,_,_,x,hx=>by cases hx
  | b::l,⟨h1,h2⟩,ha,hl,x,hx=>by
    have hb:=hl b List.mem_cons_self
    rcases List.mem_cons.1 hx with rfl | hx
    · exact h1
    · have hl':∀ y∈l,y.ok:=fun y hy=>hl y (List.mem_cons_of_mem _ hy)
      exact mc_lt_trans ha hb (hl' x hx) h1 (Rise.lt h2 hb hl' x hx)
def codeM (a:M):Nat:=a.1 * 65536+a.2.1 * 256+a.2.2
theorem codeM_inj {a b:M} (ha:a.ok) (hb:b.ok) (h:codeM a=codeM b):a=b:=by
  obtain ⟨h0,h1,h2⟩:=ha
  obtain ⟨k0,k1,k2⟩:=hb
  obtain ⟨a0,a1,a2⟩:=a
  obtain ⟨b0,b1,b2⟩:=b
  unfold codeM at h
  simp only [] at h h0 h1 h2 k0 k1 k2
  have e0:a0=b0:=by omega
  subst e0
  have e1:a1=b1:=by omega
  subst e1
  have e2:a2=b2:=by omega
  subst e2
  rfl
theorem rise_nodup:∀ {l:List M},Rise l→(∀ x∈l,x.ok)→(l.map codeM).Nodup
  | [],_,_=>List.nodup_nil
  | a::l,h,hl=>by
    have ha:=hl a List.mem_cons_self
    have hl':∀ y∈l,y.ok:=fun y hy=>hl y (List.mem_cons_of_mem _ hy)
    rw [List.map_cons,List.nodup_cons]
    refine ⟨fun hm=>?_,rise_nodup h.tl hl'⟩
    obtain ⟨b,hb,e⟩:=List.mem_map.1 hm
    have:=h.lt ha hl' b hb
    rw [codeM_inj (hl' b hb) ha e,(mc_zero ha ha).2 rfl] at this
    omega
theorem rise_len {l:List M} (h:Rise l) (hl:∀ x∈l,x.ok):l.length≤16777216:=by
  have:=nodup_len 16777216 (l.map codeM) (rise_nodup h hl) fun x hx=>by
    obtain ⟨a,ha,rfl⟩:=List.mem_map.1 hx
    obtain ⟨h0,h1,h2⟩:=hl a ha
    unfold codeM; omega
  simpa using this
theorem Rise.snoc {b:M}:∀ {l:List M},Rise l→(∀ a,l.getLast?=some a→mc a b < 0)→Rise (l++[b])
  | [],_,_=>trivial
  | [a],_,h=>⟨h a rfl,trivial⟩
  | a::c::l,⟨h1,h2⟩,h=>⟨h1,Rise.snoc (l:=c::l) h2 fun x hx=>h x (by simpa using hx)⟩
theorem Rise.pre:∀ {l k:List M},Rise (l++k)→Rise l
  | [],_,_=>trivial
  | [_],_,_=>trivial
  | _::c::l,k,⟨h1,h2⟩=>⟨h1,Rise.pre (l:=c::l) (k:=k) h2⟩
theorem Rise.at:∀ {l:List M} {i:Nat} {a b:M},Rise l→l[i]?=some a→l[i+1]?=some b→mc a b < 0
  | [],_,_,_,_,h,_=>by simp at h
  | [_],i,_,_,_,_,h=>by simp at h
  | x::y::l,0,a,b,⟨h1,_⟩,h,h'=>by simp at h h'; subst h h'; exact h1
  | x::y::l,i+1,a,b,⟨_,h2⟩,h,h'=>Rise.at (l:=y::l) h2 (by simpa using h) (by simpa using h')
end Cin
