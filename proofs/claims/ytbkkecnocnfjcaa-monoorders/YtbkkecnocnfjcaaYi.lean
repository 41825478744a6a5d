/- Contracts of package mono, and of the document's monomials. -/
import Derived.Test.YtbkkecnocnfjcaaYh
import Derived.Test.YtbkkecnocnfjcaaChecked
namespace Go.Proofs.Ytbkkecnocnfjcaa
open Go Go.RowKit Cin
theorem mMix : Try.prog.follows .mixedOrders = true := by kernel_rfl
abbrev DM : TypeId → Bool := fun t => t == 5
theorem uM : Try.prog.underlying 23 = some (.array 3 5) := by kernel_rfl
theorem uU : Try.prog.underlying 5 = some (.int .u8) := by kernel_rfl
theorem uI : Try.prog.underlying 3 = some (.int .i64) := by kernel_rfl
theorem iU : Try.prog.info? 5 = some (Try.prog.info? 5).get! := by kernel_rfl
theorem gM : Try.prog.eqGuardType Try.prog.depth 23 = false := by kernel_rfl
theorem nanI_ct (x : Int) : Ct Try.prog J0 23 [none] [[pV (.int .i64 x)]] [none] (fun _ => [.ro false (pV (.bool false))]) := by
  refine aCtO ⟨true, []⟩ (D := DM) mMix (tr := (.em (.pr (.binOp .neq 3 (.tmp 0) (.tmp 1) 3) 4 [.s (.c 0 0), .s (.c 0 0)]) (.ret (.v (.s (.c 1 0)))))) (by kernel_rfl) (by kernel_rfl) (by kernel_rfl) rfl (fun _ _ h => by cases h) (fun w0 => ?_)
  refine aPr rfl (prNe rfl rfl) rfl ?_
  exact aRet (fun _ => 0) rfl rfl (by simp [AV.new])
theorem nanU_ct (x : Int) : Ct Try.prog J0 24 [none] [[pV (.int .u8 x)]] [none] (fun _ => [.ro false (pV (.bool false))]) := by
  refine aCtO ⟨true, []⟩ (D := DM) mMix (tr := (.em (.pr (.binOp .neq 5 (.tmp 0) (.tmp 1) 5) 4 [.s (.c 0 0), .s (.c 0 0)]) (.ret (.v (.s (.c 1 0)))))) (by kernel_rfl) (by kernel_rfl) (by kernel_rfl) rfl (fun _ _ h => by cases h) (fun w0 => ?_)
  refine aPr rfl (prNe rfl rfl) rfl ?_
  exact aRet (fun _ => 0) rfl rfl (by simp [AV.new])
theorem cmpI_ct (x y : Int) : Ct Try.prog J0 20 [none, none] [[pV (.int .i64 x)], [pV (.int .i64 y)]] [none] (fun _ => [.ro false (pV (.int .i64 (sgI x y)))]) := by
  refine aCtO ⟨true, []⟩ (D := DM) mMix (tr := (.em (.call 23 [.s (.c 0 0)] [none]) (.em (.call 23 [.s (.c 1 0)] [none]) (.cond (.c 2 0) (.cond (.c 3 0) (.ret (.v (.s (.k (.int .i64 0))))) (.ret (.v (.s (.k (.int .i64 (Int.negSucc 0))))))) (.cond (.c 3 0) (.ret (.v (.s (.k (.int .i64 1))))) (.em (.pr (.binOp .lss 3 (.tmp 0) (.tmp 1) 3) 4 [.s (.c 0 0), .s (.c 1 0)]) (.cond (.c 4 0) (.ret (.v (.s (.k (.int .i64 (Int.negSucc 0)))))) (.em (.pr (.binOp .gtr 3 (.tmp 0) (.tmp 1) 3) 4 [.s (.c 0 0), .s (.c 1 0)]) (.cond (.c 5 0) (.ret (.v (.s (.k (.int .i64 1))))) (.ret (.v (.s (.k (.int .i64 0)))))))))))))) (by kernel_rfl) (by kernel_rfl) (by kernel_rfl) rfl (fun _ _ h => by cases h) (fun w0 => ?_)
  refine aCall rfl (nanI_ct _) (fun γ => ?_)
  refine aCall rfl (nanI_ct _) (fun γ => ?_)
  refine aFalse rfl ?_
  refine aFalse rfl ?_
  refine aPr rfl (prLt rfl rfl) rfl ?_
  refine aIf rfl (fun h => ?_) (fun h => ?_)
  · exact aRet (fun _ => 0) rfl rfl (by simp at h; simp [AV.new, sgI, h])
  refine aPr rfl (prGt rfl rfl) rfl ?_
  refine aIf rfl (fun h1 => ?_) (fun h1 => ?_)
  · exact aRet (fun _ => 0) rfl rfl (by simp at h h1; simp [AV.new, sgI, h1, Int.not_lt.2 h])
  · exact aRet (fun _ => 0) rfl rfl (by simp at h h1; simp [AV.new, sgI, Int.not_lt.2 h, Int.not_lt.2 h1])
theorem cmpU_ct (x y : Int) : Ct Try.prog J0 21 [none, none] [[pV (.int .u8 x)], [pV (.int .u8 y)]] [none] (fun _ => [.ro false (pV (.int .i64 (sgI x y)))]) := by
  refine aCtO ⟨true, []⟩ (D := DM) mMix (tr := (.em (.call 24 [.s (.c 0 0)] [none]) (.em (.call 24 [.s (.c 1 0)] [none]) (.cond (.c 2 0) (.cond (.c 3 0) (.ret (.v (.s (.k (.int .i64 0))))) (.ret (.v (.s (.k (.int .i64 (Int.negSucc 0))))))) (.cond (.c 3 0) (.ret (.v (.s (.k (.int .i64 1))))) (.em (.pr (.binOp .lss 5 (.tmp 0) (.tmp 1) 5) 4 [.s (.c 0 0), .s (.c 1 0)]) (.cond (.c 4 0) (.ret (.v (.s (.k (.int .i64 (Int.negSucc 0)))))) (.em (.pr (.binOp .gtr 5 (.tmp 0) (.tmp 1) 5) 4 [.s (.c 0 0), .s (.c 1 0)]) (.cond (.c 5 0) (.ret (.v (.s (.k (.int .i64 1))))) (.ret (.v (.s (.k (.int .i64 0)))))))))))))) (by kernel_rfl) (by kernel_rfl) (by kernel_rfl) rfl (fun _ _ h => by cases h) (fun w0 => ?_)
  refine aCall rfl (nanU_ct _) (fun γ => ?_)
  refine aCall rfl (nanU_ct _) (fun γ => ?_)
  refine aFalse rfl ?_
  refine aFalse rfl ?_
  refine aPr rfl (prLt rfl rfl) rfl ?_
  refine aIf rfl (fun h => ?_) (fun h => ?_)
  · exact aRet (fun _ => 0) rfl rfl (by simp at h; simp [AV.new, sgI, h])
  refine aPr rfl (prGt rfl rfl) rfl ?_
  refine aIf rfl (fun h1 => ?_) (fun h1 => ?_)
  · exact aRet (fun _ => 0) rfl rfl (by simp at h h1; simp [AV.new, sgI, h1, Int.not_lt.2 h])
  · exact aRet (fun _ => 0) rfl rfl (by simp at h h1; simp [AV.new, sgI, Int.not_lt.2 h, Int.not_lt.2 h1])
theorem deg_ct (a : M) (ha : a.ok) : Ct Try.prog J0 11 [some 3] [mV a] [none] (fun _ => [.ro false (pV (.int .i64 (dg a : Nat)))]) := by
  obtain ⟨h0, h1, h2⟩ := ha
  refine aCtO ⟨true, []⟩ (D := DM) mMix (tr := (.em (.pr (.convert 5 3 (.tmp 0)) 3 [.s (.c 0 0)]) (.em (.pr (.binOp .add 3 (.tmp 0) (.tmp 1) 3) 3 [.s (.k (.int .i64 0)), .s (.c 1 0)]) (.em (.pr (.convert 5 3 (.tmp 0)) 3 [.s (.c 0 1)]) (.em (.pr (.binOp .add 3 (.tmp 0) (.tmp 1) 3) 3 [.s (.c 2 0), .s (.c 3 0)]) (.em (.pr (.convert 5 3 (.tmp 0)) 3 [.s (.c 0 2)]) (.em (.pr (.binOp .add 3 (.tmp 0) (.tmp 1) 3) 3 [.s (.c 4 0), .s (.c 5 0)]) (.ret (.v (.s (.c 6 0))))))))))) (by kernel_rfl) (by kernel_rfl) (by kernel_rfl) rfl (fun _ _ h => by cases h) (fun w0 => ?_)
  refine aPr rfl (cvU uU uI rfl (by omega) (by omega)) rfl ?_
  refine aPr rfl (qAddE (z := (a.1 : Nat)) rfl rfl (by omega) (by omega) (by omega)) rfl ?_
  refine aPr rfl (cvU uU uI rfl (by omega) (by omega)) rfl ?_
  refine aPr rfl (qAddE (z := (a.1 + a.2.1 : Nat)) rfl rfl (by omega) (by omega) (by omega)) rfl ?_
  refine aPr rfl (cvU uU uI rfl (by omega) (by omega)) rfl ?_
  refine aPr rfl (qAddE (z := (dg a : Nat)) rfl rfl (by unfold dg; omega) (by omega) (by unfold dg; omega)) rfl ?_
  exact aRet (fun _ => 0) rfl rfl rfl
theorem rdeg_ct (a : M) (ha : a.ok) : Ct Try.prog J0 12 [some 3] [mV a] [none] (fun _ => [.ro false (pV (.int .i64 (dg a : Nat)))]) := by
  obtain ⟨h0, h1, h2⟩ := ha
  refine aCtO ⟨true, []⟩ (D := DM) mMix (tr := (.em (.pr (.convert 5 3 (.tmp 0)) 3 [.s (.c 0 0)]) (.em (.pr (.convert 5 3 (.tmp 0)) 3 [.s (.c 0 1)]) (.em (.pr (.binOp .add 3 (.tmp 0) (.tmp 1) 3) 3 [.s (.c 1 0), .s (.c 2 0)]) (.em (.pr (.convert 5 3 (.tmp 0)) 3 [.s (.c 0 2)]) (.em (.pr (.binOp .add 3 (.tmp 0) (.tmp 1) 3) 3 [.s (.c 3 0), .s (.c 4 0)]) (.ret (.v (.s (.c 5 0)))))))))) (by kernel_rfl) (by kernel_rfl) (by kernel_rfl) rfl (fun _ _ h => by cases h) (fun w0 => ?_)
  refine aPr rfl (cvU uU uI rfl (by omega) (by omega)) rfl ?_
  refine aPr rfl (cvU uU uI rfl (by omega) (by omega)) rfl ?_
  refine aPr rfl (qAddE (z := (a.1 + a.2.1 : Nat)) rfl rfl (by omega) (by omega) (by omega)) rfl ?_
  refine aPr rfl (cvU uU uI rfl (by omega) (by omega)) rfl ?_
  refine aPr rfl (qAddE (z := (dg a : Nat)) rfl rfl (by unfold dg; omega) (by omega) (by unfold dg; omega)) rfl ?_
  exact aRet (fun _ => 0) rfl rfl rfl
theorem vars_ct (a : M) : Ct Try.prog J0 13 [some 3] [mV a] [none] (fun _ => [.ro false (pV (.int .i64 (vr a : Nat)))]) := by
  refine aCtO ⟨true, []⟩ (D := DM) mMix (tr := (.em (.pr (.binOp .eql 5 (.tmp 0) (.const (.int .u8 0)) 5) 4 [.s (.c 0 2), .s (.k (.int .u8 0))]) (.cond (.c 1 0) (.em (.pr (.binOp .eql 5 (.tmp 0) (.const (.int .u8 0)) 5) 4 [.s (.c 0 1), .s (.k (.int .u8 0))]) (.cond (.c 2 0) (.em (.pr (.binOp .eql 5 (.tmp 0) (.const (.int .u8 0)) 5) 4 [.s (.c 0 0), .s (.k (.int .u8 0))]) (.cond (.c 3 0) (.ret (.v (.s (.k (.int .i64 0))))) (.ret (.v (.s (.k (.int .i64 1))))))) (.ret (.v (.s (.k (.int .i64 2))))))) (.ret (.v (.s (.k (.int .i64 3)))))))) (by kernel_rfl) (by kernel_rfl) (by kernel_rfl) rfl (fun _ _ h => by cases h) (fun w0 => ?_)
  refine aPr rfl (prEq rfl rfl) rfl ?_
  refine aIf rfl (fun h => ?_) (fun h => ?_)
  · refine aPr rfl (prEq rfl rfl) rfl ?_
    refine aIf rfl (fun h1 => ?_) (fun h1 => ?_)
    · refine aPr rfl (prEq rfl rfl) rfl ?_
      refine aIf rfl (fun h2 => ?_) (fun h2 => ?_)
      · exact aRet (fun _ => 0) rfl rfl (by simp at h h1 h2; simp [AV.new, vr, h, h1, h2])
      · exact aRet (fun _ => 0) rfl rfl (by simp at h h1 h2; simp [AV.new, vr, h, h1, h2])
    · exact aRet (fun _ => 0) rfl rfl (by simp at h h1; simp [AV.new, vr, h, h1])
  · exact aRet (fun _ => 0) rfl rfl (by simp at h; simp [AV.new, vr, h])
theorem rvars_ct (a : M) : Ct Try.prog J0 14 [some 3] [mV a] [none] (fun _ => [.ro false (pV (.int .i64 (vr a : Nat)))]) := by
  refine aCtO ⟨true, []⟩ (D := DM) mMix (tr := (.em (.pr (.binOp .gtr 5 (.tmp 0) (.const (.int .u8 0)) 5) 4 [.s (.c 0 0), .s (.k (.int .u8 0))]) (.cond (.c 1 0) (.em (.pr (.binOp .gtr 5 (.tmp 0) (.const (.int .u8 0)) 5) 4 [.s (.c 0 1), .s (.k (.int .u8 0))]) (.cond (.c 2 0) (.em (.pr (.binOp .gtr 5 (.tmp 0) (.const (.int .u8 0)) 5) 4 [.s (.c 0 2), .s (.k (.int .u8 0))]) (.cond (.c 3 0) (.ret (.v (.s (.k (.int .i64 3))))) (.ret (.v (.s (.k (.int .i64 2))))))) (.em (.pr (.binOp .gtr 5 (.tmp 0) (.const (.int .u8 0)) 5) 4 [.s (.c 0 2), .s (.k (.int .u8 0))]) (.cond (.c 3 0) (.ret (.v (.s (.k (.int .i64 3))))) (.ret (.v (.s (.k (.int .i64 1))))))))) (.em (.pr (.binOp .gtr 5 (.tmp 0) (.const (.int .u8 0)) 5) 4 [.s (.c 0 1), .s (.k (.int .u8 0))]) (.cond (.c 2 0) (.em (.pr (.binOp .gtr 5 (.tmp 0) (.const (.int .u8 0)) 5) 4 [.s (.c 0 2), .s (.k (.int .u8 0))]) (.cond (.c 3 0) (.ret (.v (.s (.k (.int .i64 3))))) (.ret (.v (.s (.k (.int .i64 2))))))) (.em (.pr (.binOp .gtr 5 (.tmp 0) (.const (.int .u8 0)) 5) 4 [.s (.c 0 2), .s (.k (.int .u8 0))]) (.cond (.c 3 0) (.ret (.v (.s (.k (.int .i64 3))))) (.ret (.v (.s (.k (.int .i64 0)))))))))))) (by kernel_rfl) (by kernel_rfl) (by kernel_rfl) rfl (fun _ _ h => by cases h) (fun w0 => ?_)
  refine aPr rfl (prGt rfl rfl) rfl ?_
  refine aIf rfl (fun h => ?_) (fun h => ?_) <;> refine aPr rfl (prGt rfl rfl) rfl ?_ <;> refine aIf rfl (fun h1 => ?_) (fun h1 => ?_) <;> refine aPr rfl (prGt rfl rfl) rfl ?_ <;> refine aIf rfl (fun h2 => ?_) (fun h2 => ?_)
  all_goals exact aRet (fun _ => 0) rfl rfl (by simp at h h1 h2; simp [AV.new, vr]; (repeat' split) <;> first | rfl | omega)
theorem mcmp_ct (a b : M) (ha : a.ok) (hb : b.ok) : Ct Try.prog J0 15 [some 3, some 3] [mV a, mV b] [none] (fun _ => [.ro false (pV (.int .i64 (mc a b)))]) := by
  refine aCtO ⟨true, []⟩ (D := DM) mMix (tr := (.em (.call 11 [.g [.c 0 0, .c 0 1, .c 0 2]] [none]) (.em (.call 11 [.g [.c 1 0, .c 1 1, .c 1 2]] [none]) (.em (.call 20 [.s (.c 2 0), .s (.c 3 0)] [none]) (.em (.pr (.binOp .neq 3 (.tmp 0) (.const (.int .i64 0)) 3) 4 [.s (.c 4 0), .s (.k (.int .i64 0))]) (.cond (.c 5 0) (.ret (.v (.s (.c 4 0)))) (.em (.call 21 [.s (.c 0 0), .s (.c 1 0)] [none]) (.em (.pr (.binOp .neq 3 (.tmp 0) (.const (.int .i64 0)) 3) 4 [.s (.c 6 0), .s (.k (.int .i64 0))]) (.cond (.c 7 0) (.ret (.v (.s (.c 6 0)))) (.em (.call 21 [.s (.c 0 1), .s (.c 1 1)] [none]) (.em (.pr (.binOp .neq 3 (.tmp 0) (.const (.int .i64 0)) 3) 4 [.s (.c 8 0), .s (.k (.int .i64 0))]) (.cond (.c 9 0) (.ret (.v (.s (.c 8 0)))) (.em (.call 21 [.s (.c 0 2), .s (.c 1 2)] [none]) (.em (.pr (.binOp .neq 3 (.tmp 0) (.const (.int .i64 0)) 3) 4 [.s (.c 10 0), .s (.k (.int .i64 0))]) (.cond (.c 11 0) (.ret (.v (.s (.c 10 0)))) (.ret (.v (.s (.k (.int .i64 0)))))))))))))))))))) (by kernel_rfl) (by kernel_rfl) (by kernel_rfl) rfl (fun _ _ h => by cases h) (fun w0 => ?_)
  refine aCall rfl (deg_ct a ha) (fun γ => ?_)
  refine aCall rfl (deg_ct b hb) (fun γ => ?_)
  refine aCall rfl (cmpI_ct _ _) (fun γ => ?_)
  refine aPr rfl (prNe rfl rfl) rfl ?_
  refine aIf rfl (fun h => ?_) (fun h => ?_)
  · exact aRet (fun _ => 0) rfl rfl (by simp at h; simp [AV.new, mc, h])
  refine aCall rfl (cmpU_ct _ _) (fun γ => ?_)
  refine aPr rfl (prNe rfl rfl) rfl ?_
  refine aIf rfl (fun h1 => ?_) (fun h1 => ?_)
  · exact aRet (fun _ => 0) rfl rfl (by simp at h h1; simp [AV.new, mc, h, h1])
  refine aCall rfl (cmpU_ct _ _) (fun γ => ?_)
  refine aPr rfl (prNe rfl rfl) rfl ?_
  refine aIf rfl (fun h2 => ?_) (fun h2 => ?_)
  · exact aRet (fun _ => 0) rfl rfl (by simp at h h1 h2; simp [AV.new, mc, h, h1, h2])
  refine aCall rfl (cmpU_ct _ _) (fun γ => ?_)
  refine aPr rfl (prNe rfl rfl) rfl ?_
  refine aIf rfl (fun h3 => ?_) (fun h3 => ?_)
  · exact aRet (fun _ => 0) rfl rfl (by simp at h h1 h2; simp [AV.new, mc, h, h1, h2])
  · exact aRet (fun _ => 0) rfl rfl (by simp at h h1 h2 h3; simp [AV.new, mc, h, h1, h2, h3])
theorem divs_ct (a b : M) : Ct Try.prog J0 17 [some 3, some 3] [mV a, mV b] [none] (fun _ => [.ro false (pV (.bool (dv a b)))]) := by
  refine aCtO ⟨true, []⟩ (D := DM) mMix (tr := (.em (.pr (.binOp .gtr 5 (.tmp 0) (.tmp 1) 5) 4 [.s (.c 0 0), .s (.c 1 0)]) (.cond (.c 2 0) (.ret (.v (.s (.k (.bool false))))) (.em (.pr (.binOp .gtr 5 (.tmp 0) (.tmp 1) 5) 4 [.s (.c 0 1), .s (.c 1 1)]) (.cond (.c 3 0) (.ret (.v (.s (.k (.bool false))))) (.em (.pr (.binOp .gtr 5 (.tmp 0) (.tmp 1) 5) 4 [.s (.c 0 2), .s (.c 1 2)]) (.cond (.c 4 0) (.ret (.v (.s (.k (.bool false))))) (.ret (.v (.s (.k (.bool true)))))))))))) (by kernel_rfl) (by kernel_rfl) (by kernel_rfl) rfl (fun _ _ h => by cases h) (fun w0 => ?_)
  refine aPr rfl (prGt rfl rfl) rfl ?_
  refine aIf rfl (fun h => ?_) (fun h => ?_)
  · have e : dv a b = false := by simp at h; simp only [dv, Bool.and_eq_false_iff, decide_eq_false_iff_not]; omega
    exact aRet (fun _ => 0) rfl rfl (by simp [AV.new, e])
  refine aPr rfl (prGt rfl rfl) rfl ?_
  refine aIf rfl (fun h1 => ?_) (fun h1 => ?_)
  · have e : dv a b = false := by simp at h1; simp only [dv, Bool.and_eq_false_iff, decide_eq_false_iff_not]; omega
    exact aRet (fun _ => 0) rfl rfl (by simp [AV.new, e])
  refine aPr rfl (prGt rfl rfl) rfl ?_
  refine aIf rfl (fun h2 => ?_) (fun h2 => ?_)
  · have e : dv a b = false := by simp at h2; simp only [dv, Bool.and_eq_false_iff, decide_eq_false_iff_not]; omega
    exact aRet (fun _ => 0) rfl rfl (by simp [AV.new, e])
  · exact aRet (fun _ => 0) rfl rfl (by simp at h h1 h2; simp [AV.new, dv, h, h1, h2])
theorem mul_ct (a b : M) (ha : a.ok) (hb : b.ok) : Ct Try.prog J0 8 [some 3, some 3] [mV a, mV b] [some 3, none] (fun _ => (mV (mulM a b) ++ [pV (.bool (mulOk a b))]).map (.ro false)) := by
  obtain ⟨h0, h1, h2⟩ := ha
  obtain ⟨k0, k1, k2⟩ := hb
  refine aCtO ⟨true, []⟩ (D := DM) mMix (tr := (.em (.pr (.convert 5 3 (.tmp 0)) 3 [.s (.c 0 0)]) (.em (.pr (.convert 5 3 (.tmp 0)) 3 [.s (.c 1 0)]) (.em (.pr (.binOp .add 3 (.tmp 0) (.tmp 1) 3) 3 [.s (.c 2 0), .s (.c 3 0)]) (.em (.pr (.binOp .gtr 3 (.tmp 0) (.const (.int .i64 255)) 3) 4 [.s (.c 4 0), .s (.k (.int .i64 255))]) (.cond (.c 5 0) (.ret (.t [.g [.k (.int .u8 0), .k (.int .u8 0), .k (.int .u8 0)], .s (.k (.bool false))])) (.em (.pr (.binOp .add 5 (.tmp 0) (.tmp 1) 5) 5 [.s (.c 0 0), .s (.c 1 0)]) (.em (.pr (.convert 5 3 (.tmp 0)) 3 [.s (.c 0 1)]) (.em (.pr (.convert 5 3 (.tmp 0)) 3 [.s (.c 1 1)]) (.em (.pr (.binOp .add 3 (.tmp 0) (.tmp 1) 3) 3 [.s (.c 7 0), .s (.c 8 0)]) (.em (.pr (.binOp .gtr 3 (.tmp 0) (.const (.int .i64 255)) 3) 4 [.s (.c 9 0), .s (.k (.int .i64 255))]) (.cond (.c 10 0) (.ret (.t [.g [.k (.int .u8 0), .k (.int .u8 0), .k (.int .u8 0)], .s (.k (.bool false))])) (.em (.pr (.binOp .add 5 (.tmp 0) (.tmp 1) 5) 5 [.s (.c 0 1), .s (.c 1 1)]) (.em (.pr (.convert 5 3 (.tmp 0)) 3 [.s (.c 0 2)]) (.em (.pr (.convert 5 3 (.tmp 0)) 3 [.s (.c 1 2)]) (.em (.pr (.binOp .add 3 (.tmp 0) (.tmp 1) 3) 3 [.s (.c 12 0), .s (.c 13 0)]) (.em (.pr (.binOp .gtr 3 (.tmp 0) (.const (.int .i64 255)) 3) 4 [.s (.c 14 0), .s (.k (.int .i64 255))]) (.cond (.c 15 0) (.ret (.t [.g [.k (.int .u8 0), .k (.int .u8 0), .k (.int .u8 0)], .s (.k (.bool false))])) (.em (.pr (.binOp .add 5 (.tmp 0) (.tmp 1) 5) 5 [.s (.c 0 2), .s (.c 1 2)]) (.ret (.t [.g [.c 6 0, .c 11 0, .c 16 0], .s (.k (.bool true))]))))))))))))))))))))) (by kernel_rfl) (by kernel_rfl) (by kernel_rfl) rfl (fun _ _ h => by cases h) (fun w0 => ?_)
  refine aPr rfl (cvU uU uI rfl (by omega) (by omega)) rfl ?_
  refine aPr rfl (cvU uU uI rfl (by omega) (by omega)) rfl ?_
  refine aPr rfl (qAddE (z := (a.1 + b.1 : Nat)) rfl rfl (by omega) (by omega) (by omega)) rfl ?_
  refine aPr rfl (prGt rfl rfl) rfl ?_
  refine aIf rfl (fun e0 => ?_) (fun e0 => ?_)
  · have e : mulOk a b = false := by simp at e0; simp [mulOk]; omega
    exact aRet (fun _ => 0) rfl rfl (by simp [AV.new, mulM, e])
  simp only [decide_eq_false_iff_not, Int.not_lt] at e0
  refine aPr rfl (uAdd (z := (a.1 + b.1 : Nat)) rfl rfl (by omega) (by omega) (by omega)) rfl ?_
  refine aPr rfl (cvU uU uI rfl (by omega) (by omega)) rfl ?_
  refine aPr rfl (cvU uU uI rfl (by omega) (by omega)) rfl ?_
  refine aPr rfl (qAddE (z := (a.2.1 + b.2.1 : Nat)) rfl rfl (by omega) (by omega) (by omega)) rfl ?_
  refine aPr rfl (prGt rfl rfl) rfl ?_
  refine aIf rfl (fun e1 => ?_) (fun e1 => ?_)
  · have e : mulOk a b = false := by simp at e1; simp [mulOk]; omega
    exact aRet (fun _ => 0) rfl rfl (by simp [AV.new, mulM, e])
  simp only [decide_eq_false_iff_not, Int.not_lt] at e1
  refine aPr rfl (uAdd (z := (a.2.1 + b.2.1 : Nat)) rfl rfl (by omega) (by omega) (by omega)) rfl ?_
  refine aPr rfl (cvU uU uI rfl (by omega) (by omega)) rfl ?_
  refine aPr rfl (cvU uU uI rfl (by omega) (by omega)) rfl ?_
  refine aPr rfl (qAddE (z := (a.2.2 + b.2.2 : Nat)) rfl rfl (by omega) (by omega) (by omega)) rfl ?_
  refine aPr rfl (prGt rfl rfl) rfl ?_
  refine aIf rfl (fun e2 => ?_) (fun e2 => ?_)
  · have e : mulOk a b = false := by simp at e2; simp [mulOk]; omega
    exact aRet (fun _ => 0) rfl rfl (by simp [AV.new, mulM, e])
  simp only [decide_eq_false_iff_not, Int.not_lt] at e2
  refine aPr rfl (uAdd (z := (a.2.2 + b.2.2 : Nat)) rfl rfl (by omega) (by omega) (by omega)) rfl ?_
  have e : mulOk a b = true := by simp [mulOk]; omega
  exact aRet (fun _ => 0) rfl rfl (by simp [AV.new, mulM, e])
theorem rmul_ct (a b : M) (ha : a.ok) (hb : b.ok) : Ct Try.prog J0 9 [some 3, some 3] [mV a, mV b] [some 3, none] (fun _ => (mV (mulM a b) ++ [pV (.bool (mulOk a b))]).map (.ro false)) := by
  obtain ⟨h0, h1, h2⟩ := ha
  obtain ⟨k0, k1, k2⟩ := hb
  refine aCtO ⟨true, []⟩ (D := DM) mMix (tr := (.em (.pr (.convert 5 3 (.tmp 0)) 3 [.s (.c 0 0)]) (.em (.pr (.convert 5 3 (.tmp 0)) 3 [.s (.c 1 0)]) (.em (.pr (.binOp .add 3 (.tmp 0) (.tmp 1) 3) 3 [.s (.c 2 0), .s (.c 3 0)]) (.em (.pr (.binOp .gtr 3 (.tmp 0) (.const (.int .i64 255)) 3) 4 [.s (.c 4 0), .s (.k (.int .i64 255))]) (.cond (.c 5 0) (.ret (.t [.g [.k (.int .u8 0), .k (.int .u8 0), .k (.int .u8 0)], .s (.k (.bool false))])) (.em (.pr (.binOp .add 5 (.tmp 0) (.tmp 1) 5) 5 [.s (.c 0 0), .s (.c 1 0)]) (.em (.pr (.convert 5 3 (.tmp 0)) 3 [.s (.c 0 1)]) (.em (.pr (.convert 5 3 (.tmp 0)) 3 [.s (.c 1 1)]) (.em (.pr (.binOp .add 3 (.tmp 0) (.tmp 1) 3) 3 [.s (.c 7 0), .s (.c 8 0)]) (.em (.pr (.binOp .gtr 3 (.tmp 0) (.const (.int .i64 255)) 3) 4 [.s (.c 9 0), .s (.k (.int .i64 255))]) (.cond (.c 10 0) (.ret (.t [.g [.k (.int .u8 0), .k (.int .u8 0), .k (.int .u8 0)], .s (.k (.bool false))])) (.em (.pr (.binOp .add 5 (.tmp 0) (.tmp 1) 5) 5 [.s (.c 0 1), .s (.c 1 1)]) (.em (.pr (.convert 5 3 (.tmp 0)) 3 [.s (.c 0 2)]) (.em (.pr (.convert 5 3 (.tmp 0)) 3 [.s (.c 1 2)]) (.em (.pr (.binOp .add 3 (.tmp 0) (.tmp 1) 3) 3 [.s (.c 12 0), .s (.c 13 0)]) (.em (.pr (.binOp .gtr 3 (.tmp 0) (.const (.int .i64 255)) 3) 4 [.s (.c 14 0), .s (.k (.int .i64 255))]) (.cond (.c 15 0) (.ret (.t [.g [.k (.int .u8 0), .k (.int .u8 0), .k (.int .u8 0)], .s (.k (.bool false))])) (.em (.pr (.binOp .add 5 (.tmp 0) (.tmp 1) 5) 5 [.s (.c 0 2), .s (.c 1 2)]) (.ret (.t [.g [.c 6 0, .c 11 0, .c 16 0], .s (.k (.bool true))]))))))))))))))))))))) (by kernel_rfl) (by kernel_rfl) (by kernel_rfl) rfl (fun _ _ h => by cases h) (fun w0 => ?_)
  refine aPr rfl (cvU uU uI rfl (by omega) (by omega)) rfl ?_
  refine aPr rfl (cvU uU uI rfl (by omega) (by omega)) rfl ?_
  refine aPr rfl (qAddE (z := (a.1 + b.1 : Nat)) rfl rfl (by omega) (by omega) (by omega)) rfl ?_
  refine aPr rfl (prGt rfl rfl) rfl ?_
  refine aIf rfl (fun e0 => ?_) (fun e0 => ?_)
  · have e : mulOk a b = false := by simp at e0; simp [mulOk]; omega
    exact aRet (fun _ => 0) rfl rfl (by simp [AV.new, mulM, e])
  simp only [decide_eq_false_iff_not, Int.not_lt] at e0
  refine aPr rfl (uAdd (z := (a.1 + b.1 : Nat)) rfl rfl (by omega) (by omega) (by omega)) rfl ?_
  refine aPr rfl (cvU uU uI rfl (by omega) (by omega)) rfl ?_
  refine aPr rfl (cvU uU uI rfl (by omega) (by omega)) rfl ?_
  refine aPr rfl (qAddE (z := (a.2.1 + b.2.1 : Nat)) rfl rfl (by omega) (by omega) (by omega)) rfl ?_
  refine aPr rfl (prGt rfl rfl) rfl ?_
  refine aIf rfl (fun e1 => ?_) (fun e1 => ?_)
  · have e : mulOk a b = false := by simp at e1; simp [mulOk]; omega
    exact aRet (fun _ => 0) rfl rfl (by simp [AV.new, mulM, e])
  simp only [decide_eq_false_iff_not, Int.not_lt] at e1
  refine aPr rfl (uAdd (z := (a.2.1 + b.2.1 : Nat)) rfl rfl (by omega) (by omega) (by omega)) rfl ?_
  refine aPr rfl (cvU uU uI rfl (by omega) (by omega)) rfl ?_
  refine aPr rfl (cvU uU uI rfl (by omega) (by omega)) rfl ?_
  refine aPr rfl (qAddE (z := (a.2.2 + b.2.2 : Nat)) rfl rfl (by omega) (by omega) (by omega)) rfl ?_
  refine aPr rfl (prGt rfl rfl) rfl ?_
  refine aIf rfl (fun e2 => ?_) (fun e2 => ?_)
  · have e : mulOk a b = false := by simp at e2; simp [mulOk]; omega
    exact aRet (fun _ => 0) rfl rfl (by simp [AV.new, mulM, e])
  simp only [decide_eq_false_iff_not, Int.not_lt] at e2
  refine aPr rfl (uAdd (z := (a.2.2 + b.2.2 : Nat)) rfl rfl (by omega) (by omega) (by omega)) rfl ?_
  have e : mulOk a b = true := by simp [mulOk]; omega
  exact aRet (fun _ => 0) rfl rfl (by simp [AV.new, mulM, e])
theorem rmcmp_ct (a b : M) (ha : a.ok) (hb : b.ok) : Ct Try.prog J0 16 [some 3, some 3] [mV a, mV b] [none] (fun _ => [.ro false (pV (.int .i64 (mc a b)))]) := by
  refine aCtO ⟨true, []⟩ (D := DM) mMix (tr := (.em (.call 12 [.g [.c 0 0, .c 0 1, .c 0 2]] [none]) (.em (.call 12 [.g [.c 1 0, .c 1 1, .c 1 2]] [none]) (.em (.pr (.binOp .neq 3 (.tmp 0) (.tmp 1) 3) 4 [.s (.c 2 0), .s (.c 3 0)]) (.cond (.c 4 0) (.em (.call 12 [.g [.c 0 0, .c 0 1, .c 0 2]] [none]) (.em (.call 12 [.g [.c 1 0, .c 1 1, .c 1 2]] [none]) (.em (.pr (.binOp .lss 3 (.tmp 0) (.tmp 1) 3) 4 [.s (.c 5 0), .s (.c 6 0)]) (.cond (.c 7 0) (.ret (.v (.s (.k (.int .i64 (Int.negSucc 0)))))) (.ret (.v (.s (.k (.int .i64 1))))))))) (.em (.pr (.binOp .lss 5 (.tmp 0) (.tmp 1) 5) 4 [.s (.c 0 0), .s (.c 1 0)]) (.cond (.c 5 0) (.ret (.v (.s (.k (.int .i64 (Int.negSucc 0)))))) (.em (.pr (.binOp .gtr 5 (.tmp 0) (.tmp 1) 5) 4 [.s (.c 0 0), .s (.c 1 0)]) (.cond (.c 6 0) (.ret (.v (.s (.k (.int .i64 1))))) (.em (.pr (.binOp .lss 5 (.tmp 0) (.tmp 1) 5) 4 [.s (.c 0 1), .s (.c 1 1)]) (.cond (.c 7 0) (.ret (.v (.s (.k (.int .i64 (Int.negSucc 0)))))) (.em (.pr (.binOp .gtr 5 (.tmp 0) (.tmp 1) 5) 4 [.s (.c 0 1), .s (.c 1 1)]) (.cond (.c 8 0) (.ret (.v (.s (.k (.int .i64 1))))) (.em (.pr (.binOp .lss 5 (.tmp 0) (.tmp 1) 5) 4 [.s (.c 0 2), .s (.c 1 2)]) (.cond (.c 9 0) (.ret (.v (.s (.k (.int .i64 (Int.negSucc 0)))))) (.em (.pr (.binOp .gtr 5 (.tmp 0) (.tmp 1) 5) 4 [.s (.c 0 2), .s (.c 1 2)]) (.cond (.c 10 0) (.ret (.v (.s (.k (.int .i64 1))))) (.ret (.v (.s (.k (.int .i64 0)))))))))))))))))))))) (by kernel_rfl) (by kernel_rfl) (by kernel_rfl) rfl (fun _ _ h => by cases h) (fun w0 => ?_)
  refine aCall rfl (rdeg_ct a ha) (fun γ => ?_)
  refine aCall rfl (rdeg_ct b hb) (fun γ => ?_)
  refine aPr rfl (prNe rfl rfl) rfl ?_
  refine aIf rfl (fun h => ?_) (fun h => ?_)
  · refine aCall rfl (rdeg_ct a ha) (fun γ => ?_)
    refine aCall rfl (rdeg_ct b hb) (fun γ => ?_)
    refine aPr rfl (prLt rfl rfl) rfl ?_
    refine aIf rfl (fun h1 => ?_) (fun h1 => ?_)
    · exact aRet (fun _ => 0) rfl rfl (by simp at h h1; simp [AV.new, mc, sgI, h1])
    · exact aRet (fun _ => 0) rfl rfl (by
        simp at h h1
        have h2 : dg b < dg a := by omega
        simp [AV.new, mc, sgI, h2, Nat.not_lt.2 h1])
  have hd : dg a = dg b := by simp at h; omega
  refine aPr rfl (prLt rfl rfl) rfl ?_
  refine aIf rfl (fun h1 => ?_) (fun h1 => ?_)
  · exact aRet (fun _ => 0) rfl rfl (by simp at h1; simp [AV.new, mc, sgI, h1, hd])
  refine aPr rfl (prGt rfl rfl) rfl ?_
  refine aIf rfl (fun h2 => ?_) (fun h2 => ?_)
  · exact aRet (fun _ => 0) rfl rfl (by simp at h1 h2; simp [AV.new, mc, sgI, h2, Nat.not_lt.2 h1, hd])
  have d0 : a.1 = b.1 := by simp at h1 h2; omega
  refine aPr rfl (prLt rfl rfl) rfl ?_
  refine aIf rfl (fun h1 => ?_) (fun h1 => ?_)
  · exact aRet (fun _ => 0) rfl rfl (by simp at h1; simp [AV.new, mc, sgI, h1, hd, d0])
  refine aPr rfl (prGt rfl rfl) rfl ?_
  refine aIf rfl (fun h2 => ?_) (fun h2 => ?_)
  · exact aRet (fun _ => 0) rfl rfl (by simp at h1 h2; simp [AV.new, mc, sgI, h2, Nat.not_lt.2 h1, hd, d0])
  have d1 : a.2.1 = b.2.1 := by simp at h1 h2; omega
  refine aPr rfl (prLt rfl rfl) rfl ?_
  refine aIf rfl (fun h1 => ?_) (fun h1 => ?_)
  · exact aRet (fun _ => 0) rfl rfl (by simp at h1; simp [AV.new, mc, sgI, h1, hd, d0, d1])
  refine aPr rfl (prGt rfl rfl) rfl ?_
  refine aIf rfl (fun h2 => ?_) (fun h2 => ?_)
  · exact aRet (fun _ => 0) rfl rfl (by simp at h1 h2; simp [AV.new, mc, sgI, h2, Nat.not_lt.2 h1, hd, d0, d1])
  · exact aRet (fun _ => 0) rfl rfl (by simp at h1 h2; simp [AV.new, mc, sgI, Nat.not_lt.2 h1, Nat.not_lt.2 h2, hd, d0, d1])
theorem alive7_ct : Ct Try.prog J0 10 [] [] [none] (fun _ => [.ro false (pV (.bool true))]) := by
  refine aCtO ⟨true, []⟩ (D := DM) mMix (tr := (.em (.call 15 [.g [.k (.int .u8 0), .k (.int .u8 1), .k (.int .u8 0)], .g [.k (.int .u8 1), .k (.int .u8 0), .k (.int .u8 0)]] [none]) (.em (.pr (.binOp .eql 3 (.tmp 0) (.const (.int .i64 (Int.negSucc 0))) 3) 4 [.s (.c 0 0), .s (.k (.int .i64 (Int.negSucc 0)))]) (.cond (.c 1 0) (.em (.call 11 [.g [.k (.int .u8 1), .k (.int .u8 2), .k (.int .u8 3)]] [none]) (.em (.pr (.binOp .eql 3 (.tmp 0) (.const (.int .i64 6)) 3) 4 [.s (.c 2 0), .s (.k (.int .i64 6))]) (.ret (.v (.s (.c 3 0)))))) (.ret (.v (.s (.k (.bool false))))))))) (by kernel_rfl) (by kernel_rfl) (by kernel_rfl) rfl (fun _ _ h => by cases h) (fun w0 => ?_)
  refine aCall rfl (mcmp_ct (0, 1, 0) (1, 0, 0) (by decide) (by decide)) (fun γ => ?_)
  refine aPr rfl (prEq rfl rfl) rfl ?_
  refine aTrue rfl ?_
  refine aCall rfl (deg_ct (1, 2, 3) (by decide)) (fun γ => ?_)
  refine aPr rfl (prEq rfl rfl) rfl ?_
  exact aRet (fun _ => 0) rfl rfl rfl
end Go.Proofs.Ytbkkecnocnfjcaa

namespace Cin
open Go Go.RowKit
theorem qB {P : Program} {op : Op} {ty : TypeId} {vs : List Value} {b c : Bool} (h : PrimOk P op ty vs (.bool b)) (e : b = c) : PrimOk P op ty vs (.bool c) := e ▸ h
theorem told7 {w0 : W0} {v : Value} {e : Ending} {w' : World} (h : TellsA w0 [none] (fun _ => [.ro false (pV v)]) e w') : e = .returned v ∧ Below w0.w.heap.size w0.w w' := by
  obtain ⟨cs, os, γ, rfl, _, ⟨c1, c2, o1, o2, rfl, _, ⟨h1, _⟩, h2⟩, hb⟩ := h
  obtain ⟨rfl, _⟩ := h1
  rw [h2.1]
  exact ⟨rfl, hb⟩
def at7 (W : World) : W0 := ⟨W, W.heap.size, Nat.le_refl _, fun _ => False, fun _ h => h.elim⟩
def kM (a : M) : Int := (dg a : Int) * 16777216 + (a.1 : Int) * 65536 + (a.2.1 : Int) * 256 + (a.2.2 : Int)
theorem sgI_neg (x y : Int) : sgI x y = -sgI y x := by unfold sgI; split <;> split <;> omega
theorem sgI_zero {x y : Int} : sgI x y = 0 ↔ x = y := by unfold sgI; split <;> (try split) <;> omega
theorem sgI_le {x y : Int} : sgI x y ≤ 0 ↔ x ≤ y := by unfold sgI; split <;> (try split) <;> omega
theorem mc_key {a b : M} (ha : a.ok) (hb : b.ok) : mc a b = sgI (kM a) (kM b) := by
  obtain ⟨h0, h1, h2⟩ := ha
  obtain ⟨k0, k1, k2⟩ := hb
  unfold mc
  simp only [ne_eq, sgI_zero]
  unfold kM
  by_cases e : (dg a : Int) = dg b
  · rw [if_neg (by simpa using e)]
    by_cases e0 : (a.1 : Int) = b.1
    · rw [if_neg (by simpa using e0)]
      by_cases e1 : (a.2.1 : Int) = b.2.1
      · rw [if_neg (by simpa using e1)]; unfold sgI; split <;> split <;> (try split) <;> omega
      · rw [if_pos e1]; unfold sgI; split <;> split <;> (try split) <;> omega
    · rw [if_pos e0]; unfold sgI; split <;> split <;> (try split) <;> omega
  · rw [if_pos e]; unfold sgI; split <;> split <;> (try split) <;> omega
theorem cut_eq {q q' r r' : Int} (m : Int) (h0 : 0 ≤ r) (h1 : r < m) (h0' : 0 ≤ r') (h1' : r' < m) (h : q * m + r = q' * m + r') : q = q' ∧ r = r' := by
  have e : q = q' := by
    have h2 : (q * m + r) / m = q := by rw [Int.add_comm, Int.add_mul_ediv_right _ _ (by omega), Int.ediv_eq_zero_of_lt h0 h1, Int.zero_add]
    have h3 : (q' * m + r') / m = q' := by rw [Int.add_comm, Int.add_mul_ediv_right _ _ (by omega), Int.ediv_eq_zero_of_lt h0' h1', Int.zero_add]
    rw [← h2, h, h3]
  subst e
  exact ⟨rfl, by omega⟩
theorem kM_inj {a b : M} (ha : a.ok) (hb : b.ok) (h : kM a = kM b) : a = b := by
  obtain ⟨h0, h1, h2⟩ := ha
  obtain ⟨k0, k1, k2⟩ := hb
  obtain ⟨a0, a1, a2⟩ := a
  obtain ⟨b0, b1, b2⟩ := b
  unfold kM at h
  simp only [] at h h0 h1 h2 k0 k1 k2
  simp only [Int.add_assoc] at h
  obtain ⟨_, h⟩ := cut_eq 16777216 (by omega) (by omega) (by omega) (by omega) h
  obtain ⟨e0, h⟩ := cut_eq 65536 (by omega) (by omega) (by omega) (by omega) h
  obtain ⟨e1, e2⟩ := cut_eq 256 (by omega) (by omega) (by omega) (by omega) h
  have e0 : a0 = b0 := by omega
  have e1 : a1 = b1 := by omega
  have e2 : a2 = b2 := by omega
  rw [e0, e1, e2]
theorem mc_neg {a b : M} (ha : a.ok) (hb : b.ok) : mc a b = -mc b a := by rw [mc_key ha hb, mc_key hb ha, sgI_neg]
theorem mc_zero {a b : M} (ha : a.ok) (hb : b.ok) : mc a b = 0 ↔ a = b := by
  rw [mc_key ha hb, sgI_zero]
  exact ⟨kM_inj ha hb, fun h => by rw [h]⟩
theorem mc_least {a : M} (ha : a.ok) : mc (0, 0, 0) a ≤ 0 := by
  rw [mc_key (by decide) ha, sgI_le]
  unfold kM dg; simp only []; omega
theorem mc_trans {a b c : M} (ha : a.ok) (hb : b.ok) (hc : c.ok) (h1 : mc a b ≤ 0) (h2 : mc b c ≤ 0) : mc a c ≤ 0 := by
  rw [mc_key ha hb, sgI_le] at h1
  rw [mc_key hb hc, sgI_le] at h2
  rw [mc_key ha hc, sgI_le]
  omega
theorem mc_rng (a b : M) : -1 ≤ mc a b ∧ mc a b ≤ 1 := by
  have h : ∀ x y, -1 ≤ sgI x y ∧ sgI x y ≤ 1 := fun x y => by unfold sgI; split <;> (try split) <;> omega
  unfold mc
  split
  · exact h _ _
  · split
    · exact h _ _
    · split <;> exact h _ _
theorem dg_rng {a : M} (ha : a.ok) : dg a ≤ 765 := by obtain ⟨h0, h1, h2⟩ := ha; unfold dg; omega
theorem mulM_of {a b : M} (h : mulOk a b = true) : mulM a b = (a.1 + b.1, a.2.1 + b.2.1, a.2.2 + b.2.2) := by unfold mulM; rw [if_pos h]
theorem mulM_no {a b : M} (h : mulOk a b = false) : mulM a b = (0, 0, 0) := by unfold mulM; rw [if_neg (by simp [h])]
theorem mulOk_iff {a b : M} : mulOk a b = true ↔ a.1 + b.1 ≤ 255 ∧ a.2.1 + b.2.1 ≤ 255 ∧ a.2.2 + b.2.2 ≤ 255 := by
  unfold mulOk; simp only [Bool.and_eq_true, decide_eq_true_eq, and_assoc]
theorem mulOk_comm (a b : M) : mulOk a b = mulOk b a := by
  rw [Bool.eq_iff_iff, mulOk_iff, mulOk_iff]; omega
theorem mulM_comm (a b : M) : mulM a b = mulM b a := by
  by_cases h : mulOk a b = true
  · rw [mulM_of h, mulM_of (by rw [mulOk_comm]; exact h)]
    simp only [Prod.mk.injEq]; omega
  · rw [mulM_no (by simpa using h), mulM_no (by rw [mulOk_comm]; simpa using h)]
theorem kM_mul {a c : M} (h : mulOk a c = true) : kM (mulM a c) = kM a + kM c := by
  rw [mulM_of h]
  simp only [kM, dg, Int.natCast_add]
  omega
theorem sgI_add (x y z : Int) : sgI (x + z) (y + z) = sgI x y := by unfold sgI; split <;> split <;> (try split) <;> (try split) <;> omega
theorem mc_mul {a b c : M} (ha : a.ok) (hb : b.ok) (h1 : mulOk a c = true) (h2 : mulOk b c = true) : mc (mulM a c) (mulM b c) = mc a b := by
  rw [mc_key (mulM_ok _ _) (mulM_ok _ _), mc_key ha hb, kM_mul h1, kM_mul h2, sgI_add]
theorem dv_mul {a c : M} (h : mulOk a c = true) : dv a (mulM a c) = true := by
  rw [mulM_of h]; simp [dv]
theorem dv_mulR {a c : M} (h : mulOk a c = true) : dv c (mulM a c) = true := by
  rw [mulM_of h]; simp [dv]
theorem dg_mul {a b : M} (h : mulOk a b = true) : dg (mulM a b) = dg a + dg b := by
  rw [mulM_of h]; simp only [dg]; omega
theorem vr_mul {a b : M} (h : mulOk a b = true) : vr (mulM a b) = max (vr a) (vr b) := by
  rw [mulM_of h]
  unfold vr
  simp only []
  (repeat' split) <;> omega
theorem mul_assoc3 {a b c : M} (h1 : mulOk a b = true) (h2 : mulOk (mulM a b) c = true) : mulOk b c = true ∧ mulOk a (mulM b c) = true ∧ mulM (mulM a b) c = mulM a (mulM b c) := by
  have e1 := mulM_of h1
  rw [e1] at h2 ⊢
  have h3 : mulOk b c = true := by rw [mulOk_iff] at *; simp only [] at *; omega
  have e3 := mulM_of h3
  rw [e3]
  have h4 : mulOk a (b.1 + c.1, b.2.1 + c.2.1, b.2.2 + c.2.2) = true := by rw [mulOk_iff] at *; simp only [] at *; omega
  refine ⟨h3, h4, ?_⟩
  rw [mulM_of h2, mulM_of h4]
  simp only [Prod.mk.injEq]; omega
end Cin

namespace Go.Proofs.Ytbkkecnocnfjcaa
open Go Go.RowKit Cin
theorem uB : Try.prog.underlying 4 = some .bool := by kernel_rfl
theorem monoTells_law (a b : M) (ha : a.ok) (hb : b.ok) : Ct Try.prog J0 3 [some 3, some 3] [mV a, mV b] [none] (fun _ => [.ro false (pV (.bool true))]) := by
  refine aCtO ⟨true, []⟩ (D := DM) mMix (tr := (.em (.call 8 [.g [.c 0 0, .c 0 1, .c 0 2], .g [.c 1 0, .c 1 1, .c 1 2]] [some 3, none]) (.em (.call 9 [.g [.c 0 0, .c 0 1, .c 0 2], .g [.c 1 0, .c 1 1, .c 1 2]] [some 3, none]) (.em (.pr (.binOp .leq 5 (.tmp 0) (.tmp 1) 5) 4 [.s (.c 0 0), .s (.c 1 0)]) (.cond (.c 4 0) (.em (.pr (.binOp .leq 5 (.tmp 0) (.tmp 1) 5) 4 [.s (.c 0 1), .s (.c 1 1)]) (.cond (.c 5 0) (.em (.pr (.binOp .leq 5 (.tmp 0) (.tmp 1) 5) 4 [.s (.c 0 2), .s (.c 1 2)]) (.em (.call 10 [] [none]) (.cond (.c 7 0) (.em (.pr (.binOp .eql 4 (.tmp 0) (.tmp 1) 4) 4 [.s (.c 2 3), .s (.c 3 3)]) (.cond (.c 8 0) (.em (.pr (.binOp .eql 23 (.tmp 0) (.tmp 1) 23) 4 [.g [.c 2 0, .c 2 1, .c 2 2], .g [.c 3 0, .c 3 1, .c 3 2]]) (.cond (.c 9 0) (.em (.call 11 [.g [.c 0 0, .c 0 1, .c 0 2]] [none]) (.em (.call 12 [.g [.c 0 0, .c 0 1, .c 0 2]] [none]) (.em (.pr (.binOp .eql 3 (.tmp 0) (.tmp 1) 3) 4 [.s (.c 10 0), .s (.c 11 0)]) (.cond (.c 12 0) (.em (.call 13 [.g [.c 0 0, .c 0 1, .c 0 2]] [none]) (.em (.call 14 [.g [.c 0 0, .c 0 1, .c 0 2]] [none]) (.em (.pr (.binOp .eql 3 (.tmp 0) (.tmp 1) 3) 4 [.s (.c 13 0), .s (.c 14 0)]) (.cond (.c 15 0) (.em (.call 15 [.g [.c 0 0, .c 0 1, .c 0 2], .g [.c 1 0, .c 1 1, .c 1 2]] [none]) (.em (.call 16 [.g [.c 0 0, .c 0 1, .c 0 2], .g [.c 1 0, .c 1 1, .c 1 2]] [none]) (.em (.pr (.binOp .eql 3 (.tmp 0) (.tmp 1) 3) 4 [.s (.c 16 0), .s (.c 17 0)]) (.cond (.c 18 0) (.em (.call 17 [.g [.c 0 0, .c 0 1, .c 0 2], .g [.c 1 0, .c 1 1, .c 1 2]] [none]) (.em (.pr (.binOp .eql 4 (.tmp 0) (.tmp 1) 4) 4 [.s (.c 19 0), .s (.c 6 0)]) (.ret (.v (.s (.c 20 0)))))) (.ret (.v (.s (.k (.bool false))))))))) (.ret (.v (.s (.k (.bool false))))))))) (.ret (.v (.s (.k (.bool false))))))))) (.ret (.v (.s (.k (.bool false))))))) (.ret (.v (.s (.k (.bool false))))))) (.ret (.v (.s (.k (.bool false)))))))) (.em (.call 10 [] [none]) (.cond (.c 6 0) (.em (.pr (.binOp .eql 4 (.tmp 0) (.tmp 1) 4) 4 [.s (.c 2 3), .s (.c 3 3)]) (.cond (.c 7 0) (.em (.pr (.binOp .eql 23 (.tmp 0) (.tmp 1) 23) 4 [.g [.c 2 0, .c 2 1, .c 2 2], .g [.c 3 0, .c 3 1, .c 3 2]]) (.cond (.c 8 0) (.em (.call 11 [.g [.c 0 0, .c 0 1, .c 0 2]] [none]) (.em (.call 12 [.g [.c 0 0, .c 0 1, .c 0 2]] [none]) (.em (.pr (.binOp .eql 3 (.tmp 0) (.tmp 1) 3) 4 [.s (.c 9 0), .s (.c 10 0)]) (.cond (.c 11 0) (.em (.call 13 [.g [.c 0 0, .c 0 1, .c 0 2]] [none]) (.em (.call 14 [.g [.c 0 0, .c 0 1, .c 0 2]] [none]) (.em (.pr (.binOp .eql 3 (.tmp 0) (.tmp 1) 3) 4 [.s (.c 12 0), .s (.c 13 0)]) (.cond (.c 14 0) (.em (.call 15 [.g [.c 0 0, .c 0 1, .c 0 2], .g [.c 1 0, .c 1 1, .c 1 2]] [none]) (.em (.call 16 [.g [.c 0 0, .c 0 1, .c 0 2], .g [.c 1 0, .c 1 1, .c 1 2]] [none]) (.em (.pr (.binOp .eql 3 (.tmp 0) (.tmp 1) 3) 4 [.s (.c 15 0), .s (.c 16 0)]) (.cond (.c 17 0) (.em (.call 17 [.g [.c 0 0, .c 0 1, .c 0 2], .g [.c 1 0, .c 1 1, .c 1 2]] [none]) (.em (.pr (.binOp .eql 4 (.tmp 0) (.tmp 1) 4) 4 [.s (.c 18 0), .s (.k (.bool false))]) (.ret (.v (.s (.c 19 0)))))) (.ret (.v (.s (.k (.bool false))))))))) (.ret (.v (.s (.k (.bool false))))))))) (.ret (.v (.s (.k (.bool false))))))))) (.ret (.v (.s (.k (.bool false))))))) (.ret (.v (.s (.k (.bool false))))))) (.ret (.v (.s (.k (.bool false))))))))) (.em (.call 10 [] [none]) (.cond (.c 5 0) (.em (.pr (.binOp .eql 4 (.tmp 0) (.tmp 1) 4) 4 [.s (.c 2 3), .s (.c 3 3)]) (.cond (.c 6 0) (.em (.pr (.binOp .eql 23 (.tmp 0) (.tmp 1) 23) 4 [.g [.c 2 0, .c 2 1, .c 2 2], .g [.c 3 0, .c 3 1, .c 3 2]]) (.cond (.c 7 0) (.em (.call 11 [.g [.c 0 0, .c 0 1, .c 0 2]] [none]) (.em (.call 12 [.g [.c 0 0, .c 0 1, .c 0 2]] [none]) (.em (.pr (.binOp .eql 3 (.tmp 0) (.tmp 1) 3) 4 [.s (.c 8 0), .s (.c 9 0)]) (.cond (.c 10 0) (.em (.call 13 [.g [.c 0 0, .c 0 1, .c 0 2]] [none]) (.em (.call 14 [.g [.c 0 0, .c 0 1, .c 0 2]] [none]) (.em (.pr (.binOp .eql 3 (.tmp 0) (.tmp 1) 3) 4 [.s (.c 11 0), .s (.c 12 0)]) (.cond (.c 13 0) (.em (.call 15 [.g [.c 0 0, .c 0 1, .c 0 2], .g [.c 1 0, .c 1 1, .c 1 2]] [none]) (.em (.call 16 [.g [.c 0 0, .c 0 1, .c 0 2], .g [.c 1 0, .c 1 1, .c 1 2]] [none]) (.em (.pr (.binOp .eql 3 (.tmp 0) (.tmp 1) 3) 4 [.s (.c 14 0), .s (.c 15 0)]) (.cond (.c 16 0) (.em (.call 17 [.g [.c 0 0, .c 0 1, .c 0 2], .g [.c 1 0, .c 1 1, .c 1 2]] [none]) (.em (.pr (.binOp .eql 4 (.tmp 0) (.tmp 1) 4) 4 [.s (.c 17 0), .s (.k (.bool false))]) (.ret (.v (.s (.c 18 0)))))) (.ret (.v (.s (.k (.bool false))))))))) (.ret (.v (.s (.k (.bool false))))))))) (.ret (.v (.s (.k (.bool false))))))))) (.ret (.v (.s (.k (.bool false))))))) (.ret (.v (.s (.k (.bool false))))))) (.ret (.v (.s (.k (.bool false)))))))))))) (by kernel_rfl) (by kernel_rfl) (by kernel_rfl) rfl (fun _ _ h => by cases h) (fun w0 => ?_)
  refine aCall rfl (mul_ct a b ha hb) (fun γ => ?_)
  refine aCall rfl (rmul_ct a b ha hb) (fun γ => ?_)
  refine aPr rfl (prLe rfl rfl) rfl ?_
  refine aIf rfl (fun h0 => ?_) (fun h0 => ?_)
  · refine aPr rfl (prLe rfl rfl) rfl ?_
    refine aIf rfl (fun h1 => ?_) (fun h1 => ?_)
    · refine aPr rfl (prLe rfl rfl) rfl ?_
      refine aCall rfl (alive7_ct) (fun γ => ?_)
      refine aTrue rfl ?_
      refine aPr rfl (qB (c := true) (prBEq uB rfl rfl) (by simp)) rfl ?_
      refine aTrue rfl ?_
      refine aPr rfl (qB (c := true) (qEq3 (mulM a b) (mulM a b) uM uU iU rfl gM rfl rfl) (by simp)) rfl ?_
      refine aTrue rfl ?_
      refine aCall rfl (deg_ct a ha) (fun γ => ?_)
      refine aCall rfl (rdeg_ct a ha) (fun γ => ?_)
      refine aPr rfl (qB (c := true) (prEq rfl rfl) (by simp)) rfl ?_
      refine aTrue rfl ?_
      refine aCall rfl (vars_ct a) (fun γ => ?_)
      refine aCall rfl (rvars_ct a) (fun γ => ?_)
      refine aPr rfl (qB (c := true) (prEq rfl rfl) (by simp)) rfl ?_
      refine aTrue rfl ?_
      refine aCall rfl (mcmp_ct a b ha hb) (fun γ => ?_)
      refine aCall rfl (rmcmp_ct a b ha hb) (fun γ => ?_)
      refine aPr rfl (qB (c := true) (prEq rfl rfl) (by simp)) rfl ?_
      refine aTrue rfl ?_
      refine aCall rfl (divs_ct a b) (fun γ => ?_)
      refine aPr rfl (qB (c := true) (prBEq uB rfl rfl) (by simp at h0 h1; simp [dv, h0, h1])) rfl ?_
      exact aRet (fun _ => 0) rfl rfl rfl
    · skip
      refine aCall rfl (alive7_ct) (fun γ => ?_)
      refine aTrue rfl ?_
      refine aPr rfl (qB (c := true) (prBEq uB rfl rfl) (by simp)) rfl ?_
      refine aTrue rfl ?_
      refine aPr rfl (qB (c := true) (qEq3 (mulM a b) (mulM a b) uM uU iU rfl gM rfl rfl) (by simp)) rfl ?_
      refine aTrue rfl ?_
      refine aCall rfl (deg_ct a ha) (fun γ => ?_)
      refine aCall rfl (rdeg_ct a ha) (fun γ => ?_)
      refine aPr rfl (qB (c := true) (prEq rfl rfl) (by simp)) rfl ?_
      refine aTrue rfl ?_
      refine aCall rfl (vars_ct a) (fun γ => ?_)
      refine aCall rfl (rvars_ct a) (fun γ => ?_)
      refine aPr rfl (qB (c := true) (prEq rfl rfl) (by simp)) rfl ?_
      refine aTrue rfl ?_
      refine aCall rfl (mcmp_ct a b ha hb) (fun γ => ?_)
      refine aCall rfl (rmcmp_ct a b ha hb) (fun γ => ?_)
      refine aPr rfl (qB (c := true) (prEq rfl rfl) (by simp)) rfl ?_
      refine aTrue rfl ?_
      refine aCall rfl (divs_ct a b) (fun γ => ?_)
      refine aPr rfl (qB (c := true) (prBEq uB rfl rfl) (by simp at h1; simp [dv]; omega)) rfl ?_
      exact aRet (fun _ => 0) rfl rfl rfl
  · skip
    refine aCall rfl (alive7_ct) (fun γ => ?_)
    refine aTrue rfl ?_
    refine aPr rfl (qB (c := true) (prBEq uB rfl rfl) (by simp)) rfl ?_
    refine aTrue rfl ?_
    refine aPr rfl (qB (c := true) (qEq3 (mulM a b) (mulM a b) uM uU iU rfl gM rfl rfl) (by simp)) rfl ?_
    refine aTrue rfl ?_
    refine aCall rfl (deg_ct a ha) (fun γ => ?_)
    refine aCall rfl (rdeg_ct a ha) (fun γ => ?_)
    refine aPr rfl (qB (c := true) (prEq rfl rfl) (by simp)) rfl ?_
    refine aTrue rfl ?_
    refine aCall rfl (vars_ct a) (fun γ => ?_)
    refine aCall rfl (rvars_ct a) (fun γ => ?_)
    refine aPr rfl (qB (c := true) (prEq rfl rfl) (by simp)) rfl ?_
    refine aTrue rfl ?_
    refine aCall rfl (mcmp_ct a b ha hb) (fun γ => ?_)
    refine aCall rfl (rmcmp_ct a b ha hb) (fun γ => ?_)
    refine aPr rfl (qB (c := true) (prEq rfl rfl) (by simp)) rfl ?_
    refine aTrue rfl ?_
    refine aCall rfl (divs_ct a b) (fun γ => ?_)
    refine aPr rfl (qB (c := true) (prBEq uB rfl rfl) (by simp at h0; simp [dv]; omega)) rfl ?_
    exact aRet (fun _ => 0) rfl rfl rfl
theorem monoOrders_law (a b c : M) (ha : a.ok) (hb : b.ok) (hc : c.ok) : Ct Try.prog J0 4 [some 3, some 3, some 3] [mV a, mV b, mV c] [none] (fun _ => [.ro false (pV (.bool true))]) := by
  refine aCtO ⟨true, []⟩ (D := DM) mMix (tr := (.em (.call 15 [.g [.c 0 0, .c 0 1, .c 0 2], .g [.c 1 0, .c 1 1, .c 1 2]] [none]) (.em (.call 10 [] [none]) (.em (.pr (.unOp .not 4 (.tmp 0)) 4 [.s (.c 4 0)]) (.cond (.c 5 0) (.ret (.v (.s (.k (.bool false))))) (.em (.call 15 [.g [.c 1 0, .c 1 1, .c 1 2], .g [.c 0 0, .c 0 1, .c 0 2]] [none]) (.em (.pr (.unOp .neg 3 (.tmp 0)) 3 [.s (.c 6 0)]) (.em (.pr (.binOp .neq 3 (.tmp 0) (.tmp 1) 3) 4 [.s (.c 3 0), .s (.c 7 0)]) (.cond (.c 8 0) (.ret (.v (.s (.k (.bool false))))) (.em (.pr (.binOp .eql 3 (.tmp 0) (.const (.int .i64 0)) 3) 4 [.s (.c 3 0), .s (.k (.int .i64 0))]) (.em (.pr (.binOp .eql 23 (.tmp 0) (.tmp 1) 23) 4 [.g [.c 0 0, .c 0 1, .c 0 2], .g [.c 1 0, .c 1 1, .c 1 2]]) (.em (.pr (.binOp .neq 4 (.tmp 0) (.tmp 1) 4) 4 [.s (.c 9 0), .s (.c 10 0)]) (.cond (.c 11 0) (.ret (.v (.s (.k (.bool false))))) (.em (.call 15 [.g [.k (.int .u8 0), .k (.int .u8 0), .k (.int .u8 0)], .g [.c 0 0, .c 0 1, .c 0 2]] [none]) (.em (.pr (.binOp .gtr 3 (.tmp 0) (.const (.int .i64 0)) 3) 4 [.s (.c 12 0), .s (.k (.int .i64 0))]) (.cond (.c 13 0) (.ret (.v (.s (.k (.bool false))))) (.em (.pr (.binOp .leq 3 (.tmp 0) (.const (.int .i64 0)) 3) 4 [.s (.c 3 0), .s (.k (.int .i64 0))]) (.cond (.c 14 0) (.em (.call 15 [.g [.c 1 0, .c 1 1, .c 1 2], .g [.c 2 0, .c 2 1, .c 2 2]] [none]) (.em (.pr (.binOp .leq 3 (.tmp 0) (.const (.int .i64 0)) 3) 4 [.s (.c 15 0), .s (.k (.int .i64 0))]) (.cond (.c 16 0) (.em (.call 15 [.g [.c 0 0, .c 0 1, .c 0 2], .g [.c 2 0, .c 2 1, .c 2 2]] [none]) (.em (.pr (.binOp .gtr 3 (.tmp 0) (.const (.int .i64 0)) 3) 4 [.s (.c 17 0), .s (.k (.int .i64 0))]) (.cond (.c 18 0) (.ret (.v (.s (.k (.bool false))))) (.em (.call 8 [.g [.c 0 0, .c 0 1, .c 0 2], .g [.c 2 0, .c 2 1, .c 2 2]] [some 3, none]) (.em (.call 8 [.g [.c 1 0, .c 1 1, .c 1 2], .g [.c 2 0, .c 2 1, .c 2 2]] [some 3, none]) (.em (.pr (.unOp .not 4 (.tmp 0)) 4 [.s (.c 19 3)]) (.cond (.c 21 0) (.ret (.v (.s (.k (.bool true))))) (.em (.pr (.unOp .not 4 (.tmp 0)) 4 [.s (.c 20 3)]) (.cond (.c 22 0) (.ret (.v (.s (.k (.bool true))))) (.em (.call 15 [.g [.c 19 0, .c 19 1, .c 19 2], .g [.c 20 0, .c 20 1, .c 20 2]] [none]) (.em (.pr (.binOp .eql 3 (.tmp 0) (.tmp 1) 3) 4 [.s (.c 23 0), .s (.c 3 0)]) (.cond (.c 24 0) (.em (.call 17 [.g [.c 0 0, .c 0 1, .c 0 2], .g [.c 19 0, .c 19 1, .c 19 2]] [none]) (.ret (.v (.s (.c 25 0))))) (.ret (.v (.s (.k (.bool false))))))))))))))))) (.em (.call 8 [.g [.c 0 0, .c 0 1, .c 0 2], .g [.c 2 0, .c 2 1, .c 2 2]] [some 3, none]) (.em (.call 8 [.g [.c 1 0, .c 1 1, .c 1 2], .g [.c 2 0, .c 2 1, .c 2 2]] [some 3, none]) (.em (.pr (.unOp .not 4 (.tmp 0)) 4 [.s (.c 17 3)]) (.cond (.c 19 0) (.ret (.v (.s (.k (.bool true))))) (.em (.pr (.unOp .not 4 (.tmp 0)) 4 [.s (.c 18 3)]) (.cond (.c 20 0) (.ret (.v (.s (.k (.bool true))))) (.em (.call 15 [.g [.c 17 0, .c 17 1, .c 17 2], .g [.c 18 0, .c 18 1, .c 18 2]] [none]) (.em (.pr (.binOp .eql 3 (.tmp 0) (.tmp 1) 3) 4 [.s (.c 21 0), .s (.c 3 0)]) (.cond (.c 22 0) (.em (.call 17 [.g [.c 0 0, .c 0 1, .c 0 2], .g [.c 17 0, .c 17 1, .c 17 2]] [none]) (.ret (.v (.s (.c 23 0))))) (.ret (.v (.s (.k (.bool false))))))))))))))))) (.em (.call 8 [.g [.c 0 0, .c 0 1, .c 0 2], .g [.c 2 0, .c 2 1, .c 2 2]] [some 3, none]) (.em (.call 8 [.g [.c 1 0, .c 1 1, .c 1 2], .g [.c 2 0, .c 2 1, .c 2 2]] [some 3, none]) (.em (.pr (.unOp .not 4 (.tmp 0)) 4 [.s (.c 15 3)]) (.cond (.c 17 0) (.ret (.v (.s (.k (.bool true))))) (.em (.pr (.unOp .not 4 (.tmp 0)) 4 [.s (.c 16 3)]) (.cond (.c 18 0) (.ret (.v (.s (.k (.bool true))))) (.em (.call 15 [.g [.c 15 0, .c 15 1, .c 15 2], .g [.c 16 0, .c 16 1, .c 16 2]] [none]) (.em (.pr (.binOp .eql 3 (.tmp 0) (.tmp 1) 3) 4 [.s (.c 19 0), .s (.c 3 0)]) (.cond (.c 20 0) (.em (.call 17 [.g [.c 0 0, .c 0 1, .c 0 2], .g [.c 15 0, .c 15 1, .c 15 2]] [none]) (.ret (.v (.s (.c 21 0))))) (.ret (.v (.s (.k (.bool false)))))))))))))))))))))))))))))))) (by kernel_rfl) (by kernel_rfl) (by kernel_rfl) rfl (fun _ _ h => by cases h) (fun w0 => ?_)
  refine aCall rfl (mcmp_ct a b ha hb) (fun γ => ?_)
  refine aCall rfl (alive7_ct) (fun γ => ?_)
  refine aPr rfl (prNot rfl) rfl ?_
  refine aFalse rfl ?_
  refine aCall rfl (mcmp_ct b a hb ha) (fun γ => ?_)
  refine aPr rfl (qNeg rfl (by have := mc_rng b a; omega) (by have := mc_rng b a; omega)) rfl ?_
  refine aPr rfl (qB (c := false) (prNe rfl rfl) (by rw [← mc_neg ha hb]; simp)) rfl ?_
  refine aFalse rfl ?_
  refine aPr rfl (prEq rfl rfl) rfl ?_
  refine aPr rfl (qEq3 (a) (b) uM uU iU rfl gM rfl rfl) rfl ?_
  refine aPr rfl (qB (c := false) (prBNe uB rfl rfl) (by have := mc_zero ha hb; by_cases e : a = b <;> simp [e] at this ⊢ <;> exact this)) rfl ?_
  refine aFalse rfl ?_
  refine aCall rfl (mcmp_ct (0, 0, 0) a (by decide) ha) (fun γ => ?_)
  refine aPr rfl (qB (c := false) (prGt rfl rfl) (by have := mc_least ha; simpa using this)) rfl ?_
  refine aFalse rfl ?_
  refine aPr rfl (prLe rfl rfl) rfl ?_
  refine aIf rfl (fun h5 => ?_) (fun h5 => ?_)
  · skip
    refine aCall rfl (mcmp_ct b c hb hc) (fun γ => ?_)
    refine aPr rfl (prLe rfl rfl) rfl ?_
    refine aIf rfl (fun h6 => ?_) (fun h6 => ?_)
    · skip
      refine aCall rfl (mcmp_ct a c ha hc) (fun γ => ?_)
      refine aPr rfl (qB (c := false) (prGt rfl rfl) (by simp at h5 h6; have := mc_trans ha hb hc h5 h6; simpa using this)) rfl ?_
      refine aFalse rfl ?_
      refine aCall rfl (mul_ct a c ha hc) (fun γ => ?_)
      refine aCall rfl (mul_ct b c hb hc) (fun γ => ?_)
      refine aPr rfl (prNot rfl) rfl ?_
      refine aIf rfl (fun h8 => ?_) (fun h8 => ?_)
      · exact aRet (fun _ => 0) rfl rfl rfl
      refine aPr rfl (prNot rfl) rfl ?_
      refine aIf rfl (fun h9 => ?_) (fun h9 => ?_)
      · exact aRet (fun _ => 0) rfl rfl rfl
      have k8 : mulOk a c = true := by simpa using h8
      have k9 : mulOk b c = true := by simpa using h9
      refine aCall rfl (mcmp_ct (mulM a c) (mulM b c) (mulM_ok _ _) (mulM_ok _ _)) (fun γ => ?_)
      refine aPr rfl (qB (c := true) (prEq rfl rfl) (by rw [mc_mul ha hb k8 k9]; simp)) rfl ?_
      refine aTrue rfl ?_
      refine aCall rfl (divs_ct a (mulM a c)) (fun γ => ?_)
      exact aRet (fun _ => 0) rfl rfl (by rw [dv_mul k8]; rfl)
    · skip
      refine aCall rfl (mul_ct a c ha hc) (fun γ => ?_)
      refine aCall rfl (mul_ct b c hb hc) (fun γ => ?_)
      refine aPr rfl (prNot rfl) rfl ?_
      refine aIf rfl (fun h8 => ?_) (fun h8 => ?_)
      · exact aRet (fun _ => 0) rfl rfl rfl
      refine aPr rfl (prNot rfl) rfl ?_
      refine aIf rfl (fun h9 => ?_) (fun h9 => ?_)
      · exact aRet (fun _ => 0) rfl rfl rfl
      have k8 : mulOk a c = true := by simpa using h8
      have k9 : mulOk b c = true := by simpa using h9
      refine aCall rfl (mcmp_ct (mulM a c) (mulM b c) (mulM_ok _ _) (mulM_ok _ _)) (fun γ => ?_)
      refine aPr rfl (qB (c := true) (prEq rfl rfl) (by rw [mc_mul ha hb k8 k9]; simp)) rfl ?_
      refine aTrue rfl ?_
      refine aCall rfl (divs_ct a (mulM a c)) (fun γ => ?_)
      exact aRet (fun _ => 0) rfl rfl (by rw [dv_mul k8]; rfl)
  · skip
    refine aCall rfl (mul_ct a c ha hc) (fun γ => ?_)
    refine aCall rfl (mul_ct b c hb hc) (fun γ => ?_)
    refine aPr rfl (prNot rfl) rfl ?_
    refine aIf rfl (fun h8 => ?_) (fun h8 => ?_)
    · exact aRet (fun _ => 0) rfl rfl rfl
    refine aPr rfl (prNot rfl) rfl ?_
    refine aIf rfl (fun h9 => ?_) (fun h9 => ?_)
    · exact aRet (fun _ => 0) rfl rfl rfl
    have k8 : mulOk a c = true := by simpa using h8
    have k9 : mulOk b c = true := by simpa using h9
    refine aCall rfl (mcmp_ct (mulM a c) (mulM b c) (mulM_ok _ _) (mulM_ok _ _)) (fun γ => ?_)
    refine aPr rfl (qB (c := true) (prEq rfl rfl) (by rw [mc_mul ha hb k8 k9]; simp)) rfl ?_
    refine aTrue rfl ?_
    refine aCall rfl (divs_ct a (mulM a c)) (fun γ => ?_)
    exact aRet (fun _ => 0) rfl rfl (by rw [dv_mul k8]; rfl)
theorem monoMuls_law (a b c : M) (ha : a.ok) (hb : b.ok) (hc : c.ok) : Ct Try.prog J0 6 [some 3, some 3, some 3] [mV a, mV b, mV c] [none] (fun _ => [.ro false (pV (.bool true))]) := by
  refine aCtO ⟨true, []⟩ (D := DM) mMix (tr := (.em (.call 8 [.g [.c 0 0, .c 0 1, .c 0 2], .g [.c 1 0, .c 1 1, .c 1 2]] [some 3, none]) (.em (.call 8 [.g [.c 1 0, .c 1 1, .c 1 2], .g [.c 0 0, .c 0 1, .c 0 2]] [some 3, none]) (.em (.call 10 [] [none]) (.em (.pr (.unOp .not 4 (.tmp 0)) 4 [.s (.c 5 0)]) (.cond (.c 6 0) (.ret (.v (.s (.k (.bool false))))) (.em (.pr (.binOp .neq 4 (.tmp 0) (.tmp 1) 4) 4 [.s (.c 3 3), .s (.c 4 3)]) (.cond (.c 7 0) (.ret (.v (.s (.k (.bool false))))) (.em (.pr (.binOp .neq 23 (.tmp 0) (.tmp 1) 23) 4 [.g [.c 3 0, .c 3 1, .c 3 2], .g [.c 4 0, .c 4 1, .c 4 2]]) (.cond (.c 8 0) (.ret (.v (.s (.k (.bool false))))) (.em (.pr (.unOp .not 4 (.tmp 0)) 4 [.s (.c 3 3)]) (.cond (.c 9 0) (.em (.pr (.binOp .eql 23 (.tmp 0) (.tmp 1) 23) 4 [.g [.c 3 0, .c 3 1, .c 3 2], .g [.k (.int .u8 0), .k (.int .u8 0), .k (.int .u8 0)]]) (.ret (.v (.s (.c 10 0))))) (.em (.call 8 [.g [.c 3 0, .c 3 1, .c 3 2], .g [.c 2 0, .c 2 1, .c 2 2]] [some 3, none]) (.em (.call 8 [.g [.c 1 0, .c 1 1, .c 1 2], .g [.c 2 0, .c 2 1, .c 2 2]] [some 3, none]) (.cond (.c 10 3) (.em (.pr (.unOp .not 4 (.tmp 0)) 4 [.s (.c 11 3)]) (.cond (.c 12 0) (.ret (.v (.s (.k (.bool false))))) (.em (.call 8 [.g [.c 0 0, .c 0 1, .c 0 2], .g [.c 11 0, .c 11 1, .c 11 2]] [some 3, none]) (.em (.call 11 [.g [.c 3 0, .c 3 1, .c 3 2]] [none]) (.em (.call 11 [.g [.c 0 0, .c 0 1, .c 0 2]] [none]) (.em (.call 11 [.g [.c 1 0, .c 1 1, .c 1 2]] [none]) (.em (.pr (.binOp .add 3 (.tmp 0) (.tmp 1) 3) 3 [.s (.c 15 0), .s (.c 16 0)]) (.em (.pr (.binOp .eql 3 (.tmp 0) (.tmp 1) 3) 4 [.s (.c 14 0), .s (.c 17 0)]) (.cond (.c 18 0) (.em (.call 17 [.g [.c 0 0, .c 0 1, .c 0 2], .g [.c 3 0, .c 3 1, .c 3 2]] [none]) (.cond (.c 19 0) (.em (.call 17 [.g [.c 1 0, .c 1 1, .c 1 2], .g [.c 3 0, .c 3 1, .c 3 2]] [none]) (.cond (.c 20 0) (.cond (.c 13 3) (.em (.pr (.binOp .eql 23 (.tmp 0) (.tmp 1) 23) 4 [.g [.c 10 0, .c 10 1, .c 10 2], .g [.c 13 0, .c 13 1, .c 13 2]]) (.cond (.c 21 0) (.em (.call 13 [.g [.c 3 0, .c 3 1, .c 3 2]] [none]) (.em (.call 13 [.g [.c 0 0, .c 0 1, .c 0 2]] [none]) (.em (.call 13 [.g [.c 1 0, .c 1 1, .c 1 2]] [none]) (.em (.pr (.call (.mk (.builtin .max) #[.tmp 0, .tmp 1] #[3, 3])) 3 [.s (.c 23 0), .s (.c 24 0)]) (.em (.pr (.binOp .eql 3 (.tmp 0) (.tmp 1) 3) 4 [.s (.c 22 0), .s (.c 25 0)]) (.ret (.v (.s (.c 26 0))))))))) (.ret (.v (.s (.k (.bool false))))))) (.ret (.v (.s (.k (.bool false)))))) (.ret (.v (.s (.k (.bool false))))))) (.ret (.v (.s (.k (.bool false))))))) (.ret (.v (.s (.k (.bool false)))))))))))))) (.em (.call 8 [.g [.c 0 0, .c 0 1, .c 0 2], .g [.c 11 0, .c 11 1, .c 11 2]] [some 3, none]) (.em (.call 11 [.g [.c 3 0, .c 3 1, .c 3 2]] [none]) (.em (.call 11 [.g [.c 0 0, .c 0 1, .c 0 2]] [none]) (.em (.call 11 [.g [.c 1 0, .c 1 1, .c 1 2]] [none]) (.em (.pr (.binOp .add 3 (.tmp 0) (.tmp 1) 3) 3 [.s (.c 14 0), .s (.c 15 0)]) (.em (.pr (.binOp .eql 3 (.tmp 0) (.tmp 1) 3) 4 [.s (.c 13 0), .s (.c 16 0)]) (.cond (.c 17 0) (.em (.call 17 [.g [.c 0 0, .c 0 1, .c 0 2], .g [.c 3 0, .c 3 1, .c 3 2]] [none]) (.cond (.c 18 0) (.em (.call 17 [.g [.c 1 0, .c 1 1, .c 1 2], .g [.c 3 0, .c 3 1, .c 3 2]] [none]) (.cond (.c 19 0) (.em (.call 13 [.g [.c 3 0, .c 3 1, .c 3 2]] [none]) (.em (.call 13 [.g [.c 0 0, .c 0 1, .c 0 2]] [none]) (.em (.call 13 [.g [.c 1 0, .c 1 1, .c 1 2]] [none]) (.em (.pr (.call (.mk (.builtin .max) #[.tmp 0, .tmp 1] #[3, 3])) 3 [.s (.c 21 0), .s (.c 22 0)]) (.em (.pr (.binOp .eql 3 (.tmp 0) (.tmp 1) 3) 4 [.s (.c 20 0), .s (.c 23 0)]) (.ret (.v (.s (.c 24 0))))))))) (.ret (.v (.s (.k (.bool false))))))) (.ret (.v (.s (.k (.bool false))))))) (.ret (.v (.s (.k (.bool false))))))))))))))))))))))))))) (by kernel_rfl) (by kernel_rfl) (by kernel_rfl) rfl (fun _ _ h => by cases h) (fun w0 => ?_)
  refine aCall rfl (mul_ct a b ha hb) (fun γ => ?_)
  refine aCall rfl (mul_ct b a hb ha) (fun γ => ?_)
  refine aCall rfl (alive7_ct) (fun γ => ?_)
  refine aPr rfl (prNot rfl) rfl ?_
  refine aFalse rfl ?_
  refine aPr rfl (qB (c := false) (prBNe uB rfl rfl) (by rw [mulOk_comm]; simp)) rfl ?_
  refine aFalse rfl ?_
  refine aPr rfl (qB (c := false) (qNe3 (mulM a b) (mulM b a) uM uU iU rfl gM rfl rfl) (by rw [mulM_comm]; simp)) rfl ?_
  refine aFalse rfl ?_
  refine aPr rfl (prNot rfl) rfl ?_
  refine aIf rfl (fun h4 => ?_) (fun h4 => ?_)
  · skip
    refine aPr rfl (qB (c := true) (qEq3 (mulM a b) ((0, 0, 0)) uM uU iU rfl gM rfl rfl) (by rw [mulM_no (by simpa using h4)]; rfl)) rfl ?_
    exact aRet (fun _ => 0) rfl rfl rfl
  have k4 : mulOk a b = true := by simpa using h4
  refine aCall rfl (mul_ct (mulM a b) c (mulM_ok _ _) hc) (fun γ => ?_)
  refine aCall rfl (mul_ct b c hb hc) (fun γ => ?_)
  refine aIf rfl (fun h5 => ?_) (fun h5 => ?_)
  · refine aPr rfl (prNot rfl) rfl ?_
    refine aIf rfl (fun h => by rw [(mul_assoc3 k4 h5).1] at h; cases h) (fun _ => ?_)
    refine aCall rfl (mul_ct a (mulM b c) ha (mulM_ok _ _)) (fun γ => ?_)
    refine aCall rfl (deg_ct (mulM a b) (mulM_ok _ _)) (fun γ => ?_)
    refine aCall rfl (deg_ct a ha) (fun γ => ?_)
    refine aCall rfl (deg_ct b hb) (fun γ => ?_)
    refine aPr rfl (qAdd rfl rfl (by have := dg_rng ha; have := dg_rng hb; omega) (by have := dg_rng ha; have := dg_rng hb; omega)) rfl ?_
    refine aPr rfl (qB (c := true) (prEq rfl rfl) (by rw [dg_mul k4]; simp)) rfl ?_
    refine aTrue rfl ?_
    refine aCall rfl (divs_ct a (mulM a b)) (fun γ => ?_)
    refine aIf rfl (fun _ => ?_) (fun h => by rw [dv_mul k4] at h; cases h)
    refine aCall rfl (divs_ct b (mulM a b)) (fun γ => ?_)
    refine aIf rfl (fun _ => ?_) (fun h => by rw [dv_mulR k4] at h; cases h)
    refine aIf rfl (fun _ => ?_) (fun h => by rw [(mul_assoc3 k4 h5).2.1] at h; cases h)
    refine aPr rfl (qB (c := true) (qEq3 (mulM (mulM a b) c) (mulM a (mulM b c)) uM uU iU rfl gM rfl rfl) (by rw [(mul_assoc3 k4 h5).2.2]; simp)) rfl ?_
    refine aTrue rfl ?_
    refine aCall rfl (vars_ct (mulM a b)) (fun γ => ?_)
    refine aCall rfl (vars_ct a) (fun γ => ?_)
    refine aCall rfl (vars_ct b) (fun γ => ?_)
    refine aPr rfl (qMax (z := ((max (vr a) (vr b) : Nat) : Int)) rfl rfl (by omega)) rfl ?_
    refine aPr rfl (qB (c := true) (prEq rfl rfl) (by rw [vr_mul k4]; simp)) rfl ?_
    exact aRet (fun _ => 0) rfl rfl rfl
  · skip
    refine aCall rfl (mul_ct a (mulM b c) ha (mulM_ok _ _)) (fun γ => ?_)
    refine aCall rfl (deg_ct (mulM a b) (mulM_ok _ _)) (fun γ => ?_)
    refine aCall rfl (deg_ct a ha) (fun γ => ?_)
    refine aCall rfl (deg_ct b hb) (fun γ => ?_)
    refine aPr rfl (qAdd rfl rfl (by have := dg_rng ha; have := dg_rng hb; omega) (by have := dg_rng ha; have := dg_rng hb; omega)) rfl ?_
    refine aPr rfl (qB (c := true) (prEq rfl rfl) (by rw [dg_mul k4]; simp)) rfl ?_
    refine aTrue rfl ?_
    refine aCall rfl (divs_ct a (mulM a b)) (fun γ => ?_)
    refine aIf rfl (fun _ => ?_) (fun h => by rw [dv_mul k4] at h; cases h)
    refine aCall rfl (divs_ct b (mulM a b)) (fun γ => ?_)
    refine aIf rfl (fun _ => ?_) (fun h => by rw [dv_mulR k4] at h; cases h)
    refine aCall rfl (vars_ct (mulM a b)) (fun γ => ?_)
    refine aCall rfl (vars_ct a) (fun γ => ?_)
    refine aCall rfl (vars_ct b) (fun γ => ?_)
    refine aPr rfl (qMax (z := ((max (vr a) (vr b) : Nat) : Int)) rfl rfl (by omega)) rfl ?_
    refine aPr rfl (qB (c := true) (prEq rfl rfl) (by rw [vr_mul k4]; simp)) rfl ?_
    exact aRet (fun _ => 0) rfl rfl rfl
abbrev mVal (a : M) : Value := .agg #[.int .u8 (a.1 : Nat), .int .u8 (a.2.1 : Nat), .int .u8 (a.2.2 : Nat)]
abbrev mCs (a : M) : List Value := [.int .u8 (a.1 : Nat), .int .u8 (a.2.1 : Nat), .int .u8 (a.2.2 : Nat)]
theorem mRL (l : Lm) (w : World) (a : M) : RL l w (mV a) (mCs a) := ⟨[_], _, rfl, ⟨rfl, rfl⟩, [_], _, rfl, ⟨rfl, rfl⟩, [_], _, rfl, ⟨rfl, rfl⟩, rfl⟩
theorem monoTells_any (a b : M) (W : World) (ha : a.ok) (hb : b.ok) : Calls Try.prog 3 #[mVal a, mVal b] W fun e w' => e = .returned (.bool true) ∧ Below W.heap.size W w' :=
  (monoTells_law a b ha hb (at7 W) [mCs a, mCs b] trivial ⟨mCs a, _, rfl, rfl, mRL _ _ a, mCs b, _, rfl, rfl, mRL _ _ b, rfl⟩).mono fun _ _ h => told7 h
theorem monoOrders_any (a b c : M) (W : World) (ha : a.ok) (hb : b.ok) (hc : c.ok) : Calls Try.prog 4 #[mVal a, mVal b, mVal c] W fun e w' => e = .returned (.bool true) ∧ Below W.heap.size W w' :=
  (monoOrders_law a b c ha hb hc (at7 W) [mCs a, mCs b, mCs c] trivial ⟨mCs a, _, rfl, rfl, mRL _ _ a, mCs b, _, rfl, rfl, mRL _ _ b, mCs c, _, rfl, rfl, mRL _ _ c, rfl⟩).mono fun _ _ h => told7 h
theorem monoMuls_any (a b c : M) (W : World) (ha : a.ok) (hb : b.ok) (hc : c.ok) : Calls Try.prog 6 #[mVal a, mVal b, mVal c] W fun e w' => e = .returned (.bool true) ∧ Below W.heap.size W w' :=
  (monoMuls_law a b c ha hb hc (at7 W) [mCs a, mCs b, mCs c] trivial ⟨mCs a, _, rfl, rfl, mRL _ _ a, mCs b, _, rfl, rfl, mRL _ _ b, mCs c, _, rfl, rfl, mRL _ _ c, rfl⟩).mono fun _ _ h => told7 h
end Go.Proofs.Ytbkkecnocnfjcaa
