/- Contracts: mono.next, mono.Below. -/
import Derived.Test.YtbkkecnocnfjcaaYi
namespace Go.Proofs.Ytbkkecnocnfjcaa
open Go Go.RowKit Cin
def monoR : Rty := ⟨23, 3, [], []⟩
def rowsM (l : List M) : List (List Pd) := l.map mV
theorem rowsM_snoc (l : List M) (a : M) : rowsM l ++ [mV a] = rowsM (l ++ [a]) := by simp [rowsM]
theorem vr_cases (a : M) : vr a = 0 ∨ vr a = 1 ∨ vr a = 2 ∨ vr a = 3 := by unfold vr; (repeat' split) <;> simp
theorem vr_two {a : M} (h : vr a = 2) : 1 ≤ a.2.1 ∧ a.2.2 = 0 := by unfold vr at h; (repeat' split at h) <;> omega
theorem vr_three {a : M} (h : vr a = 3) : 1 ≤ a.2.2 := by unfold vr at h; (repeat' split at h) <;> omega
theorem next_ct (a : M) (v : Nat) (h1 : 1 ≤ v) (h3 : v ≤ 3) (hv : vr a ≤ v) (hb : a.1 ≤ 254 ∧ a.2.1 ≤ 254 ∧ a.2.2 ≤ 254) : Ct Try.prog J0 22 [some 3, none] [mV a, [pV (.int .i64 (v : Nat))]] [some 3] (fun _ => (mV (nx v a)).map (.ro false)) := by
  obtain ⟨b0, b1, b2⟩ := hb
  refine aCtO ⟨true, []⟩ (D := DM) mMix (tr := (.em (.call 13 [.g [.c 0 0, .c 0 1, .c 0 2]] [none]) (.em (.pr (.binOp .sub 3 (.tmp 0) (.const (.int .i64 1)) 3) 3 [.s (.c 2 0), .s (.k (.int .i64 1))]) (.em (.pr (.binOp .lss 3 (.tmp 0) (.const (.int .i64 1)) 3) 4 [.s (.c 3 0), .s (.k (.int .i64 1))]) (.cond (.c 4 0) (.ifeq (.c 1 0) (.int .i64 1) (.em (.pr (.binOp .add 5 (.tmp 0) (.const (.int .u8 1)) 5) 5 [.s (.c 0 0), .s (.k (.int .u8 1))]) (.ret (.v (.g [.c 5 0, .k (.int .u8 0), .k (.int .u8 0)])))) (.ifeq (.c 1 0) (.int .i64 2) (.em (.pr (.binOp .add 5 (.tmp 0) (.const (.int .u8 1)) 5) 5 [.s (.c 0 0), .s (.k (.int .u8 1))]) (.ret (.v (.g [.k (.int .u8 0), .c 5 0, .k (.int .u8 0)])))) (.ifeq (.c 1 0) (.int .i64 3) (.em (.pr (.binOp .add 5 (.tmp 0) (.const (.int .u8 1)) 5) 5 [.s (.c 0 0), .s (.k (.int .u8 1))]) (.ret (.v (.g [.k (.int .u8 0), .k (.int .u8 0), .c 5 0])))) .nope))) (.ifeq (.c 3 0) (.int .i64 1) (.em (.pr (.binOp .sub 5 (.tmp 0) (.const (.int .u8 1)) 5) 5 [.s (.c 0 1), .s (.k (.int .u8 1))]) (.em (.pr (.binOp .add 5 (.tmp 0) (.const (.int .u8 1)) 5) 5 [.s (.c 0 0), .s (.k (.int .u8 1))]) (.ifeq (.c 1 0) (.int .i64 1) (.ret (.v (.g [.c 5 0, .k (.int .u8 0), .c 0 2]))) (.ifeq (.c 1 0) (.int .i64 2) (.ret (.v (.g [.c 6 0, .c 5 0, .c 0 2]))) (.ifeq (.c 1 0) (.int .i64 3) (.ret (.v (.g [.c 6 0, .k (.int .u8 0), .c 5 0]))) .nope))))) (.ifeq (.c 3 0) (.int .i64 2) (.em (.pr (.binOp .sub 5 (.tmp 0) (.const (.int .u8 1)) 5) 5 [.s (.c 0 2), .s (.k (.int .u8 1))]) (.em (.pr (.binOp .add 5 (.tmp 0) (.const (.int .u8 1)) 5) 5 [.s (.c 0 1), .s (.k (.int .u8 1))]) (.ifeq (.c 1 0) (.int .i64 1) (.ret (.v (.g [.c 5 0, .c 6 0, .k (.int .u8 0)]))) (.ifeq (.c 1 0) (.int .i64 2) (.ret (.v (.g [.c 0 0, .c 5 0, .k (.int .u8 0)]))) (.ifeq (.c 1 0) (.int .i64 3) (.ret (.v (.g [.c 0 0, .c 6 0, .c 5 0]))) .nope))))) .nope))))))) (by kernel_rfl) (by kernel_rfl) (by kernel_rfl) rfl (fun _ _ h => by cases h) (fun w0 => ?_)
  refine aCall rfl (vars_ct a) (fun γ => ?_)
  have hc := vr_cases a
  refine aPr rfl (qSub rfl rfl (by omega) (by omega)) rfl ?_
  refine aPr rfl (prLt rfl rfl) rfl ?_
  refine aIf rfl (fun h => ?_) (fun h => ?_)
  · have hl : vr a < 2 := by simp at h; omega
    refine aEq rfl (fun e => ?_) (fun e1 => ?_)
    · have e : v = 1 := by have : (v : Int) = 1 := (by simpa using e); omega
      refine aPr rfl (uAdd (z := (a.1 + 1 : Nat)) rfl rfl (by omega) (by omega) (by omega)) rfl ?_
      exact aRet (fun _ => 0) rfl rfl (by simp [AV.new, nx, hl, e])
    refine aEq rfl (fun e => ?_) (fun e2 => ?_)
    · have e : v = 2 := by have : (v : Int) = 2 := (by simpa using e); omega
      refine aPr rfl (uAdd (z := (a.1 + 1 : Nat)) rfl rfl (by omega) (by omega) (by omega)) rfl ?_
      exact aRet (fun _ => 0) rfl rfl (by simp [AV.new, nx, hl, e])
    refine aEq rfl (fun e => ?_) (fun e3 => ?_)
    · have e : v = 3 := by have : (v : Int) = 3 := (by simpa using e); omega
      refine aPr rfl (uAdd (z := (a.1 + 1 : Nat)) rfl rfl (by omega) (by omega) (by omega)) rfl ?_
      exact aRet (fun _ => 0) rfl rfl (by simp [AV.new, nx, hl, e])
    · exfalso
      have n1 : (v : Int) ≠ 1 := fun e => e1 (by rw [e])
      have n2 : (v : Int) ≠ 2 := fun e => e2 (by rw [e])
      have n3 : (v : Int) ≠ 3 := fun e => e3 (by rw [e])
      omega
  have hl : ¬ vr a < 2 := by simp at h; omega
  refine aEq rfl (fun e => ?_) (fun e1 => ?_)
  · have e : vr a = 2 := by have : (vr a : Int) - 1 = 1 := (by simpa using e); omega
    have ⟨c1, c2⟩ := vr_two e
    refine aPr rfl (uSub (z := (a.2.1 - 1 : Nat)) rfl rfl (by omega) (by omega) (by omega)) rfl ?_
    refine aPr rfl (uAdd (z := (a.1 + 1 : Nat)) rfl rfl (by omega) (by omega) (by omega)) rfl ?_
    refine aEq rfl (fun f => ?_) (fun f1 => ?_)
    · exfalso
      have : (v : Int) = 1 := by simpa using f
      omega
    refine aEq rfl (fun f => ?_) (fun f2 => ?_)
    · have f : v = 2 := by have : (v : Int) = 2 := (by simpa using f); omega
      exact aRet (fun _ => 0) rfl rfl (by simp [AV.new, nx, e, f])
    refine aEq rfl (fun f => ?_) (fun f3 => ?_)
    · have f : v = 3 := by have : (v : Int) = 3 := (by simpa using f); omega
      exact aRet (fun _ => 0) rfl rfl (by simp [AV.new, nx, e, f])
    · exfalso
      have n2 : (v : Int) ≠ 2 := fun e => f2 (by rw [e])
      have n3 : (v : Int) ≠ 3 := fun e => f3 (by rw [e])
      omega
  refine aEq rfl (fun e => ?_) (fun e2 => ?_)
  · have e : vr a = 3 := by have : (vr a : Int) - 1 = 2 := (by simpa using e); omega
    have c1 := vr_three e
    refine aPr rfl (uSub (z := (a.2.2 - 1 : Nat)) rfl rfl (by omega) (by omega) (by omega)) rfl ?_
    refine aPr rfl (uAdd (z := (a.2.1 + 1 : Nat)) rfl rfl (by omega) (by omega) (by omega)) rfl ?_
    refine aEq rfl (fun f => ?_) (fun f1 => ?_)
    · exfalso
      have : (v : Int) = 1 := by simpa using f
      omega
    refine aEq rfl (fun f => ?_) (fun f2 => ?_)
    · exfalso
      have : (v : Int) = 2 := by simpa using f
      omega
    refine aEq rfl (fun f => ?_) (fun f3 => ?_)
    · exact aRet (fun _ => 0) rfl rfl (by simp [AV.new, nx, e])
    · exfalso
      have n3 : (v : Int) ≠ 3 := fun e => f3 (by rw [e])
      omega
  · exfalso
    have n1 : (vr a : Int) - 1 ≠ 1 := fun e => e1 (by rw [e])
    have n2 : (vr a : Int) - 1 ≠ 2 := fun e => e2 (by rw [e])
    omega
def vOf (n : Int) : Nat := (min (max n 0) 3).toNat
def tOf (d : Int) : Nat := (min (max d (-1)) 20 + 1).toNat
theorem below_ct (n d : Int) : Ct Try.prog J0 18 [none, none] [[pV (.int .i64 n)], [pV (.int .i64 d)]] [none] (fun γ => [.own (γ 0) monoR (rowsM (bl (vOf n) (tOf d)))]) := by
  refine aCtO ⟨true, []⟩ (D := DM) mMix (tr := (.em (.pr (.call (.mk (.builtin .max) #[.tmp 0, .const (.int .i64 0)] #[3, 3])) 3 [.s (.c 0 0), .s (.k (.int .i64 0))]) (.em (.pr (.call (.mk (.builtin .min) #[.tmp 0, .const (.int .i64 3)] #[3, 3])) 3 [.s (.c 2 0), .s (.k (.int .i64 3))]) (.em (.pr (.call (.mk (.builtin .min) #[.tmp 0, .const (.int .i64 20)] #[3, 3])) 3 [.s (.c 1 0), .s (.k (.int .i64 20))]) (.em (.pr (.binOp .lss 3 (.tmp 0) (.const (.int .i64 0)) 3) 4 [.s (.c 4 0), .s (.k (.int .i64 0))]) (.cond (.c 5 0) (.ret (.v (.s (.k (.slice none 0 0))))) (.em (.wx (.buildSlice 31 1 #[(0, .tmp 0)]) 31 [.g [.k (.int .u8 0), .k (.int .u8 0), .k (.int .u8 0)]] (some none)) (.em (.pr (.binOp .eql 3 (.tmp 0) (.const (.int .i64 0)) 3) 4 [.s (.c 3 0), .s (.k (.int .i64 0))]) (.cond (.c 7 0) (.ret (.v (.s (.c 6 0)))) (.em (.call 22 [.g [.k (.int .u8 0), .k (.int .u8 0), .k (.int .u8 0)], .s (.c 3 0)] [some 3]) (.loop 0 [.c 6 0, .c 8 0, .c 8 1, .c 8 2] (.em (.call 11 [.g [.c 9 1, .c 9 2, .c 9 3]] [none]) (.em (.pr (.binOp .leq 3 (.tmp 0) (.tmp 1) 3) 4 [.s (.c 10 0), .s (.c 4 0)]) (.cond (.c 11 0) (.em (.wx (.buildSlice 31 1 #[(0, .tmp 0)]) 31 [.g [.c 9 1, .c 9 2, .c 9 3]] (some none)) (.em (.wx (.call (.mk (.builtin .append) #[.tmp 0, .tmp 1] #[31, 31])) 31 [.s (.c 9 0), .s (.c 12 0)] (some none)) (.em (.call 22 [.g [.c 9 1, .c 9 2, .c 9 3], .s (.c 3 0)] [some 3]) (.back 0 [.c 13 0, .c 14 0, .c 14 1, .c 14 2])))) (.ret (.v (.s (.c 9 0)))))))))))))))))) (by kernel_rfl) (by kernel_rfl) (by kernel_rfl) rfl (fun _ _ h => by cases h) (fun w0 => ?_)
  have hv3 : vOf n ≤ 3 := by unfold vOf; omega
  generalize hv : vOf n = v at hv3 ⊢
  refine aPr rfl (qMax rfl rfl rfl) rfl ?_
  refine aPr rfl (qMin (z := (v : Nat)) rfl rfl (by unfold vOf at hv; omega)) rfl ?_
  refine aPr rfl (qMin (z := min d 20) rfl rfl rfl) rfl ?_
  refine aPr rfl (prLt rfl rfl) rfl ?_
  refine aIf rfl (fun h => ?_) (fun h => ?_)
  · have e : tOf d = 0 := by simp at h; unfold tOf; omega
    rw [e]
    exact aRetC (fun _ => 0) rfl rfl (ConvS.own ConvS.nil)
  have hd : 0 ≤ min d 20 := by simp at h; omega
  have hT1 : 1 ≤ tOf d := by unfold tOf; omega
  have hT : tOf d ≤ 21 := by unfold tOf; omega
  have hm : min d 20 = (tOf d : Int) - 1 := by unfold tOf; omega
  generalize tOf d = T at hT1 hT hm ⊢
  rw [hm]
  have hbl : bl v T = its v (Wn v T) (0, 0, 0) := by unfold bl; rw [if_neg (by omega)]
  rw [hbl]
  refine aBuild monoR rfl (fun g => ?_)
  refine aPr rfl (prEq rfl rfl) rfl ?_
  refine aIf rfl (fun h0 => ?_) (fun h0 => ?_)
  · have e : v = 0 := by simpa using h0
    subst e
    exact aRet (fun _ => g) rfl rfl rfl
  have hv1 : 1 ≤ v := by
    have : v ≠ 0 := by simpa using h0
    omega
  refine aCall rfl (next_ct (0, 0, 0) v hv1 hv3 (Nat.zero_le _) ⟨by decide, by decide, by decide⟩) (fun γ => ?_)
  have hw := Wn_small (v := v) hT
  have hw1 : 1 ≤ Wn v T := by
    have := Wn_mono (v := v) hT1
    have h1 : Wn v 1 = 1 := by unfold Wn; split <;> rfl
    omega
  have hw21 := Wn_mono (v := v) hT
  refine aLoopC [(6, 0, fun _ => .junk 1)] (fun s : Nat × Nat => [.own s.2 monoR (rowsM (its v s.1 (0, 0, 0))), .ro false (pV (.int .u8 ((sq v s.1 (0, 0, 0)).1 : Nat))), .ro false (pV (.int .u8 ((sq v s.1 (0, 0, 0)).2.1 : Nat))), .ro false (pV (.int .u8 ((sq v s.1 (0, 0, 0)).2.2 : Nat)))])
    (fun s => 1 ≤ s.1 ∧ s.1 ≤ Wn v T) (fun s => Wn v T - s.1) (1, g) ⟨Nat.le_refl _, hw1⟩ (fun s ⟨hs1, hs⟩ => ?_)
  obtain ⟨i, g1⟩ := s
  simp only at hs1 hs ⊢
  have hq := sqOk hv1 hv3 (i := i) (by omega)
  refine aCall rfl (deg_ct (sq v i (0, 0, 0)) hq.ok) (fun γ => ?_)
  refine aPr rfl (prLe rfl rfl) rfl ?_
  refine aIf rfl (fun h1 => ?_) (fun h1 => ?_)
  · have hlt : i < Wn v T := (hq.deg T).1 (by simp at h1; omega)
    refine aBuild monoR rfl (fun g2 => ?_)
    refine aAppend [] rfl rfl (zs := [.int .u8 0, .int .u8 0, .int .u8 0]) (by simp [rowsM, its_len]; omega) (fun g3 => ?_)
    rw [rowsM_snoc, ← its_succ]
    refine aCall rfl (next_ct (sq v i (0, 0, 0)) v hv1 hv3 hq.vr ⟨hq.b0, hq.b1, hq.b2⟩) (fun γ => ?_)
    exact aBack rfl rfl ⟨(i + 1, g3), rfl, rfl, ⟨by omega, hlt⟩, by show Wn v T - (i + 1) < Wn v T - i; omega⟩
  · have hge : ¬ i < Wn v T := fun h => by have := (hq.deg T).2 h; simp at h1; omega
    have e : i = Wn v T := by omega
    subst e
    exact aRet (fun _ => g1) rfl rfl rfl
end Go.Proofs.Ytbkkecnocnfjcaa

namespace Go.Proofs.Ytbkkecnocnfjcaa
open Go Go.RowKit Cin
theorem rows_len (v T : Nat) : (rowsM (bl v T)).length = lenB v T := by simp [rowsM, bl_len]
theorem rows_at {v T i : Nat} (h : i < lenB v T) : (rowsM (bl v T))[i]? = some (mV (sq v i (0, 0, 0))) := by
  unfold rowsM
  rw [List.getElem?_map, bl_at h]; rfl
theorem tdivN (x y : Nat) : ((x : Int)).tdiv (y : Int) = ((x / y : Nat) : Int) := rfl
theorem vOf_le (n : Int) : vOf n ≤ 3 := by unfold vOf; omega
theorem tOf_le (d : Int) : tOf d ≤ 21 := by unfold tOf; omega
theorem within_ct (x lo hi : Int) (h : lo ≤ hi) (hl : -1000 ≤ lo) (hh : hi ≤ 1000) : Ct Try.prog J0 19 [none, none, none] [[pV (.int .i64 x)], [pV (.int .i64 lo)], [pV (.int .i64 hi)]] [none] (fun _ => [.ro false (pV (.int .i64 (wI x lo hi)))]) := by
  have h1 := Int.tmod_lt_of_pos x (b := hi - lo + 1) (by omega)
  have h2 := Int.lt_tmod_of_pos x (b := hi - lo + 1) (by omega)
  refine aCtO ⟨true, []⟩ (D := DM) mMix (tr := (.em (.pr (.binOp .sub 3 (.tmp 0) (.tmp 1) 3) 3 [.s (.c 2 0), .s (.c 1 0)]) (.em (.pr (.binOp .add 3 (.tmp 0) (.const (.int .i64 1)) 3) 3 [.s (.c 3 0), .s (.k (.int .i64 1))]) (.em (.pr (.binOp .rem 3 (.tmp 0) (.tmp 1) 3) 3 [.s (.c 0 0), .s (.c 4 0)]) (.em (.pr (.binOp .lss 3 (.tmp 0) (.const (.int .i64 0)) 3) 4 [.s (.c 5 0), .s (.k (.int .i64 0))]) (.cond (.c 6 0) (.em (.pr (.binOp .sub 3 (.tmp 0) (.tmp 1) 3) 3 [.s (.c 2 0), .s (.c 1 0)]) (.em (.pr (.binOp .add 3 (.tmp 0) (.const (.int .i64 1)) 3) 3 [.s (.c 7 0), .s (.k (.int .i64 1))]) (.em (.pr (.binOp .add 3 (.tmp 0) (.tmp 1) 3) 3 [.s (.c 5 0), .s (.c 8 0)]) (.em (.pr (.binOp .add 3 (.tmp 0) (.tmp 1) 3) 3 [.s (.c 1 0), .s (.c 9 0)]) (.ret (.v (.s (.c 10 0)))))))) (.em (.pr (.binOp .add 3 (.tmp 0) (.tmp 1) 3) 3 [.s (.c 1 0), .s (.c 5 0)]) (.ret (.v (.s (.c 7 0))))))))))) (by kernel_rfl) (by kernel_rfl) (by kernel_rfl) rfl (fun _ _ h => by cases h) (fun w0 => ?_)
  refine aPr rfl (qSub rfl rfl (by omega) (by omega)) rfl ?_
  refine aPr rfl (qAdd rfl rfl (by omega) (by omega)) rfl ?_
  refine aPr rfl (qRem rfl rfl (by omega)) rfl ?_
  refine aPr rfl (prLt rfl rfl) rfl ?_
  refine aIf rfl (fun e => ?_) (fun e => ?_)
  · refine aPr rfl (qSub rfl rfl (by omega) (by omega)) rfl ?_
    refine aPr rfl (qAdd rfl rfl (by omega) (by omega)) rfl ?_
    refine aPr rfl (qAdd rfl rfl (by omega) (by omega)) rfl ?_
    refine aPr rfl (qAdd rfl rfl (by omega) (by omega)) rfl ?_
    exact aRet (fun _ => 0) rfl rfl (by simp at e; simp [AV.new, wI, e])
  · refine aPr rfl (qAdd rfl rfl (by omega) (by omega)) rfl ?_
    exact aRet (fun _ => 0) rfl rfl (by simp at e; simp [AV.new, wI, Int.not_lt.2 e])
theorem monoBelow_law (n d : Int) : Ct Try.prog J0 5 [none, none] [[pV (.int .i64 n)], [pV (.int .i64 d)]] [none] (fun _ => [.ro false (pV (.bool true))]) := by
  refine aCtO ⟨true, []⟩ (D := DM) mMix (tr := (.em (.call 18 [.s (.c 0 0), .s (.c 1 0)] [none]) (.em (.pr (.call (.mk (.builtin .max) #[.tmp 0, .const (.int .i64 0)] #[3, 3])) 3 [.s (.c 0 0), .s (.k (.int .i64 0))]) (.em (.pr (.call (.mk (.builtin .min) #[.tmp 0, .const (.int .i64 3)] #[3, 3])) 3 [.s (.c 3 0), .s (.k (.int .i64 3))]) (.em (.pr (.call (.mk (.builtin .max) #[.tmp 0, .const (.int .i64 (Int.negSucc 0))] #[3, 3])) 3 [.s (.c 1 0), .s (.k (.int .i64 (Int.negSucc 0)))]) (.em (.pr (.call (.mk (.builtin .min) #[.tmp 0, .const (.int .i64 20)] #[3, 3])) 3 [.s (.c 5 0), .s (.k (.int .i64 20))]) (.loop 0 [.k (.int .i64 1), .k (.int .i64 1)] (.em (.pr (.binOp .leq 3 (.tmp 0) (.tmp 1) 3) 4 [.s (.c 7 1), .s (.c 4 0)]) (.cond (.c 8 0) (.em (.pr (.binOp .add 3 (.tmp 0) (.tmp 1) 3) 3 [.s (.c 6 0), .s (.c 7 1)]) (.em (.pr (.binOp .mul 3 (.tmp 0) (.tmp 1) 3) 3 [.s (.c 7 0), .s (.c 9 0)]) (.em (.pr (.binOp .quo 3 (.tmp 0) (.tmp 1) 3) 3 [.s (.c 10 0), .s (.c 7 1)]) (.em (.pr (.binOp .add 3 (.tmp 0) (.const (.int .i64 1)) 3) 3 [.s (.c 7 1), .s (.k (.int .i64 1))]) (.back 0 [.c 11 0, .c 12 0]))))) (.em (.pr (.binOp .lss 3 (.tmp 0) (.const (.int .i64 0)) 3) 4 [.s (.c 6 0), .s (.k (.int .i64 0))]) (.cond (.c 9 0) (.em (.call 10 [] [none]) (.em (.pr (.unOp .not 4 (.tmp 0)) 4 [.s (.c 10 0)]) (.cond (.c 11 0) (.ret (.v (.s (.k (.bool false))))) (.em (.pr (.call (.mk (.builtin .len) #[.tmp 0] #[31])) 3 [.s (.c 2 0)]) (.em (.pr (.binOp .neq 3 (.tmp 0) (.tmp 1) 3) 4 [.s (.c 12 0), .s (.k (.int .i64 0))]) (.cond (.c 13 0) (.ret (.v (.s (.k (.bool false))))) (.loop 0 [.k (.bool false), .k (.int .i64 0)] (.em (.pr (.call (.mk (.builtin .len) #[.tmp 0] #[31])) 3 [.s (.c 2 0)]) (.em (.pr (.binOp .lss 3 (.tmp 0) (.tmp 1) 3) 4 [.s (.c 14 1), .s (.c 15 0)]) (.cond (.c 16 0) (.em (.pr (.indexAddr 31 (.tmp 0) (.tmp 1)) 0 [.s (.c 2 0), .s (.c 14 1)]) (.em (.ld (.load 23 (.tmp 0)) 23 [.s (.c 17 0)] (some 3)) (.em (.call 12 [.g [.c 18 0, .c 18 1, .c 18 2]] [none]) (.em (.pr (.binOp .gtr 3 (.tmp 0) (.tmp 1) 3) 4 [.s (.c 19 0), .s (.c 6 0)]) (.cond (.c 20 0) (.ret (.v (.s (.k (.bool false))))) (.em (.pr (.indexAddr 31 (.tmp 0) (.tmp 1)) 0 [.s (.c 2 0), .s (.c 14 1)]) (.em (.ld (.load 23 (.tmp 0)) 23 [.s (.c 21 0)] (some 3)) (.em (.call 14 [.g [.c 22 0, .c 22 1, .c 22 2]] [none]) (.em (.pr (.binOp .gtr 3 (.tmp 0) (.tmp 1) 3) 4 [.s (.c 23 0), .s (.c 4 0)]) (.cond (.c 24 0) (.ret (.v (.s (.k (.bool false))))) (.em (.pr (.binOp .gtr 3 (.tmp 0) (.const (.int .i64 0)) 3) 4 [.s (.c 14 1), .s (.k (.int .i64 0))]) (.cond (.c 25 0) (.em (.pr (.binOp .sub 3 (.tmp 0) (.const (.int .i64 1)) 3) 3 [.s (.c 14 1), .s (.k (.int .i64 1))]) (.em (.pr (.indexAddr 31 (.tmp 0) (.tmp 1)) 0 [.s (.c 2 0), .s (.c 26 0)]) (.em (.pr (.indexAddr 31 (.tmp 0) (.tmp 1)) 0 [.s (.c 2 0), .s (.c 14 1)]) (.both (.em (.ld (.load 23 (.tmp 0)) 23 [.s (.c 27 0)] (some 3)) (.em (.ld (.load 23 (.tmp 0)) 23 [.s (.c 28 0)] (some 3)) (.em (.call 16 [.g [.c 29 0, .c 29 1, .c 29 2], .g [.c 30 0, .c 30 1, .c 30 2]] [none]) (.em (.pr (.binOp .geq 3 (.tmp 0) (.const (.int .i64 0)) 3) 4 [.s (.c 31 0), .s (.k (.int .i64 0))]) (.cond (.c 32 0) (.ret (.v (.s (.k (.bool false))))) (.em (.pr (.binOp .add 3 (.tmp 0) (.const (.int .i64 1)) 3) 3 [.s (.c 14 1), .s (.k (.int .i64 1))]) (.back 0 [.c 14 0, .c 33 0]))))))) (.em (.ld (.load 23 (.tmp 0)) 23 [.s (.c 28 0)] (some 3)) (.em (.ld (.load 23 (.tmp 0)) 23 [.s (.c 27 0)] (some 3)) (.em (.call 16 [.g [.c 30 0, .c 30 1, .c 30 2], .g [.c 29 0, .c 29 1, .c 29 2]] [none]) (.em (.pr (.binOp .geq 3 (.tmp 0) (.const (.int .i64 0)) 3) 4 [.s (.c 31 0), .s (.k (.int .i64 0))]) (.cond (.c 32 0) (.ret (.v (.s (.k (.bool false))))) (.em (.pr (.binOp .add 3 (.tmp 0) (.const (.int .i64 1)) 3) 3 [.s (.c 14 1), .s (.k (.int .i64 1))]) (.back 0 [.c 14 0, .c 33 0]))))))))))) (.em (.pr (.binOp .add 3 (.tmp 0) (.const (.int .i64 1)) 3) 3 [.s (.c 14 1), .s (.k (.int .i64 1))]) (.back 0 [.c 14 0, .c 26 0])))))))))))))) (.ret (.v (.s (.k (.bool true))))))))))))))) (.em (.call 10 [] [none]) (.em (.pr (.unOp .not 4 (.tmp 0)) 4 [.s (.c 10 0)]) (.cond (.c 11 0) (.ret (.v (.s (.k (.bool false))))) (.em (.pr (.call (.mk (.builtin .len) #[.tmp 0] #[31])) 3 [.s (.c 2 0)]) (.em (.pr (.binOp .neq 3 (.tmp 0) (.tmp 1) 3) 4 [.s (.c 12 0), .s (.c 7 0)]) (.cond (.c 13 0) (.ret (.v (.s (.k (.bool false))))) (.loop 0 [.k (.bool false), .k (.int .i64 0)] (.em (.pr (.call (.mk (.builtin .len) #[.tmp 0] #[31])) 3 [.s (.c 2 0)]) (.em (.pr (.binOp .lss 3 (.tmp 0) (.tmp 1) 3) 4 [.s (.c 14 1), .s (.c 15 0)]) (.cond (.c 16 0) (.em (.pr (.indexAddr 31 (.tmp 0) (.tmp 1)) 0 [.s (.c 2 0), .s (.c 14 1)]) (.em (.ld (.load 23 (.tmp 0)) 23 [.s (.c 17 0)] (some 3)) (.em (.call 12 [.g [.c 18 0, .c 18 1, .c 18 2]] [none]) (.em (.pr (.binOp .gtr 3 (.tmp 0) (.tmp 1) 3) 4 [.s (.c 19 0), .s (.c 6 0)]) (.cond (.c 20 0) (.ret (.v (.s (.k (.bool false))))) (.em (.pr (.indexAddr 31 (.tmp 0) (.tmp 1)) 0 [.s (.c 2 0), .s (.c 14 1)]) (.em (.ld (.load 23 (.tmp 0)) 23 [.s (.c 21 0)] (some 3)) (.em (.call 14 [.g [.c 22 0, .c 22 1, .c 22 2]] [none]) (.em (.pr (.binOp .gtr 3 (.tmp 0) (.tmp 1) 3) 4 [.s (.c 23 0), .s (.c 4 0)]) (.cond (.c 24 0) (.ret (.v (.s (.k (.bool false))))) (.em (.pr (.binOp .gtr 3 (.tmp 0) (.const (.int .i64 0)) 3) 4 [.s (.c 14 1), .s (.k (.int .i64 0))]) (.cond (.c 25 0) (.em (.pr (.binOp .sub 3 (.tmp 0) (.const (.int .i64 1)) 3) 3 [.s (.c 14 1), .s (.k (.int .i64 1))]) (.em (.pr (.indexAddr 31 (.tmp 0) (.tmp 1)) 0 [.s (.c 2 0), .s (.c 26 0)]) (.em (.pr (.indexAddr 31 (.tmp 0) (.tmp 1)) 0 [.s (.c 2 0), .s (.c 14 1)]) (.both (.em (.ld (.load 23 (.tmp 0)) 23 [.s (.c 27 0)] (some 3)) (.em (.ld (.load 23 (.tmp 0)) 23 [.s (.c 28 0)] (some 3)) (.em (.call 16 [.g [.c 29 0, .c 29 1, .c 29 2], .g [.c 30 0, .c 30 1, .c 30 2]] [none]) (.em (.pr (.binOp .geq 3 (.tmp 0) (.const (.int .i64 0)) 3) 4 [.s (.c 31 0), .s (.k (.int .i64 0))]) (.cond (.c 32 0) (.ret (.v (.s (.k (.bool false))))) (.em (.pr (.binOp .add 3 (.tmp 0) (.const (.int .i64 1)) 3) 3 [.s (.c 14 1), .s (.k (.int .i64 1))]) (.back 0 [.c 14 0, .c 33 0]))))))) (.em (.ld (.load 23 (.tmp 0)) 23 [.s (.c 28 0)] (some 3)) (.em (.ld (.load 23 (.tmp 0)) 23 [.s (.c 27 0)] (some 3)) (.em (.call 16 [.g [.c 30 0, .c 30 1, .c 30 2], .g [.c 29 0, .c 29 1, .c 29 2]] [none]) (.em (.pr (.binOp .geq 3 (.tmp 0) (.const (.int .i64 0)) 3) 4 [.s (.c 31 0), .s (.k (.int .i64 0))]) (.cond (.c 32 0) (.ret (.v (.s (.k (.bool false))))) (.em (.pr (.binOp .add 3 (.tmp 0) (.const (.int .i64 1)) 3) 3 [.s (.c 14 1), .s (.k (.int .i64 1))]) (.back 0 [.c 14 0, .c 33 0]))))))))))) (.em (.pr (.binOp .add 3 (.tmp 0) (.const (.int .i64 1)) 3) 3 [.s (.c 14 1), .s (.k (.int .i64 1))]) (.back 0 [.c 14 0, .c 26 0])))))))))))))) (.ret (.v (.s (.k (.bool true)))))))))))))))))))))))))) (by kernel_rfl) (by kernel_rfl) (by kernel_rfl) rfl (fun _ _ h => by cases h) (fun w0 => ?_)
  have hv3 := vOf_le n
  have hT := tOf_le d
  have hv : min (max n 0) 3 = (vOf n : Int) := by unfold vOf; omega
  have ht : min (max d (-1)) 20 = (tOf d : Int) - 1 := by unfold tOf; omega
  refine aCall rfl (below_ct n d) (fun γ => ?_)
  generalize vOf n = v at hv3 hv ⊢
  generalize tOf d = T at hT ht ⊢
  have hL := lenB_small (v := v) hT
  refine aPr rfl (qMax rfl rfl rfl) rfl ?_
  refine aPr rfl (qMin (z := (v : Nat)) rfl rfl hv) rfl ?_
  refine aPr rfl (qMax rfl rfl rfl) rfl ?_
  refine aPr rfl (qMin (z := (T : Int) - 1) rfl rfl ht) rfl ?_
  refine aLoop (fun s : Nat => [.ro true (pV (.int .i64 (Wn s T : Nat))), .ro true (pV (.int .i64 (s + 1 : Nat)))]) (fun s => s ≤ v) (fun s => v - s) 0 rfl (Nat.zero_le _) (fun s hs => ?_)
  have hw := Wn_small (v := s) hT
  refine aPr rfl (prLe rfl rfl) rfl ?_
  refine aIf rfl (fun h1 => ?_) (fun h1 => ?_)
  · have hsv : s < v := by simp at h1; omega
    have hm : Wn s T * (T + s) ≤ 1771 * 24 := Nat.mul_le_mul hw (by omega)
    refine aPr rfl (qAddE (z := (T + s : Nat)) rfl rfl (by omega) (by omega) (by omega)) rfl ?_
    refine aPr rfl (qMulE (z := (Wn s T * (T + s) : Nat)) rfl rfl (by simp) (by omega) (by omega)) rfl ?_
    have hw1 := Wn_small (v := s + 1) hT
    refine aPr rfl (qQuo (z := (Wn (s + 1) T : Nat)) rfl rfl (by omega) (by rw [tdivN, Wn_step s T (by omega) hT]) (by omega) (by omega)) rfl ?_
    refine aPr rfl (qAddE (z := (s + 1 + 1 : Nat)) rfl rfl (by omega) (by omega) (by omega)) rfl ?_
    exact aBack rfl rfl ⟨s + 1, rfl, rfl, hsv, by show v - (s + 1) < v - s; omega⟩
  have hsv : s = v := by simp at h1; omega
  subst hsv
  refine aPr rfl (prLt rfl rfl) rfl ?_
  refine aIf rfl (fun h2 => ?_) (fun h2 => ?_)
  · have hT0 : T = 0 := by simp at h2; omega
    have hlen : lenB s T = 0 := by unfold lenB; rw [if_pos hT0]
    refine aCall rfl alive7_ct (fun γ => ?_)
    refine aPr rfl (prNot rfl) rfl ?_
    refine aFalse rfl ?_
    refine aLen rfl (rows_len s T) ?_
    refine aPr rfl (qB (c := false) (prNe rfl rfl) (by rw [hlen]; rfl)) rfl ?_
    refine aFalse rfl ?_
    refine aLoop (fun i : Nat => [.ro true (pV (.bool false)), .ro true (pV (.int .i64 (i : Nat)))]) (fun i => i ≤ lenB s T) (fun i => lenB s T - i) 0 rfl (Nat.zero_le _) (fun i hi => ?_)
    refine aLen rfl (rows_len s T) ?_
    refine aPr rfl (prLt rfl rfl) rfl ?_
    refine aIf rfl (fun h5 => ?_) (fun _ => ?_)
    · have hlt : i < lenB s T := by simpa using h5
      have he := elOk hv3 hT hlt
      have hd := he.deg
      have hvr := he.vr
      refine aIdxB rfl rfl (fun _ => rfl) (by omega) (rows_at hlt) ?_
      refine aLd rfl rfl rfl ?_
      refine aCall rfl (rdeg_ct _ he.ok) (fun γ => ?_)
      refine aPr rfl (qB (c := false) (prGt rfl rfl) (by simp; omega)) rfl ?_
      refine aFalse rfl ?_
      refine aIdxB rfl rfl (fun _ => rfl) (by omega) (rows_at hlt) ?_
      refine aLd rfl rfl rfl ?_
      refine aCall rfl (rvars_ct _) (fun γ => ?_)
      refine aPr rfl (qB (c := false) (prGt rfl rfl) (by simp; omega)) rfl ?_
      refine aFalse rfl ?_
      refine aPr rfl (prGt rfl rfl) rfl ?_
      refine aIf rfl (fun h8 => ?_) (fun h8 => ?_)
      · have hi0 : 0 < i := by simpa using h8
        obtain ⟨j, rfl⟩ : ∃ j, i = j + 1 := ⟨i - 1, by omega⟩
        have he0 := elOk hv3 hT (i := j) (by omega)
        have hc := elLt hv3 hT hlt
        refine aPr rfl (qSubE (z := (j : Nat)) rfl rfl (by omega) (by omega) (by omega)) rfl ?_
        refine aIdxB rfl rfl (fun _ => rfl) (by omega) (rows_at (i := j) (by omega)) ?_
        refine aIdxB rfl rfl (fun _ => rfl) (by omega) (rows_at hlt) ?_
        refine aTwo ?_ ?_
        · skip
          refine aLd rfl rfl rfl ?_
          refine aLd rfl rfl rfl ?_
          refine aCall rfl (rmcmp_ct _ _ he0.ok he.ok) (fun γ => ?_)
          refine aPr rfl (qB (c := false) (prGe rfl rfl) (by simp; omega)) rfl ?_
          refine aFalse rfl ?_
          refine aPr rfl (qAddE (z := (j + 1 + 1 : Nat)) rfl rfl (by omega) (by omega) (by omega)) rfl ?_
          exact aBack rfl rfl ⟨j + 1 + 1, rfl, rfl, hlt, by show lenB s T - (j + 1 + 1) < lenB s T - (j + 1); omega⟩
        · skip
          refine aLd rfl rfl rfl ?_
          refine aLd rfl rfl rfl ?_
          refine aCall rfl (rmcmp_ct _ _ he0.ok he.ok) (fun γ => ?_)
          refine aPr rfl (qB (c := false) (prGe rfl rfl) (by simp; omega)) rfl ?_
          refine aFalse rfl ?_
          refine aPr rfl (qAddE (z := (j + 1 + 1 : Nat)) rfl rfl (by omega) (by omega) (by omega)) rfl ?_
          exact aBack rfl rfl ⟨j + 1 + 1, rfl, rfl, hlt, by show lenB s T - (j + 1 + 1) < lenB s T - (j + 1); omega⟩
      · refine aPr rfl (qAddE (z := (i + 1 : Nat)) rfl rfl (by omega) (by omega) (by omega)) rfl ?_
        exact aBack rfl rfl ⟨i + 1, rfl, rfl, hlt, by show lenB s T - (i + 1) < lenB s T - i; omega⟩
    · exact aRet (fun _ => 0) rfl rfl rfl
  · have hT0 : T ≠ 0 := by simp at h2; omega
    have hlen : lenB s T = Wn s T := by unfold lenB; rw [if_neg hT0]
    refine aCall rfl alive7_ct (fun γ => ?_)
    refine aPr rfl (prNot rfl) rfl ?_
    refine aFalse rfl ?_
    refine aLen rfl (rows_len s T) ?_
    refine aPr rfl (qB (c := false) (prNe rfl rfl) (by rw [hlen]; simp)) rfl ?_
    refine aFalse rfl ?_
    refine aLoop (fun i : Nat => [.ro true (pV (.bool false)), .ro true (pV (.int .i64 (i : Nat)))]) (fun i => i ≤ lenB s T) (fun i => lenB s T - i) 0 rfl (Nat.zero_le _) (fun i hi => ?_)
    refine aLen rfl (rows_len s T) ?_
    refine aPr rfl (prLt rfl rfl) rfl ?_
    refine aIf rfl (fun h5 => ?_) (fun _ => ?_)
    · have hlt : i < lenB s T := by simpa using h5
      have he := elOk hv3 hT hlt
      have hd := he.deg
      have hvr := he.vr
      refine aIdxB rfl rfl (fun _ => rfl) (by omega) (rows_at hlt) ?_
      refine aLd rfl rfl rfl ?_
      refine aCall rfl (rdeg_ct _ he.ok) (fun γ => ?_)
      refine aPr rfl (qB (c := false) (prGt rfl rfl) (by simp; omega)) rfl ?_
      refine aFalse rfl ?_
      refine aIdxB rfl rfl (fun _ => rfl) (by omega) (rows_at hlt) ?_
      refine aLd rfl rfl rfl ?_
      refine aCall rfl (rvars_ct _) (fun γ => ?_)
      refine aPr rfl (qB (c := false) (prGt rfl rfl) (by simp; omega)) rfl ?_
      refine aFalse rfl ?_
      refine aPr rfl (prGt rfl rfl) rfl ?_
      refine aIf rfl (fun h8 => ?_) (fun h8 => ?_)
      · have hi0 : 0 < i := by simpa using h8
        obtain ⟨j, rfl⟩ : ∃ j, i = j + 1 := ⟨i - 1, by omega⟩
        have he0 := elOk hv3 hT (i := j) (by omega)
        have hc := elLt hv3 hT hlt
        refine aPr rfl (qSubE (z := (j : Nat)) rfl rfl (by omega) (by omega) (by omega)) rfl ?_
        refine aIdxB rfl rfl (fun _ => rfl) (by omega) (rows_at (i := j) (by omega)) ?_
        refine aIdxB rfl rfl (fun _ => rfl) (by omega) (rows_at hlt) ?_
        refine aTwo ?_ ?_
        · skip
          refine aLd rfl rfl rfl ?_
          refine aLd rfl rfl rfl ?_
          refine aCall rfl (rmcmp_ct _ _ he0.ok he.ok) (fun γ => ?_)
          refine aPr rfl (qB (c := false) (prGe rfl rfl) (by simp; omega)) rfl ?_
          refine aFalse rfl ?_
          refine aPr rfl (qAddE (z := (j + 1 + 1 : Nat)) rfl rfl (by omega) (by omega) (by omega)) rfl ?_
          exact aBack rfl rfl ⟨j + 1 + 1, rfl, rfl, hlt, by show lenB s T - (j + 1 + 1) < lenB s T - (j + 1); omega⟩
        · skip
          refine aLd rfl rfl rfl ?_
          refine aLd rfl rfl rfl ?_
          refine aCall rfl (rmcmp_ct _ _ he0.ok he.ok) (fun γ => ?_)
          refine aPr rfl (qB (c := false) (prGe rfl rfl) (by simp; omega)) rfl ?_
          refine aFalse rfl ?_
          refine aPr rfl (qAddE (z := (j + 1 + 1 : Nat)) rfl rfl (by omega) (by omega) (by omega)) rfl ?_
          exact aBack rfl rfl ⟨j + 1 + 1, rfl, rfl, hlt, by show lenB s T - (j + 1 + 1) < lenB s T - (j + 1); omega⟩
      · refine aPr rfl (qAddE (z := (i + 1 : Nat)) rfl rfl (by omega) (by omega) (by omega)) rfl ?_
        exact aBack rfl rfl ⟨i + 1, rfl, rfl, hlt, by show lenB s T - (i + 1) < lenB s T - i; omega⟩
    · exact aRet (fun _ => 0) rfl rfl rfl
theorem monoMore_law (n d : Int) : Ct Try.prog J0 7 [none, none] [[pV (.int .i64 n)], [pV (.int .i64 d)]] [none] (fun _ => [.ro false (pV (.bool true))]) := by
  refine aCtO ⟨true, []⟩ (D := DM) mMix (tr := (.em (.call 19 [.s (.c 0 0), .s (.k (.int .i64 0)), .s (.k (.int .i64 2))] [none]) (.em (.call 19 [.s (.c 1 0), .s (.k (.int .i64 (Int.negSucc 0))), .s (.k (.int .i64 7))] [none]) (.em (.call 18 [.s (.c 2 0), .s (.c 3 0)] [none]) (.em (.pr (.binOp .add 3 (.tmp 0) (.const (.int .i64 1)) 3) 3 [.s (.c 3 0), .s (.k (.int .i64 1))]) (.em (.call 18 [.s (.c 2 0), .s (.c 5 0)] [none]) (.em (.pr (.binOp .add 3 (.tmp 0) (.const (.int .i64 1)) 3) 3 [.s (.c 2 0), .s (.k (.int .i64 1))]) (.em (.call 18 [.s (.c 7 0), .s (.c 3 0)] [none]) (.em (.call 10 [] [none]) (.em (.pr (.unOp .not 4 (.tmp 0)) 4 [.s (.c 9 0)]) (.cond (.c 10 0) (.ret (.v (.s (.k (.bool false))))) (.em (.pr (.call (.mk (.builtin .len) #[.tmp 0] #[31])) 3 [.s (.c 4 0)]) (.em (.pr (.call (.mk (.builtin .len) #[.tmp 0] #[31])) 3 [.s (.c 6 0)]) (.em (.pr (.binOp .gtr 3 (.tmp 0) (.tmp 1) 3) 4 [.s (.c 11 0), .s (.c 12 0)]) (.cond (.c 13 0) (.ret (.v (.s (.k (.bool false))))) (.em (.pr (.call (.mk (.builtin .len) #[.tmp 0] #[31])) 3 [.s (.c 4 0)]) (.em (.pr (.call (.mk (.builtin .len) #[.tmp 0] #[31])) 3 [.s (.c 8 0)]) (.em (.pr (.binOp .gtr 3 (.tmp 0) (.tmp 1) 3) 4 [.s (.c 14 0), .s (.c 15 0)]) (.cond (.c 16 0) (.ret (.v (.s (.k (.bool false))))) (.loop 0 [.k (.bool false), .k (.int .i64 0)] (.em (.pr (.call (.mk (.builtin .len) #[.tmp 0] #[31])) 3 [.s (.c 4 0)]) (.em (.pr (.binOp .lss 3 (.tmp 0) (.tmp 1) 3) 4 [.s (.c 17 1), .s (.c 18 0)]) (.cond (.c 19 0) (.em (.pr (.indexAddr 31 (.tmp 0) (.tmp 1)) 0 [.s (.c 4 0), .s (.c 17 1)]) (.em (.pr (.indexAddr 31 (.tmp 0) (.tmp 1)) 0 [.s (.c 6 0), .s (.c 17 1)]) (.em (.ld (.load 23 (.tmp 0)) 23 [.s (.c 20 0)] (some 3)) (.em (.ld (.load 23 (.tmp 0)) 23 [.s (.c 21 0)] (some 3)) (.em (.pr (.binOp .neq 23 (.tmp 0) (.tmp 1) 23) 4 [.g [.c 22 0, .c 22 1, .c 22 2], .g [.c 23 0, .c 23 1, .c 23 2]]) (.cond (.c 24 0) (.ret (.v (.s (.k (.bool false))))) (.em (.pr (.binOp .add 3 (.tmp 0) (.const (.int .i64 1)) 3) 3 [.s (.c 17 1), .s (.k (.int .i64 1))]) (.back 0 [.c 17 0, .c 25 0])))))))) (.loop 0 [.k (.int .i64 0), .k (.int .i64 0)] (.em (.pr (.call (.mk (.builtin .len) #[.tmp 0] #[31])) 3 [.s (.c 8 0)]) (.em (.pr (.binOp .lss 3 (.tmp 0) (.tmp 1) 3) 4 [.s (.c 20 1), .s (.c 21 0)]) (.cond (.c 22 0) (.em (.pr (.call (.mk (.builtin .len) #[.tmp 0] #[31])) 3 [.s (.c 4 0)]) (.em (.pr (.binOp .lss 3 (.tmp 0) (.tmp 1) 3) 4 [.s (.c 20 0), .s (.c 23 0)]) (.cond (.c 24 0) (.em (.pr (.indexAddr 31 (.tmp 0) (.tmp 1)) 0 [.s (.c 8 0), .s (.c 20 1)]) (.em (.pr (.indexAddr 31 (.tmp 0) (.tmp 1)) 0 [.s (.c 4 0), .s (.c 20 0)]) (.em (.ld (.load 23 (.tmp 0)) 23 [.s (.c 25 0)] (some 3)) (.em (.ld (.load 23 (.tmp 0)) 23 [.s (.c 26 0)] (some 3)) (.em (.pr (.binOp .eql 23 (.tmp 0) (.tmp 1) 23) 4 [.g [.c 27 0, .c 27 1, .c 27 2], .g [.c 28 0, .c 28 1, .c 28 2]]) (.cond (.c 29 0) (.em (.pr (.binOp .add 3 (.tmp 0) (.const (.int .i64 1)) 3) 3 [.s (.c 20 0), .s (.k (.int .i64 1))]) (.em (.pr (.binOp .add 3 (.tmp 0) (.const (.int .i64 1)) 3) 3 [.s (.c 20 1), .s (.k (.int .i64 1))]) (.back 0 [.c 30 0, .c 31 0]))) (.em (.pr (.binOp .add 3 (.tmp 0) (.const (.int .i64 1)) 3) 3 [.s (.c 20 1), .s (.k (.int .i64 1))]) (.back 0 [.c 20 0, .c 30 0])))))))) (.em (.pr (.call (.mk (.builtin .len) #[.tmp 0] #[31])) 3 [.s (.c 4 0)]) (.em (.pr (.binOp .eql 3 (.tmp 0) (.tmp 1) 3) 4 [.s (.c 20 0), .s (.c 25 0)]) (.ret (.v (.s (.c 26 0))))))))) (.em (.pr (.call (.mk (.builtin .len) #[.tmp 0] #[31])) 3 [.s (.c 4 0)]) (.em (.pr (.binOp .eql 3 (.tmp 0) (.tmp 1) 3) 4 [.s (.c 20 0), .s (.c 23 0)]) (.ret (.v (.s (.c 24 0))))))))))))))))))))))))))))))))) (by kernel_rfl) (by kernel_rfl) (by kernel_rfl) rfl (fun _ _ h => by cases h) (fun w0 => ?_)
  refine aCall rfl (within_ct n 0 2 (by decide) (by decide) (by decide)) (fun γ => ?_)
  refine aCall rfl (within_ct d (-1) 7 (by decide) (by decide) (by decide)) (fun γ => ?_)
  obtain ⟨n0, n1⟩ := wI_rng (x := n) (lo := 0) (hi := 2) (by decide)
  obtain ⟨d0, d1⟩ := wI_rng (x := d) (lo := -1) (hi := 7) (by decide)
  generalize wI n 0 2 = N at n0 n1 ⊢
  generalize wI d (-1) 7 = e at d0 d1 ⊢
  refine aCall rfl (below_ct N e) (fun γ4 => ?_)
  refine aPr rfl (qAdd rfl rfl (by omega) (by omega)) rfl ?_
  refine aCall rfl (below_ct N (e + 1)) (fun γ6 => ?_)
  refine aPr rfl (qAdd rfl rfl (by omega) (by omega)) rfl ?_
  refine aCall rfl (below_ct (N + 1) e) (fun γ8 => ?_)
  have e1 : tOf (e + 1) = tOf e + 1 := by unfold tOf; omega
  have e2 : vOf (N + 1) = vOf N + 1 := by unfold vOf; omega
  have hv : vOf N < 3 := by unfold vOf; omega
  have hT : tOf e < 9 := by unfold tOf; omega
  rw [e1, e2]
  generalize vOf N = v at hv ⊢
  generalize tOf e = T at hT ⊢
  have la := lenB_small (v := v) (T := T) (by omega)
  have lb := lenB_small (v := v) (T := T + 1) (by omega)
  have lc := lenB_small (v := v + 1) (T := T) (by omega)
  have l1 := lenB_more (v := v) (T := T)
  have l2 := lenB_wide hv hT
  refine aCall rfl alive7_ct (fun γ => ?_)
  refine aPr rfl (prNot rfl) rfl ?_
  refine aFalse rfl ?_
  refine aLen rfl (rows_len v T) ?_
  refine aLen rfl (rows_len v (T + 1)) ?_
  refine aPr rfl (qB (c := false) (prGt rfl rfl) (by simp; omega)) rfl ?_
  refine aFalse rfl ?_
  refine aLen rfl (rows_len v T) ?_
  refine aLen rfl (rows_len (v + 1) T) ?_
  refine aPr rfl (qB (c := false) (prGt rfl rfl) (by simp; omega)) rfl ?_
  refine aFalse rfl ?_
  refine aLoop (fun i : Nat => [.ro true (pV (.bool false)), .ro true (pV (.int .i64 (i : Nat)))]) (fun i => i ≤ lenB v T) (fun i => lenB v T - i) 0 rfl (Nat.zero_le _) (fun i hi => ?_)
  refine aLen rfl (rows_len v T) ?_
  refine aPr rfl (prLt rfl rfl) rfl ?_
  refine aIf rfl (fun h5 => ?_) (fun _ => ?_)
  · have hlt : i < lenB v T := by simpa using h5
    refine aIdxB rfl rfl (fun _ => rfl) (by omega) (rows_at hlt) ?_
    refine aIdxB rfl rfl (fun _ => rfl) (by omega) (rows_at (T := T + 1) (by omega)) ?_
    refine aLd rfl rfl rfl ?_
    refine aLd rfl rfl rfl ?_
    refine aPr rfl (qB (c := false) (qNe3 (sq v i (0, 0, 0)) (sq v i (0, 0, 0)) uM uU iU rfl gM rfl rfl) (by simp)) rfl ?_
    refine aFalse rfl ?_
    refine aPr rfl (qAddE (z := (i + 1 : Nat)) rfl rfl (by omega) (by omega) (by omega)) rfl ?_
    exact aBack rfl rfl ⟨i + 1, rfl, rfl, hlt, by show lenB v T - (i + 1) < lenB v T - i; omega⟩
  refine aLoop (fun s : Nat × Nat => [.ro true (pV (.int .i64 (s.1 : Nat))), .ro true (pV (.int .i64 (s.2 : Nat)))]) (fun s => s.1 ≤ lenB v T ∧ s.2 ≤ lenB (v + 1) T ∧ gw v (lenB (v + 1) T - s.2) (sq (v + 1) s.2 (0, 0, 0)) (lenB v T - s.1) (sq v s.1 (0, 0, 0)) = true) (fun s => lenB (v + 1) T - s.2) (0, 0) rfl
    ⟨Nat.zero_le _, Nat.zero_le _, gw_all hv hT⟩ (fun s ⟨hk, hj, hg⟩ => ?_)
  obtain ⟨k, j⟩ := s
  simp only at hk hj hg ⊢
  refine aLen rfl (rows_len (v + 1) T) ?_
  refine aPr rfl (prLt rfl rfl) rfl ?_
  refine aIf rfl (fun h6 => ?_) (fun h6 => ?_)
  · have hjl : j < lenB (v + 1) T := by simpa using h6
    refine aLen rfl (rows_len v T) ?_
    refine aPr rfl (prLt rfl rfl) rfl ?_
    refine aIf rfl (fun h7 => ?_) (fun h7 => ?_)
    · have hkl : k < lenB v T := by simpa using h7
      refine aIdxB rfl rfl (fun _ => rfl) (by omega) (rows_at hjl) ?_
      refine aIdxB rfl rfl (fun _ => rfl) (by omega) (rows_at hkl) ?_
      refine aLd rfl rfl rfl ?_
      refine aLd rfl rfl rfl ?_
      refine aPr rfl (qEq3 (sq (v + 1) j (0, 0, 0)) (sq v k (0, 0, 0)) uM uU iU rfl gM rfl rfl) rfl ?_
      rw [show lenB (v + 1) T - j = (lenB (v + 1) T - (j + 1)) + 1 by omega, show lenB v T - k = (lenB v T - (k + 1)) + 1 by omega] at hg
      refine aIf rfl (fun h8 => ?_) (fun h8 => ?_)
      · have he : sq (v + 1) j (0, 0, 0) = sq v k (0, 0, 0) := by simpa using h8
        have hg2 := gw_hit (v := v) (c := sq v k (0, 0, 0)) (by rw [← he] at hg ⊢; exact hg)
        refine aPr rfl (qAddE (z := (k + 1 : Nat)) rfl rfl (by omega) (by omega) (by omega)) rfl ?_
        refine aPr rfl (qAddE (z := (j + 1 : Nat)) rfl rfl (by omega) (by omega) (by omega)) rfl ?_
        exact aBack rfl rfl ⟨(k + 1, j + 1), rfl, rfl, ⟨hkl, hjl, by show gw v _ (nx (v + 1) (sq (v + 1) j (0, 0, 0))) _ (nx v (sq v k (0, 0, 0))) = true; rw [he]; exact hg2⟩, by show lenB (v + 1) T - (j + 1) < lenB (v + 1) T - j; omega⟩
      · have he : sq (v + 1) j (0, 0, 0) ≠ sq v k (0, 0, 0) := by simpa using h8
        have hg2 := gw_miss he hg
        refine aPr rfl (qAddE (z := (j + 1 : Nat)) rfl rfl (by omega) (by omega) (by omega)) rfl ?_
        exact aBack rfl rfl ⟨(k, j + 1), rfl, rfl, ⟨by show k ≤ _; omega, hjl, by show gw v _ (nx (v + 1) (sq (v + 1) j (0, 0, 0))) (lenB v T - k) _ = true; rw [show lenB v T - k = (lenB v T - (k + 1)) + 1 by omega]; exact hg2⟩, by show lenB (v + 1) T - (j + 1) < lenB (v + 1) T - j; omega⟩
    · have hkl : k = lenB v T := by simp at h7; omega
      refine aLen rfl (rows_len v T) ?_
      refine aPr rfl (qB (c := true) (prEq rfl rfl) (by rw [hkl]; simp)) rfl ?_
      exact aRet (fun _ => 0) rfl rfl rfl
  · have hjl : j = lenB (v + 1) T := by simp at h6; omega
    subst hjl
    rw [Nat.sub_self] at hg
    have hkl : k = lenB v T := by have := gw_end hg; omega
    refine aLen rfl (rows_len v T) ?_
    refine aPr rfl (qB (c := true) (prEq rfl rfl) (by rw [hkl]; simp)) rfl ?_
    exact aRet (fun _ => 0) rfl rfl rfl
theorem monoBelow_any (n d : Int) (W : World) : Calls Try.prog 5 #[.int .i64 n, .int .i64 d] W fun e w' => e = .returned (.bool true) ∧ Below W.heap.size W w' :=
  (monoBelow_law n d (at7 W) [[.int .i64 n], [.int .i64 d]] trivial ⟨[_], _, rfl, rfl, ⟨[_], _, rfl, ⟨rfl, rfl⟩, rfl⟩, [_], _, rfl, rfl, ⟨[_], _, rfl, ⟨rfl, rfl⟩, rfl⟩, rfl⟩).mono fun _ _ h => told7 h
theorem monoMore_any (n d : Int) (W : World) : Calls Try.prog 7 #[.int .i64 n, .int .i64 d] W fun e w' => e = .returned (.bool true) ∧ Below W.heap.size W w' :=
  (monoMore_law n d (at7 W) [[.int .i64 n], [.int .i64 d]] trivial ⟨[_], _, rfl, rfl, ⟨[_], _, rfl, ⟨rfl, rfl⟩, rfl⟩, [_], _, rfl, rfl, ⟨[_], _, rfl, ⟨rfl, rfl⟩, rfl⟩, rfl⟩).mono fun _ _ h => told7 h
end Go.Proofs.Ytbkkecnocnfjcaa
