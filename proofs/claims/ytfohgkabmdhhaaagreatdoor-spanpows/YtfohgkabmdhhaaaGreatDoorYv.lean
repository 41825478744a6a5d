/- Contracts of the document's intervals: sums, products, powers, questions. -/
import Derived.Test.YtfohgkabmdhhaaaGreatDoorYu
import Derived.ChangeSame
import Derived.ChangeMaps5
namespace Go.Proofs.YtfohgkabmdhhaaaGreatDoor
open Go.RowKit Cin
theorem two_list (p q : Rat) : (∀ z ∈ [p, q], mn p q ≤ z ∧ z ≤ mx p q) ∧ mn p q ∈ [p, q] ∧ mx p q ∈ [p, q] := by
  have g1 := mn_l p q
  have g2 := mn_r p q
  have g3 := mx_l p q
  have g4 := mx_r p q
  refine ⟨?_, ?_, ?_⟩
  · intro z hz
    simp only [List.mem_cons, List.not_mem_nil, or_false] at hz
    rcases hz with rfl | rfl
    · exact ⟨g1, g3⟩
    · exact ⟨g2, g4⟩
  · simp only [List.mem_cons, List.not_mem_nil, or_false]; exact mn_or p q
  · simp only [List.mem_cons, List.not_mem_nil, or_false]; exact mx_or p q
theorem zero_list {p q : Rat} (hp : 0 ≤ p) (hq : 0 ≤ q) : (∀ z ∈ [p, q] ++ [0], 0 ≤ z ∧ z ≤ mx p q) ∧ 0 ∈ [p, q] ++ [0] ∧ mx p q ∈ [p, q] ++ [0] := by
  have g3 := mx_l p q
  have g4 := mx_r p q
  have g5 := mx_or p q
  refine ⟨?_, ?_, ?_⟩
  · intro z hz
    simp only [List.cons_append, List.nil_append, List.mem_cons, List.not_mem_nil, or_false] at hz
    rcases hz with rfl | rfl | rfl
    · exact ⟨hp, g3⟩
    · exact ⟨hq, g4⟩
    · exact ⟨Rat.le_refl, by grind⟩
  · simp
  · simp only [List.cons_append, List.nil_append, List.mem_cons, List.not_mem_nil, or_false]
    rcases g5 with h | h
    · exact .inl h
    · exact .inr (.inl h)
theorem even_eq (m : Nat) : (((m : Int).tmod 2) == 0) = decide (m % 2 = 0) := by
  have e : ((m : Int).tmod 2) = ((m % 2 : Nat) : Int) := by rw [Int.tmod_eq_emod_of_nonneg (by omega)]; omega
  rw [e]
  rcases Nat.mod_two_eq_zero_or_one m with g | g <;> rw [g] <;> rfl
set_option maxHeartbeats 1000000 in
theorem dspow_any (v : Value) (x y : Rat) (n : Int) (k : Nat) (w : World) (h : DsB w v x y k) (hk : k ≤ 21) (hn : cut255 n ≤ 40) :
    Calls Tryz.prog 34 #[v, .int .i64 n] w fun e w' => ∃ v', e = .returned v' ∧ DsB w' v' (pLo x y (cut255 n)) (pHi x y (cut255 n)) (k * cut255 n + 1) ∧ Below w.heap.size w w' := by
  obtain ⟨ie, hie, hz, hsz, hby⟩ := rr_info
  have l1 := two_list (x ^ cut255 n) (y ^ cut255 n)
  have kn : k * cut255 n ≤ 21 * 40 := Nat.mul_le_mul hk hn
  have hcc : cut255 (((cut255 n : Nat)) : Int) = cut255 n := cut_cut n
  obtain ⟨a, b, d, a', b', d', rfl, h⟩ := h
  refine go2 DD dd2 (fun w => DsQ w a b d a' b' d' x y k) [[a, b, d, a', b', d'], [.int .i64 n]] [some 6, none] (tr := (.em (.pr (.call (.mk (.builtin .max) #[.tmp 0, .const (.int .i64 0)] #[3, 3])) 3 [.s (.c 1 0), .s (.k (.int .i64 0))]) (.em (.pr (.call (.mk (.builtin .min) #[.tmp 0, .const (.int .i64 255)] #[3, 3])) 3 [.s (.c 2 0), .s (.k (.int .i64 255))]) (.em (.call 80 [.g [.c 0 0, .c 0 1, .c 0 2], .s (.c 3 0)] [some 3]) (.em (.call 80 [.g [.c 0 3, .c 0 4, .c 0 5], .s (.c 3 0)] [some 3]) (.em (.wx (.buildSlice 72 2 #[(0, .tmp 0), (1, .tmp 1)]) 72 [.g [.c 4 0, .c 4 1, .c 4 2], .g [.c 5 0, .c 5 1, .c 5 2]] (some none)) (.em (.pr (.binOp .gtr 3 (.tmp 0) (.const (.int .i64 0)) 3) 4 [.s (.c 3 0), .s (.k (.int .i64 0))]) (.cond (.c 7 0) (.em (.pr (.binOp .rem 3 (.tmp 0) (.const (.int .i64 2)) 3) 3 [.s (.c 3 0), .s (.k (.int .i64 2))]) (.em (.pr (.binOp .eql 3 (.tmp 0) (.const (.int .i64 0)) 3) 4 [.s (.c 8 0), .s (.k (.int .i64 0))]) (.cond (.c 9 0) (.em (.call 81 [.g [.c 0 0, .c 0 1]] [none]) (.em (.pr (.binOp .lss 3 (.tmp 0) (.const (.int .i64 0)) 3) 4 [.s (.c 10 0), .s (.k (.int .i64 0))]) (.cond (.c 11 0) (.em (.call 81 [.g [.c 0 3, .c 0 4]] [none]) (.em (.pr (.binOp .gtr 3 (.tmp 0) (.const (.int .i64 0)) 3) 4 [.s (.c 12 0), .s (.k (.int .i64 0))]) (.cond (.c 13 0) (.em (.call 63 [.s (.k (.int .i64 0))] [some 3]) (.em (.wx (.buildSlice 72 1 #[(0, .tmp 0)]) 72 [.g [.c 14 0, .c 14 1, .c 14 2]] (some none)) (.em (.wx (.call (.mk (.builtin .append) #[.tmp 0, .tmp 1] #[72, 72])) 72 [.s (.c 6 0), .s (.c 15 0)] (some none)) (.em (.call 37 [.s (.c 16 0)] [some 6]) (.ret (.v (.g [.c 17 0, .c 17 1, .c 17 2, .c 17 3, .c 17 4, .c 17 5]))))))) (.em (.call 37 [.s (.c 6 0)] [some 6]) (.ret (.v (.g [.c 14 0, .c 14 1, .c 14 2, .c 14 3, .c 14 4, .c 14 5]))))))) (.em (.call 37 [.s (.c 6 0)] [some 6]) (.ret (.v (.g [.c 12 0, .c 12 1, .c 12 2, .c 12 3, .c 12 4, .c 12 5]))))))) (.em (.call 37 [.s (.c 6 0)] [some 6]) (.ret (.v (.g [.c 10 0, .c 10 1, .c 10 2, .c 10 3, .c 10 4, .c 10 5]))))))) (.em (.call 37 [.s (.c 6 0)] [some 6]) (.ret (.v (.g [.c 8 0, .c 8 1, .c 8 2, .c 8 3, .c 8 4, .c 8 5])))))))))))) (by kernel_rfl) (by kernel_rfl) (by kernel_rfl) (mDs _ _ _ _ _ _ _ _ _ hU2) h ⟨dspl h, rfl, trivial⟩ ?_
  refine wPr (prMax rfl rfl) rfl ?_
  refine wPr (prMinE rfl rfl (min_max_255 n)) rfl ?_
  refine wDQ (fun w b h => by have := dpow_any _ x ((cut255 n : Nat) : Int) k w ⟨_, _, _, rfl, h.1⟩ (by omega) (by omega); rwa [hcc] at this) (fun a1 b1 d1 => ?_)
  refine wDQ (fun w b ⟨_, h⟩ => by have := dpow_any _ y ((cut255 n : Nat) : Int) k w ⟨_, _, _, rfl, h.2⟩ (by omega) (by omega); rwa [hcc] at this) (fun a2 b2 d2 => ?_)
  refine wBuild [[a1, b1, d1], [a2, b2, d2]] hSlR hie hz hsz hR2 (by kernel_rfl) rfl (by simp) (by omega) (by omega) (by decide) (fun g => ?_)
  refine wPr (prGt rfl rfl) rfl ?_
  refine wIf _ rfl (fun e0 => ?_) (fun e0 => ?_)
  · skip
    have n0 : cut255 n ≠ 0 := by have : (0 : Int) < ((cut255 n : Nat) : Int) := (by simpa using e0); omega
    refine wPr (prRemI rfl rfl (by decide)) rfl ?_
    refine wPr (prEq rfl rfl) rfl ?_
    refine wIf _ rfl (fun e1 => ?_) (fun e1 => ?_)
    · skip
      have n2 : cut255 n % 2 = 0 := by rw [even_eq] at e1; simpa using e1
      refine wVal (fun w b h => rsign_any _ x.num k w h.2.2.2.1.1) rfl ?_
      refine wPr (prLt rfl rfl) rfl ?_
      refine wIf _ rfl (fun e2 => ?_) (fun e2 => ?_)
      · skip
        have x0 := sgT_lt e2
        refine wVal (fun w b h => rsign_any _ y.num k w h.2.2.2.2.1) rfl ?_
        refine wPr (prGt rfl rfl) rfl ?_
        refine wIf _ rfl (fun e3 => ?_) (fun e3 => ?_)
        · skip
          have y0 := sgT_gt e3
          have hlo : pLo x y (cut255 n) = 0 := if_pos ⟨n0, n2, x0, y0⟩
          have l2 := zero_list (pow_ev0 (x := x) n2) (pow_ev0 (x := y) n2)
          refine wDQ (fun w b _ => dofZero_any w) (fun a3 b3 d3 => ?_)
          refine wBuild [[a3, b3, d3]] hSlR hie hz hsz hR2 (by kernel_rfl) rfl (by simp) (by omega) (by omega) (by decide) (fun g2 => ?_)
          refine wEx fun u0 hu0 => ⟨_, (monoRow hR2 _ _ _ _).and ((mD _ _ _ _ _ hU2).and ((monoRow hR2 _ _ _ _).and ((mD _ _ _ _ _ hU2).and ((mD _ _ _ _ _ hU2).and (mDs _ _ _ _ _ _ _ _ _ hU2))))), hu0, ?_⟩
          have p3 : ∀ y ∈ [[a3, b3, d3]].flatten, y.oneCell' = true := by have := dpl hu0.2.1; simpa using this
          refine wApp [[a1, b1, d1], [a2, b2, d2]] [[a3, b3, d3]] (fun w => DQ w a3 b3 d3 0 1 ∧ DQ w a2 b2 d2 (y ^ cut255 n) (k * cut255 n + 1) ∧ DQ w a1 b1 d1 (x ^ cut255 n) (k * cut255 n + 1)) ((mD _ _ _ _ _ hU).and ((mD _ _ _ _ _ hU).and (mD _ _ _ _ _ hU))) ((mD _ _ _ _ _ hU2).and ((mD _ _ _ _ _ hU2).and (mD _ _ _ _ _ hU2))) hSlR hie hz hsz hby rfl (by decide) hR2 rfl rfl rfl p3 (fun w ⟨r3, q3, r2, q2, q1, _⟩ => ⟨r2, r3.weak (Nat.zero_le _), q3, q2, q1⟩) (by show 3 ≤ maxLen; decide) (by show 3 * 56 ≤ 140737488355328; decide) (fun v' => ?_)
          refine wDs (fun w b ⟨hr, h3, h2, h1⟩ => least_any _ _ ([x ^ cut255 n, y ^ cut255 n] ++ [0]) _ _ (k * cut255 n + 1) w (hr.weak (Nat.zero_le _)) (by show ListD w _ [[a1, b1, d1], [a2, b2, d2], [a3, b3, d3]] [_, _, _]; exact ⟨⟨_, _, _, rfl, h1⟩, ⟨_, _, _, rfl, h2⟩, ⟨_, _, _, rfl, h3.mono (by omega)⟩, trivial⟩) (by omega) (by simp) l2.1 l2.2.1 l2.2.2) (fun _ _ _ _ _ _ => ?_)
          rw [hlo]
          exact wRet fun w b ⟨h, _⟩ => ⟨_, rfl, ⟨_, _, _, _, _, _, rfl, h.1, h.2⟩, b⟩
        · skip
          have y0 := sgF_gt e3
          have hlo : pLo x y (cut255 n) = mn (x ^ cut255 n) (y ^ cut255 n) := if_neg (fun hz => by have := hz.2.2.2; grind)
          refine wDs (fun w b ⟨hr, h2, h1, _⟩ => least_any _ _ [x ^ cut255 n, y ^ cut255 n] _ _ (k * cut255 n + 1) w (hr.weak (Nat.zero_le _)) ⟨⟨_, _, _, rfl, h1⟩, ⟨_, _, _, rfl, h2⟩, trivial⟩ (by omega) (by simp) l1.1 l1.2.1 l1.2.2) (fun _ _ _ _ _ _ => ?_)
          rw [hlo]
          exact wRet fun w b ⟨h, _⟩ => ⟨_, rfl, ⟨_, _, _, _, _, _, rfl, h.1, h.2⟩, b⟩
      · skip
        have x0 := sgF_lt e2
        have hlo : pLo x y (cut255 n) = mn (x ^ cut255 n) (y ^ cut255 n) := if_neg (fun hz => by have := hz.2.2.1; grind)
        refine wDs (fun w b ⟨hr, h2, h1, _⟩ => least_any _ _ [x ^ cut255 n, y ^ cut255 n] _ _ (k * cut255 n + 1) w (hr.weak (Nat.zero_le _)) ⟨⟨_, _, _, rfl, h1⟩, ⟨_, _, _, rfl, h2⟩, trivial⟩ (by omega) (by simp) l1.1 l1.2.1 l1.2.2) (fun _ _ _ _ _ _ => ?_)
        rw [hlo]
        exact wRet fun w b ⟨h, _⟩ => ⟨_, rfl, ⟨_, _, _, _, _, _, rfl, h.1, h.2⟩, b⟩
    · skip
      have hlo : pLo x y (cut255 n) = mn (x ^ cut255 n) (y ^ cut255 n) := if_neg (fun hz => by have := hz.2.1; rw [even_eq] at e1; simp at e1; omega)
      refine wDs (fun w b ⟨hr, h2, h1, _⟩ => least_any _ _ [x ^ cut255 n, y ^ cut255 n] _ _ (k * cut255 n + 1) w (hr.weak (Nat.zero_le _)) ⟨⟨_, _, _, rfl, h1⟩, ⟨_, _, _, rfl, h2⟩, trivial⟩ (by omega) (by simp) l1.1 l1.2.1 l1.2.2) (fun _ _ _ _ _ _ => ?_)
      rw [hlo]
      exact wRet fun w b ⟨h, _⟩ => ⟨_, rfl, ⟨_, _, _, _, _, _, rfl, h.1, h.2⟩, b⟩
  · skip
    have hlo : pLo x y (cut255 n) = mn (x ^ cut255 n) (y ^ cut255 n) := if_neg (fun hz => by have := hz.1; have h9 : ¬ (0 : Int) < ((cut255 n : Nat) : Int) := (by simpa using e0); omega)
    refine wDs (fun w b ⟨hr, h2, h1, _⟩ => least_any _ _ [x ^ cut255 n, y ^ cut255 n] _ _ (k * cut255 n + 1) w (hr.weak (Nat.zero_le _)) ⟨⟨_, _, _, rfl, h1⟩, ⟨_, _, _, rfl, h2⟩, trivial⟩ (by omega) (by simp) l1.1 l1.2.1 l1.2.2) (fun _ _ _ _ _ _ => ?_)
    rw [hlo]
    exact wRet fun w b ⟨h, _⟩ => ⟨_, rfl, ⟨_, _, _, _, _, _, rfl, h.1, h.2⟩, b⟩
end Go.Proofs.YtfohgkabmdhhaaaGreatDoor

namespace Go.Proofs.YtfohgkabmdhhaaaGreatDoor
open Go.RowKit Cin
set_option maxHeartbeats 8000000 in
theorem spanPows_any (s r : ByteArray) (i : Int) (w : World) (hT : Tabs w) (hs : s.size ≤ 9223372036854775807) (hr : r.size ≤ 9223372036854775807) :
    Calls Tryz.prog 5 #[.agg #[.string s, .string r], .int .i64 i] w fun e w' => e = .returned (.bool true) ∧ Below w.heap.size w w' := by
  refine go (fun _ => True) [[.string s, .string r], [.int .i64 i]] [some 2, none] (tr := (.em (.call 22 [.g [.c 0 0, .c 0 1]] [some 8, some 6, none]) (.em (.pr (.unOp .not 4 (.tmp 0)) 4 [.s (.c 2 14)]) (.cond (.c 3 0) (.em (.call 12 [] [none]) (.ret (.v (.s (.c 4 0))))) (.em (.pr (.call (.mk (.builtin .len) #[.tmp 0] #[9])) 3 [.s (.c 0 0)]) (.em (.pr (.binOp .gtr 3 (.tmp 0) (.const (.int .i64 12)) 3) 4 [.s (.c 4 0), .s (.k (.int .i64 12))]) (.cond (.c 5 0) (.em (.call 12 [] [none]) (.ret (.v (.s (.c 6 0))))) (.em (.pr (.call (.mk (.builtin .len) #[.tmp 0] #[9])) 3 [.s (.c 0 1)]) (.em (.pr (.binOp .gtr 3 (.tmp 0) (.const (.int .i64 12)) 3) 4 [.s (.c 6 0), .s (.k (.int .i64 12))]) (.cond (.c 7 0) (.em (.call 12 [] [none]) (.ret (.v (.s (.c 8 0))))) (.em (.call 12 [] [none]) (.em (.pr (.unOp .not 4 (.tmp 0)) 4 [.s (.c 8 0)]) (.cond (.c 9 0) (.em (.call 12 [] [none]) (.ret (.v (.s (.c 10 0))))) (.em (.pr (.binOp .gtr 3 (.tmp 0) (.const (.int .i64 20)) 3) 4 [.s (.c 1 0), .s (.k (.int .i64 20))]) (.cond (.c 10 0) (.em (.call 32 [.s (.c 1 0), .s (.k (.int .i64 0)), .s (.k (.int .i64 20))] [none]) (.em (.call 33 [.g [.c 2 0, .c 2 1, .c 2 2, .c 2 3, .c 2 4, .c 2 5, .c 2 6, .c 2 7], .s (.c 11 0)] [some 8]) (.em (.call 34 [.g [.c 2 8, .c 2 9, .c 2 10, .c 2 11, .c 2 12, .c 2 13], .s (.c 11 0)] [some 6]) (.em (.call 15 [.g [.c 12 0, .c 12 1, .c 12 2, .c 12 3, .c 12 4, .c 12 5, .c 12 6, .c 12 7], .g [.c 13 0, .c 13 1, .c 13 2, .c 13 3, .c 13 4, .c 13 5]] [none]) (.ret (.v (.s (.c 14 0)))))))) (.em (.call 33 [.g [.c 2 0, .c 2 1, .c 2 2, .c 2 3, .c 2 4, .c 2 5, .c 2 6, .c 2 7], .s (.c 1 0)] [some 8]) (.em (.call 34 [.g [.c 2 8, .c 2 9, .c 2 10, .c 2 11, .c 2 12, .c 2 13], .s (.c 1 0)] [some 6]) (.em (.call 15 [.g [.c 11 0, .c 11 1, .c 11 2, .c 11 3, .c 11 4, .c 11 5, .c 11 6, .c 11 7], .g [.c 12 0, .c 12 1, .c 12 2, .c 12 3, .c 12 4, .c 12 5]] [none]) (.ret (.v (.s (.c 13 0)))))))))))))))))))))) (by kernel_rfl) (by kernel_rfl) (by kernel_rfl) Mono.true trivial ⟨rfl, rfl, trivial⟩ ?_
  by_cases k0 : OfOk s r
  · refine wBothS (fun w _ _ => ofY s r w hs hr k0) rfl (fun va0 vb0 vc0 vd0 ve0 vf0 vg0 vh0 vi0 vj0 vk0 vl0 vm0 vn0 => ?_)
    refine wPr (prNot rfl) rfl ?_
    refine wFalse rfl ?_
    have l0 : ratVal s ≤ ratVal r := k0.1.2.2
    generalize ratVal s = x at l0 ⊢
    generalize ratVal r = y at l0 ⊢
    refine wMono (G := fun w => SpQ w va0 vb0 vc0 vd0 ve0 vf0 vg0 vh0 x y 21 ∧ DsQ w vi0 vj0 vk0 vl0 vm0 vn0 x y 21) ((mSp _ _ _ _ _ _ _ _ _ _ _).and (mDs _ _ _ _ _ _ _ _ _)) (fun w ⟨x0, y0, _⟩ => ⟨x0, y0⟩) ?_
    refine wPr (prLenS hStrT rfl) rfl ?_
    refine wPr (prGt rfl rfl) rfl ?_
    refine wIf _ rfl (fun _ => ?_) (fun _ => ?_)
    · refine wVal (fun w b _ => alive5_any w (hT.below b)) rfl ?_
      exact wRet fun w b _ => ⟨rfl, b⟩
    refine wPr (prLenS hStrT rfl) rfl ?_
    refine wPr (prGt rfl rfl) rfl ?_
    refine wIf _ rfl (fun _ => ?_) (fun _ => ?_)
    · refine wVal (fun w b _ => alive5_any w (hT.below b)) rfl ?_
      exact wRet fun w b _ => ⟨rfl, b⟩
    refine wVal (fun w b _ => alive5_any w (hT.below b)) rfl ?_
    refine wPr (prNot rfl) rfl ?_
    refine wFalse rfl ?_
    refine wPr (prGt rfl rfl) rfl ?_
    refine wIf _ rfl (fun e => ?_) (fun e => ?_)
    · skip
      refine wVal (fun w b _ => wi_any i 0 20 w (by decide) (by decide) (by decide)) rfl ?_
      have wl := wi_lim i (lo := 0) (hi := 20) (by decide)
      have hc : cut255 (wi i 0 20) ≤ 20 := by unfold cut255; (repeat' split) <;> omega
      refine wSp (fun w b h => spow_any _ x y (wi i 0 20) 21 w ⟨_, _, _, _, _, _, _, _, rfl, h.1⟩ (by decide) (by decide) l0) (fun _ _ _ _ _ _ _ _ => ?_)
      refine wDs (fun w b h => dspow_any _ x y (wi i 0 20) 21 w ⟨_, _, _, _, _, _, rfl, h.2.2⟩ (by decide) (by omega)) (fun _ _ _ _ _ _ => ?_)
      refine wVal (fun w b ⟨h2, h1, _⟩ => is5_any _ _ _ _ _ _ w ⟨_, _, _, _, _, _, _, _, rfl, h1⟩ ⟨_, _, _, _, _, _, rfl, h2⟩ (by decide) (by omega) (hT.below b)) rfl ?_
      exact wRet fun w b _ => ⟨rfl, b⟩
    · skip
      have e1 : ¬ (20 : Int) < i := by simpa using e
      have hc : cut255 i ≤ 20 := by unfold cut255; (repeat' split) <;> omega
      refine wSp (fun w b h => spow_any _ x y i 21 w ⟨_, _, _, _, _, _, _, _, rfl, h.1⟩ (by decide) (by decide) l0) (fun _ _ _ _ _ _ _ _ => ?_)
      refine wDs (fun w b h => dspow_any _ x y i 21 w ⟨_, _, _, _, _, _, rfl, h.2.2⟩ (by decide) (by omega)) (fun _ _ _ _ _ _ => ?_)
      refine wVal (fun w b ⟨h2, h1, _⟩ => is5_any _ _ _ _ _ _ w ⟨_, _, _, _, _, _, _, _, rfl, h1⟩ ⟨_, _, _, _, _, _, rfl, h2⟩ (by decide) (by omega) (hT.below b)) rfl ?_
      exact wRet fun w b _ => ⟨rfl, b⟩
  · refine wKnown ZeroO (fun w _ _ => ofN s r w hs hr k0) rfl rfl ?_
    refine wPr (prNot rfl) rfl ?_
    refine wTrue rfl ?_
    refine wVal (fun w b _ => alive5_any w (hT.below b)) rfl ?_
    exact wRet fun w b _ => ⟨rfl, b⟩
end Go.Proofs.YtfohgkabmdhhaaaGreatDoor

namespace Cin
open Go Go.ChangeShapes Go.WideShapes
section
variable {H : Type} {enc : TypeId × Value → H} {P : Program} {w : World} {base : Nat} {spare : Nat → Bool} {held : Bool}
theorem open_pair {r : Reach} {b0 : Nat} {t s : TypeId} {f0 f1 : Field} {v : Value} {d : DataW H} {ps : List MemPlace} (ht : P.underlying t = some (.struct #[f0, f1])) (hs : P.underlying s = some .string) (hf : f0.type = s ∧ f1.type = s ∧ f0.offset = 0 ∧ f1.offset = 1) (ce : P.cellsOf t = 2) (cs : P.cellsOf s = 1)
    (hval : Value.okWide P w r b0 t v) (hd : DataW.Trod enc P w base spare held t v d ps) :
    ∃ x y : ByteArray, v = .agg #[.string x, .string y] ∧ d = .agg [.lit (.string x.data.toList), .lit (.string y.data.toList)] ∧ ps = [] ∧ x.size ≤ maxLen ∧ y.size ≤ maxLen := by
  obtain ⟨t0, t1, o0, o1⟩ := hf
  obtain ⟨cells, rfl, hsz⟩ := okWide_struct ht hval
  obtain ⟨fuel, hf⟩ := hd
  obtain ⟨y0, y1, n, hx, hl, h0, h1⟩ := trod_struct2 ht hf
  rw [t0, o0, cs] at h0
  rw [t1, o1, cs] at h1
  obtain ⟨x, e0, rfl, l0⟩ := DataW.trod_string hs h0
  obtain ⟨y, e1, rfl, l1⟩ := DataW.trod_string hs h1
  simp only [Prod.mk.injEq] at hx
  refine ⟨x, y, ?_, hx.1, by rw [hx.2]; rfl, l0, l1⟩
  simp only [Value.cells] at e0 e1
  rw [ce] at hsz
  obtain ⟨l⟩ := cells
  match l, hsz with
  | [a, b], _ =>
    simp at e0 e1
    rw [e0, e1]
theorem shut_pair {t s : TypeId} {f0 f1 : Field} {x y : ByteArray} (ht : P.underlying t = some (.struct #[f0, f1])) (hs : P.underlying s = some .string) (hf : f0.type = s ∧ f1.type = s ∧ f0.offset = 0 ∧ f1.offset = 1) (ce : P.cellsOf t = 2) (cs : P.cellsOf s = 1)
    (l0 : x.size ≤ maxLen) (l1 : y.size ≤ maxLen) : DataW.Trod enc P w base spare held t (.agg #[.string x, .string y]) (.agg [.lit (.string x.data.toList), .lit (.string y.data.toList)]) [] := by
  obtain ⟨t0, t1, o0, o1⟩ := hf
  have g0 : DataW.trod enc P w base spare held 1 s [.string x] = some (.lit (.string x.data.toList), []) := by simp [DataW.trod, hs, l0]
  have g1 : DataW.trod enc P w base spare held 1 s [.string y] = some (.lit (.string y.data.toList), []) := by simp [DataW.trod, hs, l1]
  refine ⟨2, ?_⟩
  have := trod_struct2_mk (enc := enc) (w := w) (base := base) (spare := spare) (held := held) (n := 1) (cs := [.string x, .string y]) ht (by rw [ce]; rfl) (y0 := (.lit (.string x.data.toList), [])) (y1 := (.lit (.string y.data.toList), []))
    (by rw [t0, o0, cs]; exact g0) (by rw [t1, o1, cs]; exact g1)
  exact this
end
end Cin
