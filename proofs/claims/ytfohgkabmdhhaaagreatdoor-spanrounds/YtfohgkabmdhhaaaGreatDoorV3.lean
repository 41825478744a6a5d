/- The law SpanRounds. -/
import Derived.Test.YtfohgkabmdhhaaaGreatDoorYy
namespace Go.Proofs.YtfohgkabmdhhaaaGreatDoor
open Go.RowKit Cin

set_option maxHeartbeats 8000000 in
/-- The law holds. -/
theorem spanRounds_any (s r : ByteArray) (i : Int) (w : World) (hT : Tabs w) (hs : s.size ≤ 9223372036854775807) (hr : r.size ≤ 9223372036854775807) :
    Calls Tryz.prog 7 #[.agg #[.string s, .string r], .int .i64 i] w fun e w' => e = .returned (.bool true) ∧ Below w.heap.size w w' := by
  refine go (fun _ => True) [[.string s, .string r], [.int .i64 i]] [some 2, none] (tr := (.em (.call 22 [.g [.c 0 0, .c 0 1]] [some 8, some 6, none]) (.em (.pr (.unOp .not 4 (.tmp 0)) 4 [.s (.c 2 14)]) (.cond (.c 3 0) (.em (.call 12 [] [none]) (.ret (.v (.s (.c 4 0))))) (.em (.call 12 [] [none]) (.em (.pr (.unOp .not 4 (.tmp 0)) 4 [.s (.c 4 0)]) (.cond (.c 5 0) (.em (.call 12 [] [none]) (.ret (.v (.s (.c 6 0))))) (.em (.pr (.binOp .gtr 3 (.tmp 0) (.const (.int .i64 100)) 3) 4 [.s (.c 1 0), .s (.k (.int .i64 100))]) (.cond (.c 6 0) (.em (.call 52 [.g [.c 2 0, .c 2 1, .c 2 2, .c 2 3, .c 2 4, .c 2 5, .c 2 6, .c 2 7], .s (.k (.int .i64 100))] [some 8]) (.em (.call 53 [.g [.c 2 8, .c 2 9, .c 2 10], .s (.k (.int .i64 100))] [some 3]) (.em (.call 54 [.g [.c 2 11, .c 2 12, .c 2 13], .s (.k (.int .i64 100))] [some 3]) (.em (.call 15 [.g [.c 7 0, .c 7 1, .c 7 2, .c 7 3, .c 7 4, .c 7 5, .c 7 6, .c 7 7], .g [.c 8 0, .c 8 1, .c 8 2, .c 9 0, .c 9 1, .c 9 2]] [none]) (.cond (.c 10 0) (.em (.call 52 [.g [.c 2 0, .c 2 1, .c 2 2, .c 2 3, .c 2 4, .c 2 5, .c 2 6, .c 2 7], .s (.k (.int .i64 100))] [some 8]) (.em (.call 40 [.g [.c 2 0, .c 2 1, .c 2 2, .c 2 3, .c 2 4, .c 2 5, .c 2 6, .c 2 7], .g [.c 11 0, .c 11 1, .c 11 2, .c 11 3, .c 11 4, .c 11 5, .c 11 6, .c 11 7]] [none]) (.ret (.v (.s (.c 12 0)))))) (.ret (.v (.s (.k (.bool false)))))))))) (.em (.call 52 [.g [.c 2 0, .c 2 1, .c 2 2, .c 2 3, .c 2 4, .c 2 5, .c 2 6, .c 2 7], .s (.c 1 0)] [some 8]) (.em (.call 53 [.g [.c 2 8, .c 2 9, .c 2 10], .s (.c 1 0)] [some 3]) (.em (.call 54 [.g [.c 2 11, .c 2 12, .c 2 13], .s (.c 1 0)] [some 3]) (.em (.call 15 [.g [.c 7 0, .c 7 1, .c 7 2, .c 7 3, .c 7 4, .c 7 5, .c 7 6, .c 7 7], .g [.c 8 0, .c 8 1, .c 8 2, .c 9 0, .c 9 1, .c 9 2]] [none]) (.cond (.c 10 0) (.em (.call 52 [.g [.c 2 0, .c 2 1, .c 2 2, .c 2 3, .c 2 4, .c 2 5, .c 2 6, .c 2 7], .s (.c 1 0)] [some 8]) (.em (.call 40 [.g [.c 2 0, .c 2 1, .c 2 2, .c 2 3, .c 2 4, .c 2 5, .c 2 6, .c 2 7], .g [.c 11 0, .c 11 1, .c 11 2, .c 11 3, .c 11 4, .c 11 5, .c 11 6, .c 11 7]] [none]) (.ret (.v (.s (.c 12 0)))))) (.ret (.v (.s (.k (.bool false))))))))))))))))))) (by kernel_rfl) (by kernel_rfl) (by kernel_rfl) Mono.true trivial ⟨rfl, rfl, trivial⟩ ?_
  by_cases k0 : OfOk s r
  · refine wBothS (fun w _ _ => ofY s r w hs hr k0) rfl (fun va0 vb0 vc0 vd0 ve0 vf0 vg0 vh0 vi0 vj0 vk0 vl0 vm0 vn0 => ?_)
    refine wPr (prNot rfl) rfl ?_
    refine wFalse rfl ?_
    have l0 : ratVal s ≤ ratVal r := k0.1.2.2
    generalize ratVal s = x at l0 ⊢
    generalize ratVal r = y at l0 ⊢
    refine wMono (G := fun w => SpQ w va0 vb0 vc0 vd0 ve0 vf0 vg0 vh0 x y 21 ∧ DsQ w vi0 vj0 vk0 vl0 vm0 vn0 x y 21) ((mSp _ _ _ _ _ _ _ _ _ _ _).and (mDs _ _ _ _ _ _ _ _ _)) (fun w ⟨x0, y0, _⟩ => ⟨x0, y0⟩) ?_
    refine wVal (fun w b _ => alive5_any w (hT.below b)) rfl ?_
    refine wPr (prNot rfl) rfl ?_
    refine wFalse rfl ?_
    refine wPr (prGt rfl rfl) rfl ?_
    refine wIf _ rfl (fun e => ?_) (fun e => ?_)
    · skip
      have hb : min (max (100 : Int) 1) 4096 = ((100 : Nat) : Int) := by decide
      obtain ⟨p, hp⟩ := down_ex 100 x (by omega)
      obtain ⟨q0, hq0⟩ := down_ex 100 (-y) (by omega)
      obtain ⟨q, rfl⟩ : ∃ q, q0 = -q := ⟨-q0, by rw [Rat.neg_neg]⟩
      have lp := hp.2.1
      have lq := hq0.2.1
      refine wSp (fun w b h => round5_any _ x y p q 100 100 21 w (hT.below b) ⟨_, _, _, _, _, _, _, _, rfl, h.1⟩ (by omega) (by omega) (by omega) hb hp hq0) (fun _ _ _ _ _ _ _ _ => ?_)
      refine wDQ (fun w b h => ddown_any _ x p 100 21 w ⟨_, _, _, rfl, h.2.2.1⟩ (by omega) (by omega) (by omega) (by omega) 100 hb hp) (fun _ _ _ => ?_)
      refine wDQ (fun w b h => dup_any _ y q 100 21 w ⟨_, _, _, rfl, h.2.2.2.2⟩ (by omega) (by omega) (by omega) (by omega) 100 hb hq0) (fun _ _ _ => ?_)
      refine wVal (fun w b ⟨h3, h2, h1, _⟩ => is5_any _ _ p q _ _ w ⟨_, _, _, _, _, _, _, _, rfl, h1⟩ ⟨_, _, _, _, _, _, rfl, h2, h3⟩ (by omega) (by omega) (hT.below b)) rfl ?_
      refine wTrue rfl ?_
      refine wSp (fun w b ⟨_, _, _, h⟩ => round5_any _ x y p q 100 100 21 w (hT.below b) ⟨_, _, _, _, _, _, _, _, rfl, h.1⟩ (by omega) (by omega) (by omega) hb hp hq0) (fun _ _ _ _ _ _ _ _ => ?_)
      refine wVal (fun w b ⟨h1, _, _, _, h⟩ => withinY ⟨_, _, _, _, _, _, _, _, rfl, h.1⟩ ⟨_, _, _, _, _, _, _, _, rfl, h1⟩ (by omega) (by omega) lp (by grind)) rfl ?_
      exact wRet fun w b _ => ⟨rfl, b⟩
    · have e1 : ¬ (100 : Int) < i := by simpa using e
      have hb : min (max i 1) 4096 = (((max i 1).toNat : Nat) : Int) := by omega
      obtain ⟨p, hp⟩ := down_ex (max i 1).toNat x (by omega)
      obtain ⟨q0, hq0⟩ := down_ex (max i 1).toNat (-y) (by omega)
      obtain ⟨q, rfl⟩ : ∃ q, q0 = -q := ⟨-q0, by rw [Rat.neg_neg]⟩
      have lp := hp.2.1
      have lq := hq0.2.1
      refine wSp (fun w b h => round5_any _ x y p q i (max i 1).toNat 21 w (hT.below b) ⟨_, _, _, _, _, _, _, _, rfl, h.1⟩ (by omega) (by omega) (by omega) hb hp hq0) (fun _ _ _ _ _ _ _ _ => ?_)
      refine wDQ (fun w b h => ddown_any _ x p (max i 1).toNat 21 w ⟨_, _, _, rfl, h.2.2.1⟩ (by omega) (by omega) (by omega) (by omega) i hb hp) (fun _ _ _ => ?_)
      refine wDQ (fun w b h => dup_any _ y q (max i 1).toNat 21 w ⟨_, _, _, rfl, h.2.2.2.2⟩ (by omega) (by omega) (by omega) (by omega) i hb hq0) (fun _ _ _ => ?_)
      refine wVal (fun w b ⟨h3, h2, h1, _⟩ => is5_any _ _ p q _ _ w ⟨_, _, _, _, _, _, _, _, rfl, h1⟩ ⟨_, _, _, _, _, _, rfl, h2, h3⟩ (by omega) (by omega) (hT.below b)) rfl ?_
      refine wTrue rfl ?_
      refine wSp (fun w b ⟨_, _, _, h⟩ => round5_any _ x y p q i (max i 1).toNat 21 w (hT.below b) ⟨_, _, _, _, _, _, _, _, rfl, h.1⟩ (by omega) (by omega) (by omega) hb hp hq0) (fun _ _ _ _ _ _ _ _ => ?_)
      refine wVal (fun w b ⟨h1, _, _, _, h⟩ => withinY ⟨_, _, _, _, _, _, _, _, rfl, h.1⟩ ⟨_, _, _, _, _, _, _, _, rfl, h1⟩ (by omega) (by omega) lp (by grind)) rfl ?_
      exact wRet fun w b _ => ⟨rfl, b⟩
  · refine wKnown ZeroO (fun w _ _ => ofN s r w hs hr k0) rfl rfl ?_
    refine wPr (prNot rfl) rfl ?_
    refine wTrue rfl ?_
    refine wVal (fun w b _ => alive5_any w (hT.below b)) rfl ?_
    exact wRet fun w b _ => ⟨rfl, b⟩

end Go.Proofs.YtfohgkabmdhhaaaGreatDoor
