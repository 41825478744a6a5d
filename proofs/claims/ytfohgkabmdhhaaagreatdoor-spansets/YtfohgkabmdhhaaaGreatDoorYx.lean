/- The law SpanSets. -/
import Derived.Test.YtfohgkabmdhhaaaGreatDoorYw
import Derived.ChangeSame
import Derived.ChangeMaps5
namespace Go.Proofs.YtfohgkabmdhhaaaGreatDoor
open Go.RowKit Cin
theorem toList_inj {s t : ByteArray} (h : s.toList = t.toList) : s = t := by
  rw [ByteArray.toList_eq, ByteArray.toList_eq] at h
  exact ByteArray.ext (Array.toList_inj.1 h)
theorem pair_same {s r t z : ByteArray} (hs : RatOk s) (hr : RatOk r) (ht : RatOk t) (hz : RatOk z) : (decide (ratVal s = ratVal t) && decide (ratVal r = ratVal z)) = (s.toList == t.toList && r.toList == z.toList) := by
  have h1 : ∀ {a b : ByteArray}, RatOk a → RatOk b → decide (ratVal a = ratVal b) = (a.toList == b.toList) := by
    intro a b ha hb
    by_cases e : a = b
    · subst e; simp
    · have h2 : ratVal a ≠ ratVal b := fun h => e (by rw [← ratS_ratVal ha, ← ratS_ratVal hb, h])
      rw [decide_eq_false h2]
      symm
      rw [beq_eq_false_iff_ne]
      exact fun h => e (toList_inj h)
  rw [h1 hs ht, h1 hr hz]
set_option maxHeartbeats 8000000 in
theorem spanSets_any (s r t z m : ByteArray) (w : World) (hT : Tabs w) (hs : s.size ≤ 9223372036854775807) (hr : r.size ≤ 9223372036854775807) (ht : t.size ≤ 9223372036854775807) (hz : z.size ≤ 9223372036854775807) (hm : m.size ≤ 9223372036854775807) :
    Calls Tryz.prog 6 #[.agg #[.string s, .string r], .agg #[.string t, .string z], .string m] w fun e w' => e = .returned (.bool true) ∧ Below w.heap.size w w' := by
  obtain ⟨ie, hie, hzr, hsz, _⟩ := rr_info
  obtain ⟨dd, hd1, hdr⟩ := rr_row
  refine go2 DD dd2 (fun _ => True) [[.string s, .string r], [.string t, .string z], [.string m]] [some 2, some 2, none] (tr := (.em (.call 22 [.g [.c 0 0, .c 0 1]] [some 8, some 6, none]) (.em (.call 22 [.g [.c 1 0, .c 1 1]] [some 8, some 6, none]) (.em (.call 23 [.s (.c 2 0)] [some 4, some 3, none]) (.em (.wx (.alloc 41) 0 [] (some none)) (.em (.wx (.store 41 (.tmp 0) (.tmp 1)) 0 [.s (.c 6 0), .g [.c 5 4, .c 5 5, .c 5 6]] none) (.em (.pr (.unOp .not 4 (.tmp 0)) 4 [.s (.c 3 14)]) (.cond (.c 8 0) (.em (.call 12 [] [none]) (.ret (.v (.s (.c 9 0))))) (.em (.pr (.unOp .not 4 (.tmp 0)) 4 [.s (.c 4 14)]) (.cond (.c 9 0) (.em (.call 12 [] [none]) (.ret (.v (.s (.c 10 0))))) (.em (.pr (.unOp .not 4 (.tmp 0)) 4 [.s (.c 5 7)]) (.cond (.c 10 0) (.em (.call 12 [] [none]) (.ret (.v (.s (.c 11 0))))) (.em (.call 12 [] [none]) (.em (.pr (.unOp .not 4 (.tmp 0)) 4 [.s (.c 11 0)]) (.cond (.c 12 0) (.em (.call 12 [] [none]) (.ret (.v (.s (.c 13 0))))) (.em (.call 35 [.g [.c 3 0, .c 3 1, .c 3 2, .c 3 3, .c 3 4, .c 3 5, .c 3 6, .c 3 7], .g [.c 4 0, .c 4 1, .c 4 2, .c 4 3, .c 4 4, .c 4 5, .c 4 6, .c 4 7]] [some 8, none]) (.em (.call 36 [.g [.c 3 8, .c 3 9, .c 3 10, .c 3 11, .c 3 12, .c 3 13], .g [.c 4 8, .c 4 9, .c 4 10, .c 4 11, .c 4 12, .c 4 13]] [some 6, none]) (.em (.pr (.binOp .neq 4 (.tmp 0) (.tmp 1) 4) 4 [.s (.c 13 8), .s (.c 14 6)]) (.cond (.c 15 0) (.ret (.v (.s (.k (.bool false))))) (.cond (.c 13 8) (.em (.call 15 [.g [.c 13 0, .c 13 1, .c 13 2, .c 13 3, .c 13 4, .c 13 5, .c 13 6, .c 13 7], .g [.c 14 0, .c 14 1, .c 14 2, .c 14 3, .c 14 4, .c 14 5]] [none]) (.em (.pr (.unOp .not 4 (.tmp 0)) 4 [.s (.c 16 0)]) (.cond (.c 17 0) (.ret (.v (.s (.k (.bool false))))) (.em (.wx (.buildSlice 72 4 #[(0, .tmp 0), (1, .tmp 1), (2, .tmp 2), (3, .tmp 3)]) 72 [.g [.c 3 8, .c 3 9, .c 3 10], .g [.c 3 11, .c 3 12, .c 3 13], .g [.c 4 8, .c 4 9, .c 4 10], .g [.c 4 11, .c 4 12, .c 4 13]] (some none)) (.em (.call 37 [.s (.c 18 0)] [some 6]) (.em (.ld (.load 41 (.tmp 0)) 41 [.s (.c 6 0)] (some 3)) (.em (.call 38 [.g [.c 3 0, .c 3 1, .c 3 2, .c 3 3, .c 3 4, .c 3 5, .c 3 6, .c 3 7], .g [.c 5 0, .c 5 1, .c 5 2, .c 5 3]] [none]) (.em (.call 39 [.g [.c 3 8, .c 3 9, .c 3 10, .c 3 11, .c 3 12, .c 3 13], .g [.c 20 0, .c 20 1, .c 20 2]] [none]) (.em (.pr (.binOp .eql 4 (.tmp 0) (.tmp 1) 4) 4 [.s (.c 21 0), .s (.c 22 0)]) (.cond (.c 23 0) (.em (.call 40 [.g [.c 3 0, .c 3 1, .c 3 2, .c 3 3, .c 3 4, .c 3 5, .c 3 6, .c 3 7], .g [.c 4 0, .c 4 1, .c 4 2, .c 4 3, .c 4 4, .c 4 5, .c 4 6, .c 4 7]] [none]) (.em (.call 41 [.g [.c 3 8, .c 3 9, .c 3 10, .c 3 11, .c 3 12, .c 3 13], .g [.c 4 8, .c 4 9, .c 4 10, .c 4 11, .c 4 12, .c 4 13]] [none]) (.em (.pr (.binOp .eql 4 (.tmp 0) (.tmp 1) 4) 4 [.s (.c 24 0), .s (.c 25 0)]) (.cond (.c 26 0) (.em (.call 42 [.g [.c 3 0, .c 3 1, .c 3 2, .c 3 3, .c 3 4, .c 3 5, .c 3 6, .c 3 7], .g [.c 4 0, .c 4 1, .c 4 2, .c 4 3, .c 4 4, .c 4 5, .c 4 6, .c 4 7]] [none]) (.em (.call 43 [.g [.c 3 8, .c 3 9, .c 3 10, .c 3 11, .c 3 12, .c 3 13], .g [.c 4 8, .c 4 9, .c 4 10, .c 4 11, .c 4 12, .c 4 13]] [none]) (.em (.pr (.binOp .eql 4 (.tmp 0) (.tmp 1) 4) 4 [.s (.c 27 0), .s (.c 28 0)]) (.cond (.c 29 0) (.em (.call 44 [.g [.c 3 0, .c 3 1, .c 3 2, .c 3 3, .c 3 4, .c 3 5, .c 3 6, .c 3 7], .g [.c 4 0, .c 4 1, .c 4 2, .c 4 3, .c 4 4, .c 4 5, .c 4 6, .c 4 7]] [some 8]) (.em (.call 15 [.g [.c 30 0, .c 30 1, .c 30 2, .c 30 3, .c 30 4, .c 30 5, .c 30 6, .c 30 7], .g [.c 19 0, .c 19 1, .c 19 2, .c 19 3, .c 19 4, .c 19 5]] [none]) (.cond (.c 31 0) (.em (.call 46 [.g [.c 3 0, .c 3 1, .c 3 2, .c 3 3, .c 3 4, .c 3 5, .c 3 6, .c 3 7]] [some 4]) (.em (.call 47 [.g [.c 3 8, .c 3 9, .c 3 10, .c 3 11, .c 3 12, .c 3 13]] [some 3]) (.em (.call 45 [.g [.c 32 0, .c 32 1, .c 32 2, .c 32 3], .g [.c 33 0, .c 33 1, .c 33 2]] [none]) (.cond (.c 34 0) (.em (.call 48 [.g [.c 3 0, .c 3 1, .c 3 2, .c 3 3, .c 3 4, .c 3 5, .c 3 6, .c 3 7]] [some 4]) (.em (.call 49 [.g [.c 3 8, .c 3 9, .c 3 10, .c 3 11, .c 3 12, .c 3 13]] [some 3]) (.em (.call 45 [.g [.c 35 0, .c 35 1, .c 35 2, .c 35 3], .g [.c 36 0, .c 36 1, .c 36 2]] [none]) (.cond (.c 37 0) (.em (.call 50 [.g [.c 3 0, .c 3 1, .c 3 2, .c 3 3, .c 3 4, .c 3 5, .c 3 6, .c 3 7]] [none]) (.em (.call 51 [.g [.c 3 8, .c 3 9, .c 3 10, .c 3 11, .c 3 12, .c 3 13]] [none]) (.em (.pr (.binOp .eql 3 (.tmp 0) (.tmp 1) 3) 4 [.s (.c 38 0), .s (.c 39 0)]) (.cond (.c 40 0) (.em (.pr (.binOp .eql 23 (.tmp 0) (.tmp 1) 23) 4 [.g [.c 0 0, .c 0 1], .g [.c 1 0, .c 1 1]]) (.em (.call 19 [.g [.c 3 0, .c 3 1, .c 3 2, .c 3 3, .c 3 4, .c 3 5, .c 3 6, .c 3 7], .g [.c 4 0, .c 4 1, .c 4 2, .c 4 3, .c 4 4, .c 4 5, .c 4 6, .c 4 7]] [none]) (.em (.pr (.binOp .eql 4 (.tmp 0) (.tmp 1) 4) 4 [.s (.c 42 0), .s (.c 41 0)]) (.ret (.v (.s (.c 43 0))))))) (.ret (.v (.s (.k (.bool false))))))))) (.ret (.v (.s (.k (.bool false))))))))) (.ret (.v (.s (.k (.bool false))))))))) (.ret (.v (.s (.k (.bool false)))))))) (.ret (.v (.s (.k (.bool false))))))))) (.ret (.v (.s (.k (.bool false))))))))) (.ret (.v (.s (.k (.bool false))))))))))))))) (.em (.call 15 [.g [.c 13 0, .c 13 1, .c 13 2, .c 13 3, .c 13 4, .c 13 5, .c 13 6, .c 13 7], .g [.k (.bool false), .k (.slice none 0 0), .k (.slice none 0 0), .k (.bool false), .k (.slice none 0 0), .k (.slice none 0 0)]] [none]) (.em (.pr (.unOp .not 4 (.tmp 0)) 4 [.s (.c 16 0)]) (.cond (.c 17 0) (.ret (.v (.s (.k (.bool false))))) (.em (.wx (.buildSlice 72 4 #[(0, .tmp 0), (1, .tmp 1), (2, .tmp 2), (3, .tmp 3)]) 72 [.g [.c 3 8, .c 3 9, .c 3 10], .g [.c 3 11, .c 3 12, .c 3 13], .g [.c 4 8, .c 4 9, .c 4 10], .g [.c 4 11, .c 4 12, .c 4 13]] (some none)) (.em (.call 37 [.s (.c 18 0)] [some 6]) (.em (.ld (.load 41 (.tmp 0)) 41 [.s (.c 6 0)] (some 3)) (.em (.call 38 [.g [.c 3 0, .c 3 1, .c 3 2, .c 3 3, .c 3 4, .c 3 5, .c 3 6, .c 3 7], .g [.c 5 0, .c 5 1, .c 5 2, .c 5 3]] [none]) (.em (.call 39 [.g [.c 3 8, .c 3 9, .c 3 10, .c 3 11, .c 3 12, .c 3 13], .g [.c 20 0, .c 20 1, .c 20 2]] [none]) (.em (.pr (.binOp .eql 4 (.tmp 0) (.tmp 1) 4) 4 [.s (.c 21 0), .s (.c 22 0)]) (.cond (.c 23 0) (.em (.call 40 [.g [.c 3 0, .c 3 1, .c 3 2, .c 3 3, .c 3 4, .c 3 5, .c 3 6, .c 3 7], .g [.c 4 0, .c 4 1, .c 4 2, .c 4 3, .c 4 4, .c 4 5, .c 4 6, .c 4 7]] [none]) (.em (.call 41 [.g [.c 3 8, .c 3 9, .c 3 10, .c 3 11, .c 3 12, .c 3 13], .g [.c 4 8, .c 4 9, .c 4 10, .c 4 11, .c 4 12, .c 4 13]] [none]) (.em (.pr (.binOp .eql 4 (.tmp 0) (.tmp 1) 4) 4 [.s (.c 24 0), .s (.c 25 0)]) (.cond (.c 26 0) (.em (.call 42 [.g [.c 3 0, .c 3 1, .c 3 2, .c 3 3, .c 3 4, .c 3 5, .c 3 6, .c 3 7], .g [.c 4 0, .c 4 1, .c 4 2, .c 4 3, .c 4 4, .c 4 5, .c 4 6, .c 4 7]] [none]) (.em (.call 43 [.g [.c 3 8, .c 3 9, .c 3 10, .c 3 11, .c 3 12, .c 3 13], .g [.c 4 8, .c 4 9, .c 4 10, .c 4 11, .c 4 12, .c 4 13]] [none]) (.em (.pr (.binOp .eql 4 (.tmp 0) (.tmp 1) 4) 4 [.s (.c 27 0), .s (.c 28 0)]) (.cond (.c 29 0) (.em (.call 44 [.g [.c 3 0, .c 3 1, .c 3 2, .c 3 3, .c 3 4, .c 3 5, .c 3 6, .c 3 7], .g [.c 4 0, .c 4 1, .c 4 2, .c 4 3, .c 4 4, .c 4 5, .c 4 6, .c 4 7]] [some 8]) (.em (.call 15 [.g [.c 30 0, .c 30 1, .c 30 2, .c 30 3, .c 30 4, .c 30 5, .c 30 6, .c 30 7], .g [.c 19 0, .c 19 1, .c 19 2, .c 19 3, .c 19 4, .c 19 5]] [none]) (.cond (.c 31 0) (.em (.call 46 [.g [.c 3 0, .c 3 1, .c 3 2, .c 3 3, .c 3 4, .c 3 5, .c 3 6, .c 3 7]] [some 4]) (.em (.call 47 [.g [.c 3 8, .c 3 9, .c 3 10, .c 3 11, .c 3 12, .c 3 13]] [some 3]) (.em (.call 45 [.g [.c 32 0, .c 32 1, .c 32 2, .c 32 3], .g [.c 33 0, .c 33 1, .c 33 2]] [none]) (.cond (.c 34 0) (.em (.call 48 [.g [.c 3 0, .c 3 1, .c 3 2, .c 3 3, .c 3 4, .c 3 5, .c 3 6, .c 3 7]] [some 4]) (.em (.call 49 [.g [.c 3 8, .c 3 9, .c 3 10, .c 3 11, .c 3 12, .c 3 13]] [some 3]) (.em (.call 45 [.g [.c 35 0, .c 35 1, .c 35 2, .c 35 3], .g [.c 36 0, .c 36 1, .c 36 2]] [none]) (.cond (.c 37 0) (.em (.call 50 [.g [.c 3 0, .c 3 1, .c 3 2, .c 3 3, .c 3 4, .c 3 5, .c 3 6, .c 3 7]] [none]) (.em (.call 51 [.g [.c 3 8, .c 3 9, .c 3 10, .c 3 11, .c 3 12, .c 3 13]] [none]) (.em (.pr (.binOp .eql 3 (.tmp 0) (.tmp 1) 3) 4 [.s (.c 38 0), .s (.c 39 0)]) (.cond (.c 40 0) (.em (.pr (.binOp .eql 23 (.tmp 0) (.tmp 1) 23) 4 [.g [.c 0 0, .c 0 1], .g [.c 1 0, .c 1 1]]) (.em (.call 19 [.g [.c 3 0, .c 3 1, .c 3 2, .c 3 3, .c 3 4, .c 3 5, .c 3 6, .c 3 7], .g [.c 4 0, .c 4 1, .c 4 2, .c 4 3, .c 4 4, .c 4 5, .c 4 6, .c 4 7]] [none]) (.em (.pr (.binOp .eql 4 (.tmp 0) (.tmp 1) 4) 4 [.s (.c 42 0), .s (.c 41 0)]) (.ret (.v (.s (.c 43 0))))))) (.ret (.v (.s (.k (.bool false))))))))) (.ret (.v (.s (.k (.bool false))))))))) (.ret (.v (.s (.k (.bool false))))))))) (.ret (.v (.s (.k (.bool false)))))))) (.ret (.v (.s (.k (.bool false))))))))) (.ret (.v (.s (.k (.bool false))))))))) (.ret (.v (.s (.k (.bool false))))))))))))))))))))))))))))))))))) (by kernel_rfl) (by kernel_rfl) (by kernel_rfl) Mono.true trivial ⟨rfl, rfl, rfl, trivial⟩ ?_
  by_cases k0 : OfOk s r
  · refine wBothS (fun w _ _ => ofY s r w hs hr k0) rfl (fun va0 vb0 vc0 vd0 ve0 vf0 vg0 vh0 vi0 vj0 vk0 vl0 vm0 vn0 => ?_)
    by_cases k1 : OfOk t z
    · refine wBothS (fun w _ _ => ofY t z w ht hz k1) rfl (fun va1 vb1 vc1 vd1 ve1 vf1 vg1 vh1 vi1 vj1 vk1 vl1 vm1 vn1 => ?_)
      by_cases k2 : NumQ m
      · refine wBoth (fun w _ _ => numY m w hm k2) rfl (fun vo2 vp2 vq2 vr2 vs2 vt2 vu2 => ?_)
        have hpair := pair_same k0.1.1 k0.1.2.1 k1.1.1 k1.1.2.1
        have l0 : ratVal s ≤ ratVal r := k0.1.2.2
        generalize ratVal s = x at l0 hpair ⊢
        generalize ratVal r = y at l0 hpair ⊢
        have l1 : ratVal t ≤ ratVal z := k1.1.2.2
        generalize ratVal t = x' at l1 hpair ⊢
        generalize ratVal z = y' at l1 hpair ⊢
        generalize ratVal m = q
        have hl := hull_list l0 l1
        refine wAlloc [.bool false, .slice none 0 0, .slice none 0 0] hie hzr hR2 (fun g => ?_)
        refine wEx fun u0 hu0 => ⟨_, ((monoVar hR2 _ _ _).and ((mQ _ _ _ _ _ _ hU2).and ((mD _ _ _ _ _ hU2).and ((mSp _ _ _ _ _ _ _ _ _ _ _ hU2).and ((mDs _ _ _ _ _ _ _ _ _ hU2).and ((mSp _ _ _ _ _ _ _ _ _ _ _ hU2).and ((mDs _ _ _ _ _ _ _ _ _ hU2).and Mono.true))))))), hu0, ?_⟩
        have pq := dpl hu0.2.2.1
        clear hu0
        refine wStoreV (cs := [.bool false, .slice none 0 0, .slice none 0 0]) (cs' := [vs2, vt2, vu2]) (fun w1 => SpQ w1 va0 vb0 vc0 vd0 ve0 vf0 vg0 vh0 x y 21 ∧ DsQ w1 vi0 vj0 vk0 vl0 vm0 vn0 x y 21 ∧ SpQ w1 va1 vb1 vc1 vd1 ve1 vf1 vg1 vh1 x' y' 21 ∧ DsQ w1 vi1 vj1 vk1 vl1 vm1 vn1 x' y' 21 ∧ QB w1 vo2 vp2 vq2 vr2 q 21 ∧ DQ w1 vs2 vt2 vu2 q 21) ((mSp _ _ _ _ _ _ _ _ _ _ _ hU).and ((mDs _ _ _ _ _ _ _ _ _ hU).and ((mSp _ _ _ _ _ _ _ _ _ _ _ hU).and ((mDs _ _ _ _ _ _ _ _ _ hU).and ((mQ _ _ _ _ _ _ hU).and (mD _ _ _ _ _ hU)))))) ((mSp _ _ _ _ _ _ _ _ _ _ _ hU2).and ((mDs _ _ _ _ _ _ _ _ _ hU2).and ((mSp _ _ _ _ _ _ _ _ _ _ _ hU2).and ((mDs _ _ _ _ _ _ _ _ _ hU2).and ((mQ _ _ _ _ _ _ hU2).and (mD _ _ _ _ _ hU2)))))) hR2 rfl (by rw [hie, Option.map_some, hsz]; rfl) rfl pq rfl rfl (fun w1 ⟨hv, qq, dq, p1, d1, p0, d0, _⟩ => ⟨hv, p0, d0, p1, d1, qq, dq⟩) ?_
        refine wPr (prNot rfl) rfl ?_
        refine wFalse rfl ?_
        refine wPr (prNot rfl) rfl ?_
        refine wFalse rfl ?_
        refine wPr (prNot rfl) rfl ?_
        refine wFalse rfl ?_
        refine wVal (fun w b _ => alive5_any w (hT.below b)) rfl ?_
        refine wPr (prNot rfl) rfl ?_
        refine wFalse rfl ?_
        by_cases hm : mx x x' ≤ mn y y'
        · refine wSpV (fun w b ⟨hv, p0, d0, p1, d1, qq, dq⟩ => meetY _ _ x y x' y' 21 21 w ⟨_, _, _, _, _, _, _, _, rfl, p0⟩ ⟨_, _, _, _, _, _, _, _, rfl, p1⟩ (by decide) rfl hm) rfl (fun _ _ _ _ _ _ _ _ => ?_)
          refine wDsV (cc := .bool true) (fun w b ⟨_, hv, p0, d0, p1, d1, qq, dq⟩ => by have := dmeet_any _ _ x y x' y' 21 w ⟨_, _, _, _, _, _, rfl, d0⟩ ⟨_, _, _, _, _, _, rfl, d1⟩ (by decide); rwa [decide_eq_true hm] at this) rfl (fun _ _ _ _ _ _ => ?_)
          refine wPr (prBNe hBool rfl rfl) rfl ?_
          refine wFalse rfl ?_
          refine wTrue rfl ?_
          refine wVal (fun w b ⟨h2, h1, _⟩ => is5_any _ _ _ _ _ _ w ⟨_, _, _, _, _, _, _, _, rfl, h1⟩ ⟨_, _, _, _, _, _, rfl, h2⟩ (by decide) (by decide) (hT.below b)) rfl ?_
          refine wPr (prNot rfl) rfl ?_
          refine wFalse rfl ?_
          refine wMono (G := fun w1 => VarV w.heap.size 41 w1 g [vs2, vt2, vu2] ∧ SpQ w1 va0 vb0 vc0 vd0 ve0 vf0 vg0 vh0 x y 21 ∧ DsQ w1 vi0 vj0 vk0 vl0 vm0 vn0 x y 21 ∧ SpQ w1 va1 vb1 vc1 vd1 ve1 vf1 vg1 vh1 x' y' 21 ∧ DsQ w1 vi1 vj1 vk1 vl1 vm1 vn1 x' y' 21 ∧ QB w1 vo2 vp2 vq2 vr2 q 21 ∧ DQ w1 vs2 vt2 vu2 q 21) ((monoVar hR2 _ _ _).and ((mSp _ _ _ _ _ _ _ _ _ _ _ hU2).and ((mDs _ _ _ _ _ _ _ _ _ hU2).and ((mSp _ _ _ _ _ _ _ _ _ _ _ hU2).and ((mDs _ _ _ _ _ _ _ _ _ hU2).and ((mQ _ _ _ _ _ _ hU2).and (mD _ _ _ _ _ hU2))))))) (fun w1 h => h.2.2) ?_
          refine wBuild [[vi0, vj0, vk0], [vl0, vm0, vn0], [vi1, vj1, vk1], [vl1, vm1, vn1]] hSlR hie hzr hsz hR2 (by kernel_rfl) rfl (by simp) (by omega) (by omega) (by decide) (fun gs => ?_)
          refine wDs (fun w b ⟨hr, hv, p0, d0, p1, d1, qq, dq⟩ => least_any _ _ [x, y, x', y'] (mn x x') (mx y y') 21 w (hr.weak (Nat.zero_le _)) ⟨⟨_, _, _, rfl, d0.1⟩, ⟨_, _, _, rfl, d0.2⟩, ⟨_, _, _, rfl, d1.1⟩, ⟨_, _, _, rfl, d1.2⟩, trivial⟩ (by decide) (by simp) hl.1 hl.2.1 hl.2.2) (fun ha hb hc hd he hf => ?_)
          refine wMono (G := fun w1 => DsQ w1 ha hb hc hd he hf (mn x x') (mx y y') 21 ∧ VarV w.heap.size 41 w1 g [vs2, vt2, vu2] ∧ SpQ w1 va0 vb0 vc0 vd0 ve0 vf0 vg0 vh0 x y 21 ∧ DsQ w1 vi0 vj0 vk0 vl0 vm0 vn0 x y 21 ∧ SpQ w1 va1 vb1 vc1 vd1 ve1 vf1 vg1 vh1 x' y' 21 ∧ DsQ w1 vi1 vj1 vk1 vl1 vm1 vn1 x' y' 21 ∧ QB w1 vo2 vp2 vq2 vr2 q 21 ∧ DQ w1 vs2 vt2 vu2 q 21) ((mDs _ _ _ _ _ _ _ _ _ hU2).and ((monoVar hR2 _ _ _).and ((mSp _ _ _ _ _ _ _ _ _ _ _ hU2).and ((mDs _ _ _ _ _ _ _ _ _ hU2).and ((mSp _ _ _ _ _ _ _ _ _ _ _ hU2).and ((mDs _ _ _ _ _ _ _ _ _ hU2).and ((mQ _ _ _ _ _ _ hU2).and (mD _ _ _ _ _ hU2)))))))) (fun w1 ⟨h1, _, h2⟩ => ⟨h1, h2⟩) ?_
          refine wLd [vs2, vt2, vu2] pq (fun w b ⟨_, h, _⟩ => ldRow rfl h.range hd1 hdr (by rw [hie, Option.map_some, hsz]; rfl)) ?_
          refine wVal (fun w b ⟨_, hv, p0, d0, p1, d1, qq, dq⟩ => has5_any _ _ x y q 21 21 w ⟨_, _, _, _, _, _, _, _, rfl, p0⟩ ⟨_, _, _, _, rfl, qq⟩ (by decide) (by decide)) rfl ?_
          refine wVal (fun w b ⟨_, hv, p0, d0, p1, d1, qq, dq⟩ => dshas_any _ _ x y q 21 21 w ⟨_, _, _, _, _, _, rfl, d0⟩ ⟨_, _, _, rfl, dq⟩ (by decide) (by decide)) rfl ?_
          refine wPr (prBEq hBool rfl rfl) rfl ?_
          refine wTrue (by show Value.bool (_ == _) = _; rw [beq_self_eq_true]) ?_
          refine wVal (fun w b ⟨_, hv, p0, d0, p1, d1, qq, dq⟩ => within5_any _ _ x y x' y' 21 21 w ⟨_, _, _, _, _, _, _, _, rfl, p0⟩ ⟨_, _, _, _, _, _, _, _, rfl, p1⟩ (by decide) (by decide)) rfl ?_
          refine wVal (fun w b ⟨_, hv, p0, d0, p1, d1, qq, dq⟩ => dswithin_any _ _ x y x' y' 21 21 w ⟨_, _, _, _, _, _, rfl, d0⟩ ⟨_, _, _, _, _, _, rfl, d1⟩ (by decide) (by decide)) rfl ?_
          refine wPr (prBEq hBool rfl rfl) rfl ?_
          refine wTrue (by show Value.bool (_ == _) = _; rw [beq_self_eq_true]) ?_
          refine wVal (fun w b ⟨_, hv, p0, d0, p1, d1, qq, dq⟩ => inside5_any _ _ x y x' y' 21 21 w ⟨_, _, _, _, _, _, _, _, rfl, p0⟩ ⟨_, _, _, _, _, _, _, _, rfl, p1⟩ (by decide) (by decide)) rfl ?_
          refine wVal (fun w b ⟨_, hv, p0, d0, p1, d1, qq, dq⟩ => dsinside_any _ _ x y x' y' 21 21 w ⟨_, _, _, _, _, _, rfl, d0⟩ ⟨_, _, _, _, _, _, rfl, d1⟩ (by decide) (by decide)) rfl ?_
          refine wPr (prBEq hBool rfl rfl) rfl ?_
          refine wTrue (by show Value.bool (_ == _) = _; rw [beq_self_eq_true]) ?_
          refine wSp (fun w b ⟨_, hv, p0, d0, p1, d1, qq, dq⟩ => hull_any _ _ x y x' y' 21 21 w ⟨_, _, _, _, _, _, _, _, rfl, p0⟩ ⟨_, _, _, _, _, _, _, _, rfl, p1⟩ (by decide) rfl) (fun _ _ _ _ _ _ _ _ => ?_)
          refine wVal (fun w b ⟨h1, h2, _⟩ => is5_any _ _ _ _ _ _ w ⟨_, _, _, _, _, _, _, _, rfl, h1⟩ ⟨_, _, _, _, _, _, rfl, h2⟩ (by decide) (by decide) (hT.below b)) rfl ?_
          refine wTrue rfl ?_
          refine wRat (fun w b ⟨_, _, hv, p0, d0, p1, d1, qq, dq⟩ => mid5_any _ x y 21 w ⟨_, _, _, _, _, _, _, _, rfl, p0⟩ (by decide)) (fun _ _ _ _ => ?_)
          refine wDQ (fun w b ⟨_, _, _, hv, p0, d0, p1, d1, qq, dq⟩ => dmid5_any _ x y 21 w ⟨_, _, _, _, _, _, rfl, d0⟩ (by decide)) (fun _ _ _ => ?_)
          refine wVal (fun w b ⟨h2, h1, _⟩ => is_any _ _ _ _ _ w ⟨_, _, _, _, rfl, h1⟩ ⟨_, _, _, rfl, h2⟩ (by decide) (by decide) (hT.below b)) rfl ?_
          refine wTrue rfl ?_
          refine wRat (fun w b ⟨_, _, _, _, hv, p0, d0, p1, d1, qq, dq⟩ => width_any _ x y 21 w ⟨_, _, _, _, _, _, _, _, rfl, p0⟩ (by decide)) (fun _ _ _ _ => ?_)
          refine wDQ (fun w b ⟨_, _, _, _, _, hv, p0, d0, p1, d1, qq, dq⟩ => dwidth_any _ x y 21 w ⟨_, _, _, _, _, _, rfl, d0⟩ (by decide)) (fun _ _ _ => ?_)
          refine wVal (fun w b ⟨h2, h1, _⟩ => is_any _ _ _ _ _ w ⟨_, _, _, _, rfl, h1⟩ ⟨_, _, _, rfl, h2⟩ (by decide) (by decide) (hT.below b)) rfl ?_
          refine wTrue rfl ?_
          refine wVal (fun w b ⟨_, _, _, _, _, _, hv, p0, d0, p1, d1, qq, dq⟩ => ssign_any _ x y 21 w ⟨_, _, _, _, _, _, _, _, rfl, p0⟩ (by decide)) rfl ?_
          refine wVal (fun w b ⟨_, _, _, _, _, _, hv, p0, d0, p1, d1, qq, dq⟩ => dssign_any _ x y 21 w ⟨_, _, _, _, _, _, rfl, d0⟩) rfl ?_
          refine wPr (prEq rfl rfl) rfl ?_
          refine wTrue (by show Value.bool (_ == _) = _; rw [beq_self_eq_true]) ?_
          refine wPr (prPairEq rfl rfl) rfl ?_
          refine wVal (fun w b ⟨_, _, _, _, _, _, hv, p0, d0, p1, d1, qq, dq⟩ => same5_any _ _ x y x' y' 21 21 w ⟨_, _, _, _, _, _, _, _, rfl, p0⟩ ⟨_, _, _, _, _, _, _, _, rfl, p1⟩ (by decide) (by decide)) rfl ?_
          refine wPr (prBEq hBool rfl rfl) rfl ?_
          refine wRet fun w b _ => ⟨?_, b⟩
          show Ending.returned (Value.bool (_ == _)) = _
          rw [hpair, beq_self_eq_true]
        · refine wKnown (ZeroS ++ [.bool false]) (fun w b ⟨hv, p0, d0, p1, d1, qq, dq⟩ => meetN _ _ x y x' y' 21 21 w ⟨_, _, _, _, _, _, _, _, rfl, p0⟩ ⟨_, _, _, _, _, _, _, _, rfl, p1⟩ (by decide) rfl (by grind)) rfl rfl ?_ (hE := rfl)
          refine wDsV (cc := .bool false) (fun w b ⟨hv, p0, d0, p1, d1, qq, dq⟩ => by have := dmeet_any _ _ x y x' y' 21 w ⟨_, _, _, _, _, _, rfl, d0⟩ ⟨_, _, _, _, _, _, rfl, d1⟩ (by decide); rwa [decide_eq_false hm] at this) rfl (fun _ _ _ _ _ _ => ?_)
          refine wPr (prBNe hBool rfl rfl) rfl ?_
          refine wFalse rfl ?_
          refine wFalse rfl ?_
          refine wVal (fun w b _ => is5_any _ _ 0 0 1 1 w (zeroSp w) (zeroDs w) (by decide) (by decide) (hT.below b)) rfl ?_
          refine wPr (prNot rfl) rfl ?_
          refine wFalse rfl ?_
          refine wMono (G := fun w1 => VarV w.heap.size 41 w1 g [vs2, vt2, vu2] ∧ SpQ w1 va0 vb0 vc0 vd0 ve0 vf0 vg0 vh0 x y 21 ∧ DsQ w1 vi0 vj0 vk0 vl0 vm0 vn0 x y 21 ∧ SpQ w1 va1 vb1 vc1 vd1 ve1 vf1 vg1 vh1 x' y' 21 ∧ DsQ w1 vi1 vj1 vk1 vl1 vm1 vn1 x' y' 21 ∧ QB w1 vo2 vp2 vq2 vr2 q 21 ∧ DQ w1 vs2 vt2 vu2 q 21) ((monoVar hR2 _ _ _).and ((mSp _ _ _ _ _ _ _ _ _ _ _ hU2).and ((mDs _ _ _ _ _ _ _ _ _ hU2).and ((mSp _ _ _ _ _ _ _ _ _ _ _ hU2).and ((mDs _ _ _ _ _ _ _ _ _ hU2).and ((mQ _ _ _ _ _ _ hU2).and (mD _ _ _ _ _ hU2))))))) (fun w1 h => h.2) ?_
          refine wBuild [[vi0, vj0, vk0], [vl0, vm0, vn0], [vi1, vj1, vk1], [vl1, vm1, vn1]] hSlR hie hzr hsz hR2 (by kernel_rfl) rfl (by simp) (by omega) (by omega) (by decide) (fun gs => ?_)
          refine wDs (fun w b ⟨hr, hv, p0, d0, p1, d1, qq, dq⟩ => least_any _ _ [x, y, x', y'] (mn x x') (mx y y') 21 w (hr.weak (Nat.zero_le _)) ⟨⟨_, _, _, rfl, d0.1⟩, ⟨_, _, _, rfl, d0.2⟩, ⟨_, _, _, rfl, d1.1⟩, ⟨_, _, _, rfl, d1.2⟩, trivial⟩ (by decide) (by simp) hl.1 hl.2.1 hl.2.2) (fun ha hb hc hd he hf => ?_)
          refine wMono (G := fun w1 => DsQ w1 ha hb hc hd he hf (mn x x') (mx y y') 21 ∧ VarV w.heap.size 41 w1 g [vs2, vt2, vu2] ∧ SpQ w1 va0 vb0 vc0 vd0 ve0 vf0 vg0 vh0 x y 21 ∧ DsQ w1 vi0 vj0 vk0 vl0 vm0 vn0 x y 21 ∧ SpQ w1 va1 vb1 vc1 vd1 ve1 vf1 vg1 vh1 x' y' 21 ∧ DsQ w1 vi1 vj1 vk1 vl1 vm1 vn1 x' y' 21 ∧ QB w1 vo2 vp2 vq2 vr2 q 21 ∧ DQ w1 vs2 vt2 vu2 q 21) ((mDs _ _ _ _ _ _ _ _ _ hU2).and ((monoVar hR2 _ _ _).and ((mSp _ _ _ _ _ _ _ _ _ _ _ hU2).and ((mDs _ _ _ _ _ _ _ _ _ hU2).and ((mSp _ _ _ _ _ _ _ _ _ _ _ hU2).and ((mDs _ _ _ _ _ _ _ _ _ hU2).and ((mQ _ _ _ _ _ _ hU2).and (mD _ _ _ _ _ hU2)))))))) (fun w1 ⟨h1, _, h2⟩ => ⟨h1, h2⟩) ?_
          refine wLd [vs2, vt2, vu2] pq (fun w b ⟨_, h, _⟩ => ldRow rfl h.range hd1 hdr (by rw [hie, Option.map_some, hsz]; rfl)) ?_
          refine wVal (fun w b ⟨_, hv, p0, d0, p1, d1, qq, dq⟩ => has5_any _ _ x y q 21 21 w ⟨_, _, _, _, _, _, _, _, rfl, p0⟩ ⟨_, _, _, _, rfl, qq⟩ (by decide) (by decide)) rfl ?_
          refine wVal (fun w b ⟨_, hv, p0, d0, p1, d1, qq, dq⟩ => dshas_any _ _ x y q 21 21 w ⟨_, _, _, _, _, _, rfl, d0⟩ ⟨_, _, _, rfl, dq⟩ (by decide) (by decide)) rfl ?_
          refine wPr (prBEq hBool rfl rfl) rfl ?_
          refine wTrue (by show Value.bool (_ == _) = _; rw [beq_self_eq_true]) ?_
          refine wVal (fun w b ⟨_, hv, p0, d0, p1, d1, qq, dq⟩ => within5_any _ _ x y x' y' 21 21 w ⟨_, _, _, _, _, _, _, _, rfl, p0⟩ ⟨_, _, _, _, _, _, _, _, rfl, p1⟩ (by decide) (by decide)) rfl ?_
          refine wVal (fun w b ⟨_, hv, p0, d0, p1, d1, qq, dq⟩ => dswithin_any _ _ x y x' y' 21 21 w ⟨_, _, _, _, _, _, rfl, d0⟩ ⟨_, _, _, _, _, _, rfl, d1⟩ (by decide) (by decide)) rfl ?_
          refine wPr (prBEq hBool rfl rfl) rfl ?_
          refine wTrue (by show Value.bool (_ == _) = _; rw [beq_self_eq_true]) ?_
          refine wVal (fun w b ⟨_, hv, p0, d0, p1, d1, qq, dq⟩ => inside5_any _ _ x y x' y' 21 21 w ⟨_, _, _, _, _, _, _, _, rfl, p0⟩ ⟨_, _, _, _, _, _, _, _, rfl, p1⟩ (by decide) (by decide)) rfl ?_
          refine wVal (fun w b ⟨_, hv, p0, d0, p1, d1, qq, dq⟩ => dsinside_any _ _ x y x' y' 21 21 w ⟨_, _, _, _, _, _, rfl, d0⟩ ⟨_, _, _, _, _, _, rfl, d1⟩ (by decide) (by decide)) rfl ?_
          refine wPr (prBEq hBool rfl rfl) rfl ?_
          refine wTrue (by show Value.bool (_ == _) = _; rw [beq_self_eq_true]) ?_
          refine wSp (fun w b ⟨_, hv, p0, d0, p1, d1, qq, dq⟩ => hull_any _ _ x y x' y' 21 21 w ⟨_, _, _, _, _, _, _, _, rfl, p0⟩ ⟨_, _, _, _, _, _, _, _, rfl, p1⟩ (by decide) rfl) (fun _ _ _ _ _ _ _ _ => ?_)
          refine wVal (fun w b ⟨h1, h2, _⟩ => is5_any _ _ _ _ _ _ w ⟨_, _, _, _, _, _, _, _, rfl, h1⟩ ⟨_, _, _, _, _, _, rfl, h2⟩ (by decide) (by decide) (hT.below b)) rfl ?_
          refine wTrue rfl ?_
          refine wRat (fun w b ⟨_, _, hv, p0, d0, p1, d1, qq, dq⟩ => mid5_any _ x y 21 w ⟨_, _, _, _, _, _, _, _, rfl, p0⟩ (by decide)) (fun _ _ _ _ => ?_)
          refine wDQ (fun w b ⟨_, _, _, hv, p0, d0, p1, d1, qq, dq⟩ => dmid5_any _ x y 21 w ⟨_, _, _, _, _, _, rfl, d0⟩ (by decide)) (fun _ _ _ => ?_)
          refine wVal (fun w b ⟨h2, h1, _⟩ => is_any _ _ _ _ _ w ⟨_, _, _, _, rfl, h1⟩ ⟨_, _, _, rfl, h2⟩ (by decide) (by decide) (hT.below b)) rfl ?_
          refine wTrue rfl ?_
          refine wRat (fun w b ⟨_, _, _, _, hv, p0, d0, p1, d1, qq, dq⟩ => width_any _ x y 21 w ⟨_, _, _, _, _, _, _, _, rfl, p0⟩ (by decide)) (fun _ _ _ _ => ?_)
          refine wDQ (fun w b ⟨_, _, _, _, _, hv, p0, d0, p1, d1, qq, dq⟩ => dwidth_any _ x y 21 w ⟨_, _, _, _, _, _, rfl, d0⟩ (by decide)) (fun _ _ _ => ?_)
          refine wVal (fun w b ⟨h2, h1, _⟩ => is_any _ _ _ _ _ w ⟨_, _, _, _, rfl, h1⟩ ⟨_, _, _, rfl, h2⟩ (by decide) (by decide) (hT.below b)) rfl ?_
          refine wTrue rfl ?_
          refine wVal (fun w b ⟨_, _, _, _, _, _, hv, p0, d0, p1, d1, qq, dq⟩ => ssign_any _ x y 21 w ⟨_, _, _, _, _, _, _, _, rfl, p0⟩ (by decide)) rfl ?_
          refine wVal (fun w b ⟨_, _, _, _, _, _, hv, p0, d0, p1, d1, qq, dq⟩ => dssign_any _ x y 21 w ⟨_, _, _, _, _, _, rfl, d0⟩) rfl ?_
          refine wPr (prEq rfl rfl) rfl ?_
          refine wTrue (by show Value.bool (_ == _) = _; rw [beq_self_eq_true]) ?_
          refine wPr (prPairEq rfl rfl) rfl ?_
          refine wVal (fun w b ⟨_, _, _, _, _, _, hv, p0, d0, p1, d1, qq, dq⟩ => same5_any _ _ x y x' y' 21 21 w ⟨_, _, _, _, _, _, _, _, rfl, p0⟩ ⟨_, _, _, _, _, _, _, _, rfl, p1⟩ (by decide) (by decide)) rfl ?_
          refine wPr (prBEq hBool rfl rfl) rfl ?_
          refine wRet fun w b _ => ⟨?_, b⟩
          show Ending.returned (Value.bool (_ == _)) = _
          rw [hpair, beq_self_eq_true]
      · refine wKnown [.bool false, .slice none 0 0, .bool false, .slice none 0 0, .bool false, .slice none 0 0, .slice none 0 0, .bool false] (fun w _ _ => numN m w hm k2) rfl rfl ?_
        refine wAlloc [.bool false, .slice none 0 0, .slice none 0 0] hie hzr hR2 (fun g => ?_)
        refine wStoreV (cs := [.bool false, .slice none 0 0, .slice none 0 0]) (cs' := [.bool false, .slice none 0 0, .slice none 0 0]) (fun _ => True) Mono.true Mono.true hR2 rfl (by rw [hie, Option.map_some, hsz]; rfl) rfl rfl rfl rfl (fun w1 h => ⟨h.1, trivial⟩) ?_
        refine wPr (prNot rfl) rfl ?_
        refine wFalse rfl ?_
        refine wPr (prNot rfl) rfl ?_
        refine wFalse rfl ?_
        refine wPr (prNot rfl) rfl ?_
        refine wTrue rfl ?_
        refine wVal (fun w b _ => alive5_any w (hT.below b)) rfl ?_
        exact wRet fun w b _ => ⟨rfl, b⟩
    · refine wKnown ZeroO (fun w _ _ => ofN t z w ht hz k1) rfl rfl ?_
      by_cases k2 : NumQ m
      · refine wBoth (fun w _ _ => numY m w hm k2) rfl (fun vo2 vp2 vq2 vr2 vs2 vt2 vu2 => ?_)
        refine wAlloc [.bool false, .slice none 0 0, .slice none 0 0] hie hzr hR2 (fun g => ?_)
        refine wEx fun u0 hu0 => ⟨fun w1 => VarV w.heap.size 41 w1 g [.bool false, .slice none 0 0, .slice none 0 0] ∧ DQ w1 vs2 vt2 vu2 (ratVal m) 21, (monoVar hR2 _ _ _).and (mD _ _ _ _ _ hU2), ⟨hu0.1, hu0.2.2.1⟩, ?_⟩
        have pq := dpl hu0.2.2.1
        clear hu0
        refine wStoreV (cs := [.bool false, .slice none 0 0, .slice none 0 0]) (cs' := [vs2, vt2, vu2]) (fun _ => True) Mono.true Mono.true hR2 rfl (by rw [hie, Option.map_some, hsz]; rfl) rfl pq rfl rfl (fun w1 h => ⟨h.1, trivial⟩) ?_
        refine wPr (prNot rfl) rfl ?_
        refine wFalse rfl ?_
        refine wPr (prNot rfl) rfl ?_
        refine wTrue rfl ?_
        refine wVal (fun w b _ => alive5_any w (hT.below b)) rfl ?_
        exact wRet fun w b _ => ⟨rfl, b⟩
      · refine wKnown [.bool false, .slice none 0 0, .bool false, .slice none 0 0, .bool false, .slice none 0 0, .slice none 0 0, .bool false] (fun w _ _ => numN m w hm k2) rfl rfl ?_
        refine wAlloc [.bool false, .slice none 0 0, .slice none 0 0] hie hzr hR2 (fun g => ?_)
        refine wStoreV (cs := [.bool false, .slice none 0 0, .slice none 0 0]) (cs' := [.bool false, .slice none 0 0, .slice none 0 0]) (fun _ => True) Mono.true Mono.true hR2 rfl (by rw [hie, Option.map_some, hsz]; rfl) rfl rfl rfl rfl (fun w1 h => ⟨h.1, trivial⟩) ?_
        refine wPr (prNot rfl) rfl ?_
        refine wFalse rfl ?_
        refine wPr (prNot rfl) rfl ?_
        refine wTrue rfl ?_
        refine wVal (fun w b _ => alive5_any w (hT.below b)) rfl ?_
        exact wRet fun w b _ => ⟨rfl, b⟩
  · refine wKnown ZeroO (fun w _ _ => ofN s r w hs hr k0) rfl rfl ?_
    by_cases k1 : OfOk t z
    · refine wBothS (fun w _ _ => ofY t z w ht hz k1) rfl (fun va1 vb1 vc1 vd1 ve1 vf1 vg1 vh1 vi1 vj1 vk1 vl1 vm1 vn1 => ?_)
      by_cases k2 : NumQ m
      · refine wBoth (fun w _ _ => numY m w hm k2) rfl (fun vo2 vp2 vq2 vr2 vs2 vt2 vu2 => ?_)
        refine wAlloc [.bool false, .slice none 0 0, .slice none 0 0] hie hzr hR2 (fun g => ?_)
        refine wEx fun u0 hu0 => ⟨fun w1 => VarV w.heap.size 41 w1 g [.bool false, .slice none 0 0, .slice none 0 0] ∧ DQ w1 vs2 vt2 vu2 (ratVal m) 21, (monoVar hR2 _ _ _).and (mD _ _ _ _ _ hU2), ⟨hu0.1, hu0.2.2.1⟩, ?_⟩
        have pq := dpl hu0.2.2.1
        clear hu0
        refine wStoreV (cs := [.bool false, .slice none 0 0, .slice none 0 0]) (cs' := [vs2, vt2, vu2]) (fun _ => True) Mono.true Mono.true hR2 rfl (by rw [hie, Option.map_some, hsz]; rfl) rfl pq rfl rfl (fun w1 h => ⟨h.1, trivial⟩) ?_
        refine wPr (prNot rfl) rfl ?_
        refine wTrue rfl ?_
        refine wVal (fun w b _ => alive5_any w (hT.below b)) rfl ?_
        exact wRet fun w b _ => ⟨rfl, b⟩
      · refine wKnown [.bool false, .slice none 0 0, .bool false, .slice none 0 0, .bool false, .slice none 0 0, .slice none 0 0, .bool false] (fun w _ _ => numN m w hm k2) rfl rfl ?_
        refine wAlloc [.bool false, .slice none 0 0, .slice none 0 0] hie hzr hR2 (fun g => ?_)
        refine wStoreV (cs := [.bool false, .slice none 0 0, .slice none 0 0]) (cs' := [.bool false, .slice none 0 0, .slice none 0 0]) (fun _ => True) Mono.true Mono.true hR2 rfl (by rw [hie, Option.map_some, hsz]; rfl) rfl rfl rfl rfl (fun w1 h => ⟨h.1, trivial⟩) ?_
        refine wPr (prNot rfl) rfl ?_
        refine wTrue rfl ?_
        refine wVal (fun w b _ => alive5_any w (hT.below b)) rfl ?_
        exact wRet fun w b _ => ⟨rfl, b⟩
    · refine wKnown ZeroO (fun w _ _ => ofN t z w ht hz k1) rfl rfl ?_
      by_cases k2 : NumQ m
      · refine wBoth (fun w _ _ => numY m w hm k2) rfl (fun vo2 vp2 vq2 vr2 vs2 vt2 vu2 => ?_)
        refine wAlloc [.bool false, .slice none 0 0, .slice none 0 0] hie hzr hR2 (fun g => ?_)
        refine wEx fun u0 hu0 => ⟨fun w1 => VarV w.heap.size 41 w1 g [.bool false, .slice none 0 0, .slice none 0 0] ∧ DQ w1 vs2 vt2 vu2 (ratVal m) 21, (monoVar hR2 _ _ _).and (mD _ _ _ _ _ hU2), ⟨hu0.1, hu0.2.2.1⟩, ?_⟩
        have pq := dpl hu0.2.2.1
        clear hu0
        refine wStoreV (cs := [.bool false, .slice none 0 0, .slice none 0 0]) (cs' := [vs2, vt2, vu2]) (fun _ => True) Mono.true Mono.true hR2 rfl (by rw [hie, Option.map_some, hsz]; rfl) rfl pq rfl rfl (fun w1 h => ⟨h.1, trivial⟩) ?_
        refine wPr (prNot rfl) rfl ?_
        refine wTrue rfl ?_
        refine wVal (fun w b _ => alive5_any w (hT.below b)) rfl ?_
        exact wRet fun w b _ => ⟨rfl, b⟩
      · refine wKnown [.bool false, .slice none 0 0, .bool false, .slice none 0 0, .bool false, .slice none 0 0, .slice none 0 0, .bool false] (fun w _ _ => numN m w hm k2) rfl rfl ?_
        refine wAlloc [.bool false, .slice none 0 0, .slice none 0 0] hie hzr hR2 (fun g => ?_)
        refine wStoreV (cs := [.bool false, .slice none 0 0, .slice none 0 0]) (cs' := [.bool false, .slice none 0 0, .slice none 0 0]) (fun _ => True) Mono.true Mono.true hR2 rfl (by rw [hie, Option.map_some, hsz]; rfl) rfl rfl rfl rfl (fun w1 h => ⟨h.1, trivial⟩) ?_
        refine wPr (prNot rfl) rfl ?_
        refine wTrue rfl ?_
        refine wVal (fun w b _ => alive5_any w (hT.below b)) rfl ?_
        exact wRet fun w b _ => ⟨rfl, b⟩
end Go.Proofs.YtfohgkabmdhhaaaGreatDoor

namespace Cin
open Go Go.ChangeShapes Go.WideShapes
section
variable {H : Type} {enc : TypeId × Value → H} {P : Program} {w : World} {base : Nat} {spare : Nat → Bool} {held : Bool}
theorem open_pair {r : Reach} {b0 : Nat} {t s : TypeId} {f0 f1 : Field} {v : Value} {d : DataW H} {ps : List MemPlace} (ht : P.underlying t = some (.struct #[f0, f1])) (hs : P.underlying s = some .string) (hf : f0.type = s ∧ f1.type = s ∧ f0.offset = 0 ∧ f1.offset = 1) (ce : P.cellsOf t = 2) (cs : P.cellsOf s = 1)
    (hval : Value.okWide P w r b0 t v) (hd : DataW.Trod enc P w base spare held t v d ps) :
    ∃ x y : ByteArray, v = .agg #[.string x, .string y] ∧ d = .agg [.lit (.string x.data.toList), .lit (.string y.data.toList)] ∧ ps = [] ∧ x.size ≤ maxLen ∧ y.size ≤ maxLen := by
  obtain ⟨t0, t1, o0, o1⟩ := hf
  obtain ⟨cells, rfl, hsz⟩ := okWide_struct ht hval
  obtain ⟨fuel, hf⟩ := hd
  obtain ⟨y0, y1, n, hx, hl, h0, h1⟩ := trod_struct2 ht hf
  rw [t0, o0, cs] at h0
  rw [t1, o1, cs] at h1
  obtain ⟨x, e0, rfl, l0⟩ := DataW.trod_string hs h0
  obtain ⟨y, e1, rfl, l1⟩ := DataW.trod_string hs h1
  simp only [Prod.mk.injEq] at hx
  refine ⟨x, y, ?_, hx.1, by rw [hx.2]; rfl, l0, l1⟩
  simp only [Value.cells] at e0 e1
  rw [ce] at hsz
  obtain ⟨l⟩ := cells
  match l, hsz with
  | [a, b], _ =>
    simp at e0 e1
    rw [e0, e1]
theorem shut_pair {t s : TypeId} {f0 f1 : Field} {x y : ByteArray} (ht : P.underlying t = some (.struct #[f0, f1])) (hs : P.underlying s = some .string) (hf : f0.type = s ∧ f1.type = s ∧ f0.offset = 0 ∧ f1.offset = 1) (ce : P.cellsOf t = 2) (cs : P.cellsOf s = 1)
    (l0 : x.size ≤ maxLen) (l1 : y.size ≤ maxLen) : DataW.Trod enc P w base spare held t (.agg #[.string x, .string y]) (.agg [.lit (.string x.data.toList), .lit (.string y.data.toList)]) [] := by
  obtain ⟨t0, t1, o0, o1⟩ := hf
  have g0 : DataW.trod enc P w base spare held 1 s [.string x] = some (.lit (.string x.data.toList), []) := by simp [DataW.trod, hs, l0]
  have g1 : DataW.trod enc P w base spare held 1 s [.string y] = some (.lit (.string y.data.toList), []) := by simp [DataW.trod, hs, l1]
  refine ⟨2, ?_⟩
  have := trod_struct2_mk (enc := enc) (w := w) (base := base) (spare := spare) (held := held) (n := 1) (cs := [.string x, .string y]) ht (by rw [ce]; rfl) (y0 := (.lit (.string x.data.toList), [])) (y1 := (.lit (.string y.data.toList), []))
    (by rw [t0, o0, cs]; exact g0) (by rw [t1, o1, cs]; exact g1)
  exact this
end
end Cin
