/- The law SpanMeets. -/
import Derived.Test.YtfohgkabmdhhaaaGreatDoorYy
namespace Go.Proofs.YtfohgkabmdhhaaaGreatDoor
open Go.RowKit Cin

theorem meet_has1 {x y x' y' q : Rat} (h1 : x ≤ q) (h2 : q ≤ y) : ((decide (mx x x' ≤ q) && decide (q ≤ mn y y')) == (decide (x' ≤ q) && decide (q ≤ y'))) = true := by
  have m1 := mx_r x x'
  have m2 := mn_r y y'
  have o1 := mx_or x x'
  have o2 := mn_or y y'
  by_cases a : x' ≤ q
  · rw [decide_eq_true a, decide_eq_true (by grind : mx x x' ≤ q)]
    by_cases b : q ≤ y'
    · rw [decide_eq_true b, decide_eq_true (by grind : q ≤ mn y y')]; rfl
    · rw [decide_eq_false b, decide_eq_false (by grind : ¬ q ≤ mn y y')]; rfl
  · rw [decide_eq_false a, decide_eq_false (by grind : ¬ mx x x' ≤ q)]; rfl
theorem meet_has2 {x y x' y' q : Rat} (h : (decide (x ≤ q) && decide (q ≤ y)) = false) : ((decide (mx x x' ≤ q) && decide (q ≤ mn y y')) == false) = true := by
  have m1 := mx_l x x'
  have m2 := mn_l y y'
  by_cases a : x ≤ q
  · by_cases b : q ≤ y
    · rw [decide_eq_true a, decide_eq_true b] at h; cases h
    · rw [decide_eq_false (by grind : ¬ q ≤ mn y y'), Bool.and_false]; rfl
  · rw [decide_eq_false (by grind : ¬ mx x x' ≤ q)]; rfl
theorem meet_has3 {x y x' y' q : Rat} (h1 : x ≤ q) (h2 : q ≤ y) (hm : ¬ mx x x' ≤ mn y y') : (false == (decide (x' ≤ q) && decide (q ≤ y'))) = true := by
  have o1 := mx_or x x'
  have o2 := mn_or y y'
  by_cases a : x' ≤ q
  · by_cases b : q ≤ y'
    · exact absurd (by grind) hm
    · rw [decide_eq_false b, Bool.and_false]; rfl
  · rw [decide_eq_false a]; rfl

set_option maxHeartbeats 8000000 in
/-- The law holds. -/
theorem spanMeets_any (s r t z m : ByteArray) (w : World) (hT : Tabs w) (hs : s.size ≤ 9223372036854775807) (hr : r.size ≤ 9223372036854775807) (ht : t.size ≤ 9223372036854775807) (hz : z.size ≤ 9223372036854775807) (hm : m.size ≤ 9223372036854775807) :
    Calls Tryz.prog 11 #[.agg #[.string s, .string r], .agg #[.string t, .string z], .string m] w fun e w' => e = .returned (.bool true) ∧ Below w.heap.size w w' := by
  refine go (fun _ => True) [[.string s, .string r], [.string t, .string z], [.string m]] [some 2, some 2, none] (tr := (.em (.call 22 [.g [.c 0 0, .c 0 1]] [some 8, some 6, none]) (.em (.call 22 [.g [.c 1 0, .c 1 1]] [some 8, some 6, none]) (.em (.call 23 [.s (.c 2 0)] [some 4, some 3, none]) (.em (.pr (.unOp .not 4 (.tmp 0)) 4 [.s (.c 3 14)]) (.cond (.c 6 0) (.em (.call 12 [] [none]) (.ret (.v (.s (.c 7 0))))) (.em (.pr (.unOp .not 4 (.tmp 0)) 4 [.s (.c 4 14)]) (.cond (.c 7 0) (.em (.call 12 [] [none]) (.ret (.v (.s (.c 8 0))))) (.em (.pr (.unOp .not 4 (.tmp 0)) 4 [.s (.c 5 7)]) (.cond (.c 8 0) (.em (.call 12 [] [none]) (.ret (.v (.s (.c 9 0))))) (.em (.call 12 [] [none]) (.em (.pr (.unOp .not 4 (.tmp 0)) 4 [.s (.c 9 0)]) (.cond (.c 10 0) (.em (.call 12 [] [none]) (.ret (.v (.s (.c 11 0))))) (.em (.call 35 [.g [.c 3 0, .c 3 1, .c 3 2, .c 3 3, .c 3 4, .c 3 5, .c 3 6, .c 3 7], .g [.c 4 0, .c 4 1, .c 4 2, .c 4 3, .c 4 4, .c 4 5, .c 4 6, .c 4 7]] [some 8, none]) (.em (.call 38 [.g [.c 3 0, .c 3 1, .c 3 2, .c 3 3, .c 3 4, .c 3 5, .c 3 6, .c 3 7], .g [.c 5 0, .c 5 1, .c 5 2, .c 5 3]] [none]) (.cond (.c 12 0) (.em (.call 38 [.g [.c 4 0, .c 4 1, .c 4 2, .c 4 3, .c 4 4, .c 4 5, .c 4 6, .c 4 7], .g [.c 5 0, .c 5 1, .c 5 2, .c 5 3]] [none]) (.cond (.c 11 8) (.em (.call 38 [.g [.c 11 0, .c 11 1, .c 11 2, .c 11 3, .c 11 4, .c 11 5, .c 11 6, .c 11 7], .g [.c 5 0, .c 5 1, .c 5 2, .c 5 3]] [none]) (.em (.pr (.binOp .eql 4 (.tmp 0) (.tmp 1) 4) 4 [.s (.c 14 0), .s (.c 13 0)]) (.cond (.c 15 0) (.em (.pr (.unOp .not 4 (.tmp 0)) 4 [.s (.k (.bool true))]) (.cond (.c 16 0) (.em (.call 46 [.g [.c 3 0, .c 3 1, .c 3 2, .c 3 3, .c 3 4, .c 3 5, .c 3 6, .c 3 7]] [some 4]) (.em (.call 38 [.g [.c 3 0, .c 3 1, .c 3 2, .c 3 3, .c 3 4, .c 3 5, .c 3 6, .c 3 7], .g [.c 17 0, .c 17 1, .c 17 2, .c 17 3]] [none]) (.cond (.c 18 0) (.em (.call 42 [.g [.c 3 0, .c 3 1, .c 3 2, .c 3 3, .c 3 4, .c 3 5, .c 3 6, .c 3 7], .g [.c 4 0, .c 4 1, .c 4 2, .c 4 3, .c 4 4, .c 4 5, .c 4 6, .c 4 7]] [none]) (.em (.pr (.unOp .not 4 (.tmp 0)) 4 [.s (.c 19 0)]) (.cond (.c 20 0) (.ret (.v (.s (.k (.bool true))))) (.em (.call 40 [.g [.c 3 0, .c 3 1, .c 3 2, .c 3 3, .c 3 4, .c 3 5, .c 3 6, .c 3 7], .g [.c 4 0, .c 4 1, .c 4 2, .c 4 3, .c 4 4, .c 4 5, .c 4 6, .c 4 7]] [none]) (.ret (.v (.s (.c 21 0)))))))) (.ret (.v (.s (.k (.bool false)))))))) (.em (.call 40 [.g [.c 11 0, .c 11 1, .c 11 2, .c 11 3, .c 11 4, .c 11 5, .c 11 6, .c 11 7], .g [.c 3 0, .c 3 1, .c 3 2, .c 3 3, .c 3 4, .c 3 5, .c 3 6, .c 3 7]] [none]) (.cond (.c 17 0) (.em (.call 40 [.g [.c 11 0, .c 11 1, .c 11 2, .c 11 3, .c 11 4, .c 11 5, .c 11 6, .c 11 7], .g [.c 4 0, .c 4 1, .c 4 2, .c 4 3, .c 4 4, .c 4 5, .c 4 6, .c 4 7]] [none]) (.cond (.c 18 0) (.em (.call 46 [.g [.c 3 0, .c 3 1, .c 3 2, .c 3 3, .c 3 4, .c 3 5, .c 3 6, .c 3 7]] [some 4]) (.em (.call 38 [.g [.c 3 0, .c 3 1, .c 3 2, .c 3 3, .c 3 4, .c 3 5, .c 3 6, .c 3 7], .g [.c 19 0, .c 19 1, .c 19 2, .c 19 3]] [none]) (.cond (.c 20 0) (.em (.call 42 [.g [.c 3 0, .c 3 1, .c 3 2, .c 3 3, .c 3 4, .c 3 5, .c 3 6, .c 3 7], .g [.c 4 0, .c 4 1, .c 4 2, .c 4 3, .c 4 4, .c 4 5, .c 4 6, .c 4 7]] [none]) (.em (.pr (.unOp .not 4 (.tmp 0)) 4 [.s (.c 21 0)]) (.cond (.c 22 0) (.ret (.v (.s (.k (.bool true))))) (.em (.call 40 [.g [.c 3 0, .c 3 1, .c 3 2, .c 3 3, .c 3 4, .c 3 5, .c 3 6, .c 3 7], .g [.c 4 0, .c 4 1, .c 4 2, .c 4 3, .c 4 4, .c 4 5, .c 4 6, .c 4 7]] [none]) (.ret (.v (.s (.c 23 0)))))))) (.ret (.v (.s (.k (.bool false)))))))) (.ret (.v (.s (.k (.bool false))))))) (.ret (.v (.s (.k (.bool false))))))))) (.ret (.v (.s (.k (.bool false)))))))) (.em (.pr (.binOp .eql 4 (.tmp 0) (.tmp 1) 4) 4 [.s (.k (.bool false)), .s (.c 13 0)]) (.cond (.c 14 0) (.em (.pr (.unOp .not 4 (.tmp 0)) 4 [.s (.k (.bool false))]) (.cond (.c 15 0) (.em (.call 46 [.g [.c 3 0, .c 3 1, .c 3 2, .c 3 3, .c 3 4, .c 3 5, .c 3 6, .c 3 7]] [some 4]) (.em (.call 38 [.g [.c 3 0, .c 3 1, .c 3 2, .c 3 3, .c 3 4, .c 3 5, .c 3 6, .c 3 7], .g [.c 16 0, .c 16 1, .c 16 2, .c 16 3]] [none]) (.cond (.c 17 0) (.em (.call 42 [.g [.c 3 0, .c 3 1, .c 3 2, .c 3 3, .c 3 4, .c 3 5, .c 3 6, .c 3 7], .g [.c 4 0, .c 4 1, .c 4 2, .c 4 3, .c 4 4, .c 4 5, .c 4 6, .c 4 7]] [none]) (.em (.pr (.unOp .not 4 (.tmp 0)) 4 [.s (.c 18 0)]) (.cond (.c 19 0) (.ret (.v (.s (.k (.bool true))))) (.em (.call 40 [.g [.c 3 0, .c 3 1, .c 3 2, .c 3 3, .c 3 4, .c 3 5, .c 3 6, .c 3 7], .g [.c 4 0, .c 4 1, .c 4 2, .c 4 3, .c 4 4, .c 4 5, .c 4 6, .c 4 7]] [none]) (.ret (.v (.s (.c 20 0)))))))) (.ret (.v (.s (.k (.bool false)))))))) (.em (.call 40 [.g [.c 11 0, .c 11 1, .c 11 2, .c 11 3, .c 11 4, .c 11 5, .c 11 6, .c 11 7], .g [.c 3 0, .c 3 1, .c 3 2, .c 3 3, .c 3 4, .c 3 5, .c 3 6, .c 3 7]] [none]) (.cond (.c 16 0) (.em (.call 40 [.g [.c 11 0, .c 11 1, .c 11 2, .c 11 3, .c 11 4, .c 11 5, .c 11 6, .c 11 7], .g [.c 4 0, .c 4 1, .c 4 2, .c 4 3, .c 4 4, .c 4 5, .c 4 6, .c 4 7]] [none]) (.cond (.c 17 0) (.em (.call 46 [.g [.c 3 0, .c 3 1, .c 3 2, .c 3 3, .c 3 4, .c 3 5, .c 3 6, .c 3 7]] [some 4]) (.em (.call 38 [.g [.c 3 0, .c 3 1, .c 3 2, .c 3 3, .c 3 4, .c 3 5, .c 3 6, .c 3 7], .g [.c 18 0, .c 18 1, .c 18 2, .c 18 3]] [none]) (.cond (.c 19 0) (.em (.call 42 [.g [.c 3 0, .c 3 1, .c 3 2, .c 3 3, .c 3 4, .c 3 5, .c 3 6, .c 3 7], .g [.c 4 0, .c 4 1, .c 4 2, .c 4 3, .c 4 4, .c 4 5, .c 4 6, .c 4 7]] [none]) (.em (.pr (.unOp .not 4 (.tmp 0)) 4 [.s (.c 20 0)]) (.cond (.c 21 0) (.ret (.v (.s (.k (.bool true))))) (.em (.call 40 [.g [.c 3 0, .c 3 1, .c 3 2, .c 3 3, .c 3 4, .c 3 5, .c 3 6, .c 3 7], .g [.c 4 0, .c 4 1, .c 4 2, .c 4 3, .c 4 4, .c 4 5, .c 4 6, .c 4 7]] [none]) (.ret (.v (.s (.c 22 0)))))))) (.ret (.v (.s (.k (.bool false)))))))) (.ret (.v (.s (.k (.bool false))))))) (.ret (.v (.s (.k (.bool false))))))))) (.ret (.v (.s (.k (.bool false))))))))) (.cond (.c 11 8) (.em (.call 38 [.g [.c 11 0, .c 11 1, .c 11 2, .c 11 3, .c 11 4, .c 11 5, .c 11 6, .c 11 7], .g [.c 5 0, .c 5 1, .c 5 2, .c 5 3]] [none]) (.em (.pr (.binOp .eql 4 (.tmp 0) (.tmp 1) 4) 4 [.s (.c 13 0), .s (.k (.bool false))]) (.cond (.c 14 0) (.em (.pr (.unOp .not 4 (.tmp 0)) 4 [.s (.k (.bool true))]) (.cond (.c 15 0) (.em (.call 46 [.g [.c 3 0, .c 3 1, .c 3 2, .c 3 3, .c 3 4, .c 3 5, .c 3 6, .c 3 7]] [some 4]) (.em (.call 38 [.g [.c 3 0, .c 3 1, .c 3 2, .c 3 3, .c 3 4, .c 3 5, .c 3 6, .c 3 7], .g [.c 16 0, .c 16 1, .c 16 2, .c 16 3]] [none]) (.cond (.c 17 0) (.em (.call 42 [.g [.c 3 0, .c 3 1, .c 3 2, .c 3 3, .c 3 4, .c 3 5, .c 3 6, .c 3 7], .g [.c 4 0, .c 4 1, .c 4 2, .c 4 3, .c 4 4, .c 4 5, .c 4 6, .c 4 7]] [none]) (.em (.pr (.unOp .not 4 (.tmp 0)) 4 [.s (.c 18 0)]) (.cond (.c 19 0) (.ret (.v (.s (.k (.bool true))))) (.em (.call 40 [.g [.c 3 0, .c 3 1, .c 3 2, .c 3 3, .c 3 4, .c 3 5, .c 3 6, .c 3 7], .g [.c 4 0, .c 4 1, .c 4 2, .c 4 3, .c 4 4, .c 4 5, .c 4 6, .c 4 7]] [none]) (.ret (.v (.s (.c 20 0)))))))) (.ret (.v (.s (.k (.bool false)))))))) (.em (.call 40 [.g [.c 11 0, .c 11 1, .c 11 2, .c 11 3, .c 11 4, .c 11 5, .c 11 6, .c 11 7], .g [.c 3 0, .c 3 1, .c 3 2, .c 3 3, .c 3 4, .c 3 5, .c 3 6, .c 3 7]] [none]) (.cond (.c 16 0) (.em (.call 40 [.g [.c 11 0, .c 11 1, .c 11 2, .c 11 3, .c 11 4, .c 11 5, .c 11 6, .c 11 7], .g [.c 4 0, .c 4 1, .c 4 2, .c 4 3, .c 4 4, .c 4 5, .c 4 6, .c 4 7]] [none]) (.cond (.c 17 0) (.em (.call 46 [.g [.c 3 0, .c 3 1, .c 3 2, .c 3 3, .c 3 4, .c 3 5, .c 3 6, .c 3 7]] [some 4]) (.em (.call 38 [.g [.c 3 0, .c 3 1, .c 3 2, .c 3 3, .c 3 4, .c 3 5, .c 3 6, .c 3 7], .g [.c 18 0, .c 18 1, .c 18 2, .c 18 3]] [none]) (.cond (.c 19 0) (.em (.call 42 [.g [.c 3 0, .c 3 1, .c 3 2, .c 3 3, .c 3 4, .c 3 5, .c 3 6, .c 3 7], .g [.c 4 0, .c 4 1, .c 4 2, .c 4 3, .c 4 4, .c 4 5, .c 4 6, .c 4 7]] [none]) (.em (.pr (.unOp .not 4 (.tmp 0)) 4 [.s (.c 20 0)]) (.cond (.c 21 0) (.ret (.v (.s (.k (.bool true))))) (.em (.call 40 [.g [.c 3 0, .c 3 1, .c 3 2, .c 3 3, .c 3 4, .c 3 5, .c 3 6, .c 3 7], .g [.c 4 0, .c 4 1, .c 4 2, .c 4 3, .c 4 4, .c 4 5, .c 4 6, .c 4 7]] [none]) (.ret (.v (.s (.c 22 0)))))))) (.ret (.v (.s (.k (.bool false)))))))) (.ret (.v (.s (.k (.bool false))))))) (.ret (.v (.s (.k (.bool false))))))))) (.ret (.v (.s (.k (.bool false)))))))) (.em (.pr (.binOp .eql 4 (.tmp 0) (.tmp 1) 4) 4 [.s (.k (.bool false)), .s (.k (.bool false))]) (.cond (.c 13 0) (.em (.pr (.unOp .not 4 (.tmp 0)) 4 [.s (.k (.bool false))]) (.cond (.c 14 0) (.em (.call 46 [.g [.c 3 0, .c 3 1, .c 3 2, .c 3 3, .c 3 4, .c 3 5, .c 3 6, .c 3 7]] [some 4]) (.em (.call 38 [.g [.c 3 0, .c 3 1, .c 3 2, .c 3 3, .c 3 4, .c 3 5, .c 3 6, .c 3 7], .g [.c 15 0, .c 15 1, .c 15 2, .c 15 3]] [none]) (.cond (.c 16 0) (.em (.call 42 [.g [.c 3 0, .c 3 1, .c 3 2, .c 3 3, .c 3 4, .c 3 5, .c 3 6, .c 3 7], .g [.c 4 0, .c 4 1, .c 4 2, .c 4 3, .c 4 4, .c 4 5, .c 4 6, .c 4 7]] [none]) (.em (.pr (.unOp .not 4 (.tmp 0)) 4 [.s (.c 17 0)]) (.cond (.c 18 0) (.ret (.v (.s (.k (.bool true))))) (.em (.call 40 [.g [.c 3 0, .c 3 1, .c 3 2, .c 3 3, .c 3 4, .c 3 5, .c 3 6, .c 3 7], .g [.c 4 0, .c 4 1, .c 4 2, .c 4 3, .c 4 4, .c 4 5, .c 4 6, .c 4 7]] [none]) (.ret (.v (.s (.c 19 0)))))))) (.ret (.v (.s (.k (.bool false)))))))) (.em (.call 40 [.g [.c 11 0, .c 11 1, .c 11 2, .c 11 3, .c 11 4, .c 11 5, .c 11 6, .c 11 7], .g [.c 3 0, .c 3 1, .c 3 2, .c 3 3, .c 3 4, .c 3 5, .c 3 6, .c 3 7]] [none]) (.cond (.c 15 0) (.em (.call 40 [.g [.c 11 0, .c 11 1, .c 11 2, .c 11 3, .c 11 4, .c 11 5, .c 11 6, .c 11 7], .g [.c 4 0, .c 4 1, .c 4 2, .c 4 3, .c 4 4, .c 4 5, .c 4 6, .c 4 7]] [none]) (.cond (.c 16 0) (.em (.call 46 [.g [.c 3 0, .c 3 1, .c 3 2, .c 3 3, .c 3 4, .c 3 5, .c 3 6, .c 3 7]] [some 4]) (.em (.call 38 [.g [.c 3 0, .c 3 1, .c 3 2, .c 3 3, .c 3 4, .c 3 5, .c 3 6, .c 3 7], .g [.c 17 0, .c 17 1, .c 17 2, .c 17 3]] [none]) (.cond (.c 18 0) (.em (.call 42 [.g [.c 3 0, .c 3 1, .c 3 2, .c 3 3, .c 3 4, .c 3 5, .c 3 6, .c 3 7], .g [.c 4 0, .c 4 1, .c 4 2, .c 4 3, .c 4 4, .c 4 5, .c 4 6, .c 4 7]] [none]) (.em (.pr (.unOp .not 4 (.tmp 0)) 4 [.s (.c 19 0)]) (.cond (.c 20 0) (.ret (.v (.s (.k (.bool true))))) (.em (.call 40 [.g [.c 3 0, .c 3 1, .c 3 2, .c 3 3, .c 3 4, .c 3 5, .c 3 6, .c 3 7], .g [.c 4 0, .c 4 1, .c 4 2, .c 4 3, .c 4 4, .c 4 5, .c 4 6, .c 4 7]] [none]) (.ret (.v (.s (.c 21 0)))))))) (.ret (.v (.s (.k (.bool false)))))))) (.ret (.v (.s (.k (.bool false))))))) (.ret (.v (.s (.k (.bool false))))))))) (.ret (.v (.s (.k (.bool false)))))))))))))))))))))))) (by kernel_rfl) (by kernel_rfl) (by kernel_rfl) Mono.true trivial ⟨rfl, rfl, rfl, trivial⟩ ?_
  by_cases k0 : OfOk s r
  · refine wBothS (fun w _ _ => ofY s r w hs hr k0) rfl (fun va0 vb0 vc0 vd0 ve0 vf0 vg0 vh0 vi0 vj0 vk0 vl0 vm0 vn0 => ?_)
    by_cases k1 : OfOk t z
    · refine wBothS (fun w _ _ => ofY t z w ht hz k1) rfl (fun va1 vb1 vc1 vd1 ve1 vf1 vg1 vh1 vi1 vj1 vk1 vl1 vm1 vn1 => ?_)
      by_cases k2 : NumQ m
      · refine wBoth (fun w _ _ => numY m w hm k2) rfl (fun vo2 vp2 vq2 vr2 vs2 vt2 vu2 => ?_)
        refine wPr (prNot rfl) rfl ?_
        refine wFalse rfl ?_
        refine wPr (prNot rfl) rfl ?_
        refine wFalse rfl ?_
        refine wPr (prNot rfl) rfl ?_
        refine wFalse rfl ?_
        have l0 : ratVal s ≤ ratVal r := k0.1.2.2
        generalize ratVal s = x at l0 ⊢
        generalize ratVal r = y at l0 ⊢
        have l1 : ratVal t ≤ ratVal z := k1.1.2.2
        generalize ratVal t = x' at l1 ⊢
        generalize ratVal z = y' at l1 ⊢
        generalize ratVal m = q
        refine wMono (G := fun w => SpQ w va0 vb0 vc0 vd0 ve0 vf0 vg0 vh0 x y 21 ∧ SpQ w va1 vb1 vc1 vd1 ve1 vf1 vg1 vh1 x' y' 21 ∧ QB w vo2 vp2 vq2 vr2 q 21) ((mSp _ _ _ _ _ _ _ _ _ _ _).and ((mSp _ _ _ _ _ _ _ _ _ _ _).and (mQ _ _ _ _ _ _))) (fun w ⟨x2, y2, x1, y1, x0, y0, _⟩ => ⟨x0, x1, x2⟩) ?_
        refine wVal (fun w b _ => alive5_any w (hT.below b)) rfl ?_
        refine wPr (prNot rfl) rfl ?_
        refine wFalse rfl ?_
        have m1 := mx_l x x'
        have m2 := mx_r x x'
        have m3 := mn_l y y'
        have m4 := mn_r y y'
        have o1 := mx_or x x'
        have o2 := mn_or y y'
        by_cases hm : mx x x' ≤ mn y y'
        · refine wSpV (fun w b ⟨h, h2, _⟩ => meetY _ _ x y x' y' 21 21 w ⟨_, _, _, _, _, _, _, _, rfl, h⟩ ⟨_, _, _, _, _, _, _, _, rfl, h2⟩ (by decide) rfl hm) rfl (fun ma mb mc md me mf mg mh => ?_)
          refine wVal (fun w b ⟨_, h, _, hq⟩ => has5_any _ _ x y q 21 21 w ⟨_, _, _, _, _, _, _, _, rfl, h⟩ ⟨_, _, _, _, rfl, hq⟩ (by decide) (by decide)) rfl ?_
          refine wIf _ rfl (fun e => ?_) (fun e => ?_)
          · rw [Bool.and_eq_true, decide_eq_true_eq, decide_eq_true_eq] at e
            refine wVal (fun w b ⟨_, _, h, hq⟩ => has5_any _ _ x' y' q 21 21 w ⟨_, _, _, _, _, _, _, _, rfl, h⟩ ⟨_, _, _, _, rfl, hq⟩ (by decide) (by decide)) rfl ?_
            refine wTrue rfl ?_
            refine wVal (fun w b ⟨h, _, _, hq⟩ => has5_any _ _ (mx x x') (mn y y') q 21 21 w ⟨_, _, _, _, _, _, _, _, rfl, h⟩ ⟨_, _, _, _, rfl, hq⟩ (by decide) (by decide)) rfl ?_
            refine wPr (prBEq hBool rfl rfl) rfl ?_
            refine wTrue (by show Value.bool ((decide (mx x x' ≤ q) && decide (q ≤ mn y y')) == (decide (x' ≤ q) && decide (q ≤ y'))) = _; exact congrArg Value.bool (meet_has1 e.1 e.2)) ?_
            refine wPr (prNot rfl) rfl ?_
            refine wFalse rfl ?_
            refine wVal (fun w b ⟨h, h1, _⟩ => withinY ⟨_, _, _, _, _, _, _, _, rfl, h⟩ ⟨_, _, _, _, _, _, _, _, rfl, h1⟩ (by decide) (by decide) m1 m3) rfl ?_
            refine wTrue rfl ?_
            refine wVal (fun w b ⟨h, _, h1, _⟩ => withinY ⟨_, _, _, _, _, _, _, _, rfl, h⟩ ⟨_, _, _, _, _, _, _, _, rfl, h1⟩ (by decide) (by decide) m2 m4) rfl ?_
            refine wTrue rfl ?_
            refine wMono (G := fun w => SpQ w va0 vb0 vc0 vd0 ve0 vf0 vg0 vh0 x y 21 ∧ SpQ w va1 vb1 vc1 vd1 ve1 vf1 vg1 vh1 x' y' 21 ∧ QB w vo2 vp2 vq2 vr2 q 21) ((mSp _ _ _ _ _ _ _ _ _ _ _).and ((mSp _ _ _ _ _ _ _ _ _ _ _).and (mQ _ _ _ _ _ _))) (fun w h => h.2) ?_
            refine wRat (fun w b ⟨h, _⟩ => mid5_any _ x y 21 w ⟨_, _, _, _, _, _, _, _, rfl, h⟩ (by decide)) (fun _ _ _ _ => ?_)
            refine wVal (fun w b ⟨hm, h, _⟩ => hasY ⟨_, _, _, _, _, _, _, _, rfl, h⟩ ⟨_, _, _, _, rfl, hm⟩ (by decide) (by decide) (by grind) (by grind)) rfl ?_
            refine wTrue rfl ?_
            refine wVal (fun w b ⟨_, h, h2, _⟩ => inside5_any _ _ x y x' y' 21 21 w ⟨_, _, _, _, _, _, _, _, rfl, h⟩ ⟨_, _, _, _, _, _, _, _, rfl, h2⟩ (by decide) (by decide)) rfl ?_
            refine wPr (prNot rfl) rfl ?_
            refine wIf _ rfl (fun e => ?_) (fun e => ?_)
            · exact wRet fun w b _ => ⟨rfl, b⟩
            · have e1 : (decide (x' < x) && decide (y < y')) = true := by simpa using e
              rw [Bool.and_eq_true, decide_eq_true_eq, decide_eq_true_eq] at e1
              refine wVal (fun w b ⟨_, h, h2, _⟩ => withinY ⟨_, _, _, _, _, _, _, _, rfl, h⟩ ⟨_, _, _, _, _, _, _, _, rfl, h2⟩ (by decide) (by decide) (by grind) (by grind)) rfl ?_
              exact wRet fun w b _ => ⟨rfl, b⟩
          · refine wTrue rfl ?_
            refine wVal (fun w b ⟨h, _, _, hq⟩ => has5_any _ _ (mx x x') (mn y y') q 21 21 w ⟨_, _, _, _, _, _, _, _, rfl, h⟩ ⟨_, _, _, _, rfl, hq⟩ (by decide) (by decide)) rfl ?_
            refine wPr (prBEq hBool rfl rfl) rfl ?_
            refine wTrue (by show Value.bool ((decide (mx x x' ≤ q) && decide (q ≤ mn y y')) == false) = _; exact congrArg Value.bool (meet_has2 e)) ?_
            refine wPr (prNot rfl) rfl ?_
            refine wFalse rfl ?_
            refine wVal (fun w b ⟨h, h1, _⟩ => withinY ⟨_, _, _, _, _, _, _, _, rfl, h⟩ ⟨_, _, _, _, _, _, _, _, rfl, h1⟩ (by decide) (by decide) m1 m3) rfl ?_
            refine wTrue rfl ?_
            refine wVal (fun w b ⟨h, _, h1, _⟩ => withinY ⟨_, _, _, _, _, _, _, _, rfl, h⟩ ⟨_, _, _, _, _, _, _, _, rfl, h1⟩ (by decide) (by decide) m2 m4) rfl ?_
            refine wTrue rfl ?_
            refine wMono (G := fun w => SpQ w va0 vb0 vc0 vd0 ve0 vf0 vg0 vh0 x y 21 ∧ SpQ w va1 vb1 vc1 vd1 ve1 vf1 vg1 vh1 x' y' 21 ∧ QB w vo2 vp2 vq2 vr2 q 21) ((mSp _ _ _ _ _ _ _ _ _ _ _).and ((mSp _ _ _ _ _ _ _ _ _ _ _).and (mQ _ _ _ _ _ _))) (fun w h => h.2) ?_
            refine wRat (fun w b ⟨h, _⟩ => mid5_any _ x y 21 w ⟨_, _, _, _, _, _, _, _, rfl, h⟩ (by decide)) (fun _ _ _ _ => ?_)
            refine wVal (fun w b ⟨hm, h, _⟩ => hasY ⟨_, _, _, _, _, _, _, _, rfl, h⟩ ⟨_, _, _, _, rfl, hm⟩ (by decide) (by decide) (by grind) (by grind)) rfl ?_
            refine wTrue rfl ?_
            refine wVal (fun w b ⟨_, h, h2, _⟩ => inside5_any _ _ x y x' y' 21 21 w ⟨_, _, _, _, _, _, _, _, rfl, h⟩ ⟨_, _, _, _, _, _, _, _, rfl, h2⟩ (by decide) (by decide)) rfl ?_
            refine wPr (prNot rfl) rfl ?_
            refine wIf _ rfl (fun e => ?_) (fun e => ?_)
            · exact wRet fun w b _ => ⟨rfl, b⟩
            · have e1 : (decide (x' < x) && decide (y < y')) = true := by simpa using e
              rw [Bool.and_eq_true, decide_eq_true_eq, decide_eq_true_eq] at e1
              refine wVal (fun w b ⟨_, h, h2, _⟩ => withinY ⟨_, _, _, _, _, _, _, _, rfl, h⟩ ⟨_, _, _, _, _, _, _, _, rfl, h2⟩ (by decide) (by decide) (by grind) (by grind)) rfl ?_
              exact wRet fun w b _ => ⟨rfl, b⟩
        · refine wKnown (ZeroS ++ [.bool false]) (fun w b ⟨h, h2, _⟩ => meetN _ _ x y x' y' 21 21 w ⟨_, _, _, _, _, _, _, _, rfl, h⟩ ⟨_, _, _, _, _, _, _, _, rfl, h2⟩ (by decide) rfl (by grind)) rfl rfl ?_ (hE := rfl)
          refine wVal (fun w b ⟨h, _, hq⟩ => has5_any _ _ x y q 21 21 w ⟨_, _, _, _, _, _, _, _, rfl, h⟩ ⟨_, _, _, _, rfl, hq⟩ (by decide) (by decide)) rfl ?_
          refine wIf _ rfl (fun e => ?_) (fun e => ?_)
          · rw [Bool.and_eq_true, decide_eq_true_eq, decide_eq_true_eq] at e
            refine wVal (fun w b ⟨_, h, hq⟩ => has5_any _ _ x' y' q 21 21 w ⟨_, _, _, _, _, _, _, _, rfl, h⟩ ⟨_, _, _, _, rfl, hq⟩ (by decide) (by decide)) rfl ?_
            refine wFalse rfl ?_
            refine wPr (prBEq hBool rfl rfl) rfl ?_
            refine wTrue (by show Value.bool (false == (decide (x' ≤ q) && decide (q ≤ y'))) = _; exact congrArg Value.bool (meet_has3 e.1 e.2 hm)) ?_
            refine wPr (prNot rfl) rfl ?_
            refine wTrue rfl ?_
            refine wMono (G := fun w => SpQ w va0 vb0 vc0 vd0 ve0 vf0 vg0 vh0 x y 21 ∧ SpQ w va1 vb1 vc1 vd1 ve1 vf1 vg1 vh1 x' y' 21 ∧ QB w vo2 vp2 vq2 vr2 q 21) ((mSp _ _ _ _ _ _ _ _ _ _ _).and ((mSp _ _ _ _ _ _ _ _ _ _ _).and (mQ _ _ _ _ _ _))) (fun w h => h) ?_
            refine wRat (fun w b ⟨h, _⟩ => mid5_any _ x y 21 w ⟨_, _, _, _, _, _, _, _, rfl, h⟩ (by decide)) (fun _ _ _ _ => ?_)
            refine wVal (fun w b ⟨hm, h, _⟩ => hasY ⟨_, _, _, _, _, _, _, _, rfl, h⟩ ⟨_, _, _, _, rfl, hm⟩ (by decide) (by decide) (by grind) (by grind)) rfl ?_
            refine wTrue rfl ?_
            refine wVal (fun w b ⟨_, h, h2, _⟩ => inside5_any _ _ x y x' y' 21 21 w ⟨_, _, _, _, _, _, _, _, rfl, h⟩ ⟨_, _, _, _, _, _, _, _, rfl, h2⟩ (by decide) (by decide)) rfl ?_
            refine wPr (prNot rfl) rfl ?_
            refine wIf _ rfl (fun e => ?_) (fun e => ?_)
            · exact wRet fun w b _ => ⟨rfl, b⟩
            · have e1 : (decide (x' < x) && decide (y < y')) = true := by simpa using e
              rw [Bool.and_eq_true, decide_eq_true_eq, decide_eq_true_eq] at e1
              refine wVal (fun w b ⟨_, h, h2, _⟩ => withinY ⟨_, _, _, _, _, _, _, _, rfl, h⟩ ⟨_, _, _, _, _, _, _, _, rfl, h2⟩ (by decide) (by decide) (by grind) (by grind)) rfl ?_
              exact wRet fun w b _ => ⟨rfl, b⟩
          · refine wFalse rfl ?_
            refine wPr (prBEq hBool rfl rfl) rfl ?_
            refine wTrue rfl ?_
            refine wPr (prNot rfl) rfl ?_
            refine wTrue rfl ?_
            refine wMono (G := fun w => SpQ w va0 vb0 vc0 vd0 ve0 vf0 vg0 vh0 x y 21 ∧ SpQ w va1 vb1 vc1 vd1 ve1 vf1 vg1 vh1 x' y' 21 ∧ QB w vo2 vp2 vq2 vr2 q 21) ((mSp _ _ _ _ _ _ _ _ _ _ _).and ((mSp _ _ _ _ _ _ _ _ _ _ _).and (mQ _ _ _ _ _ _))) (fun w h => h) ?_
            refine wRat (fun w b ⟨h, _⟩ => mid5_any _ x y 21 w ⟨_, _, _, _, _, _, _, _, rfl, h⟩ (by decide)) (fun _ _ _ _ => ?_)
            refine wVal (fun w b ⟨hm, h, _⟩ => hasY ⟨_, _, _, _, _, _, _, _, rfl, h⟩ ⟨_, _, _, _, rfl, hm⟩ (by decide) (by decide) (by grind) (by grind)) rfl ?_
            refine wTrue rfl ?_
            refine wVal (fun w b ⟨_, h, h2, _⟩ => inside5_any _ _ x y x' y' 21 21 w ⟨_, _, _, _, _, _, _, _, rfl, h⟩ ⟨_, _, _, _, _, _, _, _, rfl, h2⟩ (by decide) (by decide)) rfl ?_
            refine wPr (prNot rfl) rfl ?_
            refine wIf _ rfl (fun e => ?_) (fun e => ?_)
            · exact wRet fun w b _ => ⟨rfl, b⟩
            · have e1 : (decide (x' < x) && decide (y < y')) = true := by simpa using e
              rw [Bool.and_eq_true, decide_eq_true_eq, decide_eq_true_eq] at e1
              refine wVal (fun w b ⟨_, h, h2, _⟩ => withinY ⟨_, _, _, _, _, _, _, _, rfl, h⟩ ⟨_, _, _, _, _, _, _, _, rfl, h2⟩ (by decide) (by decide) (by grind) (by grind)) rfl ?_
              exact wRet fun w b _ => ⟨rfl, b⟩
      · refine wKnown [.bool false, .slice none 0 0, .bool false, .slice none 0 0, .bool false, .slice none 0 0, .slice none 0 0, .bool false] (fun w _ _ => numN m w hm k2) rfl rfl ?_
        refine wPr (prNot rfl) rfl ?_
        refine wFalse rfl ?_
        refine wPr (prNot rfl) rfl ?_
        refine wFalse rfl ?_
        refine wPr (prNot rfl) rfl ?_
        refine wTrue rfl ?_
        refine wVal (fun w b _ => alive5_any w (hT.below b)) rfl ?_
        exact wRet fun w b _ => ⟨rfl, b⟩
    · refine wKnown ZeroO (fun w _ _ => ofN t z w ht hz k1) rfl rfl ?_
      by_cases k2 : NumQ m
      · refine wBoth (fun w _ _ => numY m w hm k2) rfl (fun vo2 vp2 vq2 vr2 vs2 vt2 vu2 => ?_)
        refine wPr (prNot rfl) rfl ?_
        refine wFalse rfl ?_
        refine wPr (prNot rfl) rfl ?_
        refine wTrue rfl ?_
        refine wVal (fun w b _ => alive5_any w (hT.below b)) rfl ?_
        exact wRet fun w b _ => ⟨rfl, b⟩
      · refine wKnown [.bool false, .slice none 0 0, .bool false, .slice none 0 0, .bool false, .slice none 0 0, .slice none 0 0, .bool false] (fun w _ _ => numN m w hm k2) rfl rfl ?_
        refine wPr (prNot rfl) rfl ?_
        refine wFalse rfl ?_
        refine wPr (prNot rfl) rfl ?_
        refine wTrue rfl ?_
        refine wVal (fun w b _ => alive5_any w (hT.below b)) rfl ?_
        exact wRet fun w b _ => ⟨rfl, b⟩
  · refine wKnown ZeroO (fun w _ _ => ofN s r w hs hr k0) rfl rfl ?_
    by_cases k1 : OfOk t z
    · refine wBothS (fun w _ _ => ofY t z w ht hz k1) rfl (fun va1 vb1 vc1 vd1 ve1 vf1 vg1 vh1 vi1 vj1 vk1 vl1 vm1 vn1 => ?_)
      by_cases k2 : NumQ m
      · refine wBoth (fun w _ _ => numY m w hm k2) rfl (fun vo2 vp2 vq2 vr2 vs2 vt2 vu2 => ?_)
        refine wPr (prNot rfl) rfl ?_
        refine wTrue rfl ?_
        refine wVal (fun w b _ => alive5_any w (hT.below b)) rfl ?_
        exact wRet fun w b _ => ⟨rfl, b⟩
      · refine wKnown [.bool false, .slice none 0 0, .bool false, .slice none 0 0, .bool false, .slice none 0 0, .slice none 0 0, .bool false] (fun w _ _ => numN m w hm k2) rfl rfl ?_
        refine wPr (prNot rfl) rfl ?_
        refine wTrue rfl ?_
        refine wVal (fun w b _ => alive5_any w (hT.below b)) rfl ?_
        exact wRet fun w b _ => ⟨rfl, b⟩
    · refine wKnown ZeroO (fun w _ _ => ofN t z w ht hz k1) rfl rfl ?_
      by_cases k2 : NumQ m
      · refine wBoth (fun w _ _ => numY m w hm k2) rfl (fun vo2 vp2 vq2 vr2 vs2 vt2 vu2 => ?_)
        refine wPr (prNot rfl) rfl ?_
        refine wTrue rfl ?_
        refine wVal (fun w b _ => alive5_any w (hT.below b)) rfl ?_
        exact wRet fun w b _ => ⟨rfl, b⟩
      · refine wKnown [.bool false, .slice none 0 0, .bool false, .slice none 0 0, .bool false, .slice none 0 0, .slice none 0 0, .bool false] (fun w _ _ => numN m w hm k2) rfl rfl ?_
        refine wPr (prNot rfl) rfl ?_
        refine wTrue rfl ?_
        refine wVal (fun w b _ => alive5_any w (hT.below b)) rfl ?_
        exact wRet fun w b _ => ⟨rfl, b⟩

end Go.Proofs.YtfohgkabmdhhaaaGreatDoor
