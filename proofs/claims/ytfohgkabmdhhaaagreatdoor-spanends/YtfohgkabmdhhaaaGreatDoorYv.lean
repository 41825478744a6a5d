/- The law SpanEnds. -/
import Derived.Test.YtfohgkabmdhhaaaGreatDoorYu
import Derived.ChangeSame
import Derived.ChangeMaps5
namespace Go.Proofs.YtfohgkabmdhhaaaGreatDoor
open Go.RowKit Cin
def D4 : TypeId → Bool := fun t => t == 146 || t == 31
theorem hU4 : D4 146 = true := rfl
theorem hP4 : D4 31 = true := rfl
theorem dd4 (t : TypeId) (h : DD t = true) : D4 t = true := by unfold DD at h; unfold D4; rw [h]; rfl
theorem go4 {f : FuncId} {tr : Tr} {args : List Value} {w : World} {Post : Ending → World → Prop} (F : World → Prop) (E : Env) (sh : List (Option Nat)) (hr : rowOf Tryz.prog D4 f = some tr)
    (hq : (eqsOf Tryz.prog D4 f).map (·.1) = (eqsOf Tryz.prog D4 f).map (·.2)) (hsh : ((Tryz.prog.funcs[f]?).map fun fn => fn.params.toList.mapM (shapeOf Tryz.prog)) = some (some sh))
    (hF : Mono D4 F) (h0 : F w) (hpl : AllPl E) (hk : Wk Tryz.prog w D4 DD Post (fun _ _ _ => False) F tr E) (hE : E.length = sh.length := by rfl) (hargs : args = sh.zipIdx.map (fun (s, i) => (v1of i 0 s).den [] E) := by rfl) : Calls Tryz.prog f args.toArray w Post :=
  rx dd4 hMix hr hq sh hsh hE hargs (allPl hpl) _ (hk hF w h0)
theorem info_rp : (Tryz.prog.info? 31).map (fun i => (i.zero, i.size)) = some (some (.agg #[.bool false, .slice none 0 0, .bool false, .slice none 0 0]), 4) := by kernel_rfl
theorem rp_info : ∃ ie, Tryz.prog.info? 31 = some ie ∧ ie.zero = some (.agg #[.bool false, .slice none 0 0, .bool false, .slice none 0 0]) ∧ ie.size = 4 := by
  have h := info_rp
  cases hi : Tryz.prog.info? 31 with
  | none => rw [hi] at h; cases h
  | some ie =>
    rw [hi] at h
    simp only [Option.map_some, Option.some.injEq, Prod.mk.injEq] at h
    exact ⟨ie, rfl, h⟩
theorem hSlP : Tryz.prog.underlying 86 = some (.slice 31) := by kernel_rfl
theorem hRowP : (Tryz.prog.underlying 31).map TypeDesc.isRow = some true := by kernel_rfl
theorem rp_row : ∃ d, Tryz.prog.underlying 31 = some d ∧ d.isRow = true := by
  have h := hRowP
  cases hd : Tryz.prog.underlying 31 with
  | none => rw [hd] at h; cases h
  | some d => rw [hd] at h; exact ⟨d, rfl, by simpa using h⟩
def anyQ (m : Rat) (l : List Rat) : Bool := l.any fun z => decide (m = z)
def EndsI (L : List Rat) (p q : Rat) (k : Nat) (lo hi : Bool) : Prop := lo = anyQ p (L.take k) ∧ hi = anyQ q (L.take k)
def EMu : List Value → Nat
  | [_, _, .int _ i] => 2 - i.toNat
  | _ => 0
theorem EndsI.nil (L : List Rat) (p q : Rat) : EndsI L p q (2 * 0) false false := ⟨by simp [anyQ], by simp [anyQ]⟩
theorem anyQ_step {m z : Rat} {L : List Rat} {k : Nat} (h : L[k]? = some z) : anyQ m (L.take (k + 1)) = (anyQ m (L.take k) || decide (m = z)) := by
  unfold anyQ
  rw [List.take_add_one, h, List.any_append]
  simp
theorem ends_next {L : List Rat} {p q z : Rat} {k : Nat} {lo hi : Bool} (h : EndsI L p q k lo hi) (hz : L[k]? = some z) : EndsI L p q (k + 1) (lo || decide (p = z)) (hi || decide (q = z)) :=
  ⟨by rw [anyQ_step hz, h.1], by rw [anyQ_step hz, h.2]⟩
theorem four_at {x y x' y' zx zy : Rat} {i j : Nat} (hi : i < 2) (hj : j < 2) (h1 : [x, y][i]? = some zx) (h2 : [x', y'][j]? = some zy) : [x * x', x * y', y * x', y * y'][2 * i + j]? = some (zx * zy) := by
  have ci : i = 0 ∨ i = 1 := by omega
  have cj : j = 0 ∨ j = 1 := by omega
  rcases ci with rfl | rfl <;> rcases cj with rfl | rfl <;> (simp at h1 h2; subst h1 h2; rfl)
theorem ends_all (x y x' y' : Rat) {lo hi : Bool} (h : EndsI [x * x', x * y', y * x', y * y'] (mLo x y x' y') (mHi x y x' y') (2 * 2) lo hi) : lo = true ∧ hi = true := by
  have o1 := mn4_or (x * x') (x * y') (y * x') (y * y')
  have o2 := mx4_or (x * x') (x * y') (y * x') (y * y')
  obtain ⟨h1, h2⟩ := h
  refine ⟨h1.trans ?_, h2.trans ?_⟩
  · show anyQ (mn4 _ _ _ _) _ = true
    unfold anyQ
    rcases o1 with o | o | o | o <;> simp [o]
  · show anyQ (mx4 _ _ _ _) _ = true
    unfold anyQ
    rcases o2 with o | o | o | o <;> simp [o]
theorem el_of {w : World} {a b c d a' b' c' d' : Value} {x y : Rat} {k i : Nat} (h : SpQ w a b c d a' b' c' d' x y k) (hi : i < 2) :
    ∃ z c1 c2 c3 c4, [[a, b, c, d], [a', b', c', d']][i]? = some [c1, c2, c3, c4] ∧ [x, y][i]? = some z ∧ ([c1, c2, c3, c4].all Value.oneCell' = true) ∧ ∀ w1, SpQ w1 a b c d a' b' c' d' x y k → QB w1 c1 c2 c3 c4 z k := by
  have ci : i = 0 ∨ i = 1 := by omega
  rcases ci with rfl | rfl
  · exact ⟨x, a, b, c, d, rfl, rfl, qpl h.1, fun _ h => h.1⟩
  · exact ⟨y, a', b', c', d', rfl, rfl, qpl h.2, fun _ h => h.2⟩
theorem sgT_ge_of {q : Rat} (h : 0 ≤ q) : decide (0 ≤ sgnZ q.num) = true := by
  rcases hb : decide (0 ≤ sgnZ q.num) with _ | _
  · have := sgF_ge hb
    grind
  · rfl
theorem hi_or {x y : Rat} {N : Nat} (e : (cmpQ (pHi x y N) (y ^ N) == 0) = false) : pHi x y N = x ^ N := by
  rw [v_eq] at e
  have e' : ¬ pHi x y N = y ^ N := by simpa using e
  have := mx_or (x ^ N) (y ^ N)
  unfold pHi at e' ⊢
  grind
theorem wi_odd {z : Int} (h1 : 1 ≤ z) (e : ((z.tmod 2) == 1) = false) (h5 : z ≤ 5 := by omega) : cut255 z % 2 = 0 := by
  have hz : cut255 z = z.toNat := by unfold cut255; (repeat' split) <;> omega
  have e2 := odd_eq z.toNat
  rw [show ((z.toNat : Nat) : Int) = z by omega] at e2
  rw [e2] at e
  rw [hz]
  have : ¬ z.toNat % 2 = 1 := by simpa using e
  omega
theorem pow_low (x y : Rat) {N : Nat} (h : N % 2 = 0) : 0 ≤ pLo x y N := by
  unfold pLo
  split
  · exact Rat.le_refl
  · have := mn_or (x ^ N) (y ^ N)
    have h1 := pow_ev0 (x := x) h
    have h2 := pow_ev0 (x := y) h
    grind
set_option maxHeartbeats 8000000 in
theorem spanEnds_any (s r t z : ByteArray) (n : Int) (w : World) (hT : Tabs w) (hs : s.size ≤ 9223372036854775807) (hr : r.size ≤ 9223372036854775807) (ht : t.size ≤ 9223372036854775807) (hz : z.size ≤ 9223372036854775807) :
    Calls Tryz.prog 9 #[.agg #[.string s, .string r], .agg #[.string t, .string z], .int .i64 n] w fun e w' => e = .returned (.bool true) ∧ Below w.heap.size w w' := by
  obtain ⟨ie, hie, hzr, hsz⟩ := rp_info
  obtain ⟨dd, hd1, hdr⟩ := rp_row
  refine go4 (fun _ => True) [[.string s, .string r], [.string t, .string z], [.int .i64 n]] [some 2, some 2, none] (tr := (.em (.call 22 [.g [.c 0 0, .c 0 1]] [some 8, some 6, none]) (.em (.call 22 [.g [.c 1 0, .c 1 1]] [some 8, some 6, none]) (.em (.pr (.unOp .not 4 (.tmp 0)) 4 [.s (.c 3 14)]) (.cond (.c 5 0) (.em (.call 12 [] [none]) (.ret (.v (.s (.c 6 0))))) (.em (.pr (.unOp .not 4 (.tmp 0)) 4 [.s (.c 4 14)]) (.cond (.c 6 0) (.em (.call 12 [] [none]) (.ret (.v (.s (.c 7 0))))) (.em (.call 12 [] [none]) (.em (.pr (.unOp .not 4 (.tmp 0)) 4 [.s (.c 7 0)]) (.cond (.c 8 0) (.em (.call 12 [] [none]) (.ret (.v (.s (.c 9 0))))) (.em (.call 32 [.s (.c 2 0), .s (.k (.int .i64 1)), .s (.k (.int .i64 5))] [none]) (.em (.call 28 [.g [.c 3 0, .c 3 1, .c 3 2, .c 3 3, .c 3 4, .c 3 5, .c 3 6, .c 3 7], .g [.c 4 0, .c 4 1, .c 4 2, .c 4 3, .c 4 4, .c 4 5, .c 4 6, .c 4 7]] [some 8]) (.em (.call 33 [.g [.c 3 0, .c 3 1, .c 3 2, .c 3 3, .c 3 4, .c 3 5, .c 3 6, .c 3 7], .s (.c 9 0)] [some 8]) (.em (.wx (.buildSlice 86 2 #[(0, .tmp 0), (1, .tmp 1)]) 86 [.g [.c 3 0, .c 3 1, .c 3 2, .c 3 3], .g [.c 3 4, .c 3 5, .c 3 6, .c 3 7]] (some none)) (.em (.pr (.call (.mk (.builtin .len) #[.tmp 0] #[86])) 3 [.s (.c 12 0)]) (.loop 0 [.k (.bool false), .k (.bool false), .k (.int .i64 0)] (.em (.pr (.binOp .lss 3 (.tmp 0) (.tmp 1) 3) 0 [.s (.c 14 2), .s (.c 13 0)]) (.cond (.c 15 0) (.em (.pr (.indexAddr 86 (.tmp 0) (.tmp 1)) 0 [.s (.c 12 0), .s (.c 14 2)]) (.em (.ld (.load 31 (.tmp 0)) 31 [.s (.c 16 0)] (some 4)) (.em (.wx (.alloc 31) 0 [] (some none)) (.em (.wx (.store 31 (.tmp 0) (.tmp 1)) 0 [.s (.c 18 0), .g [.c 17 0, .c 17 1, .c 17 2, .c 17 3]] none) (.em (.wx (.buildSlice 86 2 #[(0, .tmp 0), (1, .tmp 1)]) 86 [.g [.c 4 0, .c 4 1, .c 4 2, .c 4 3], .g [.c 4 4, .c 4 5, .c 4 6, .c 4 7]] (some none)) (.em (.pr (.call (.mk (.builtin .len) #[.tmp 0] #[86])) 3 [.s (.c 20 0)]) (.loop 1 [.c 14 0, .c 14 1, .k (.int .i64 0)] (.em (.pr (.binOp .lss 3 (.tmp 0) (.tmp 1) 3) 0 [.s (.c 22 2), .s (.c 21 0)]) (.cond (.c 23 0) (.em (.pr (.indexAddr 86 (.tmp 0) (.tmp 1)) 0 [.s (.c 20 0), .s (.c 22 2)]) (.em (.ld (.load 31 (.tmp 0)) 31 [.s (.c 24 0)] (some 4)) (.em (.wx (.alloc 31) 0 [] (some none)) (.em (.wx (.store 31 (.tmp 0) (.tmp 1)) 0 [.s (.c 26 0), .g [.c 25 0, .c 25 1, .c 25 2, .c 25 3]] none) (.cond (.c 22 0) (.cond (.c 22 1) (.em (.pr (.binOp .add 3 (.tmp 0) (.const (.int .i64 1)) 3) 3 [.s (.c 22 2), .s (.k (.int .i64 1))]) (.back 1 [.k (.bool true), .k (.bool true), .c 28 0])) (.em (.ld (.load 31 (.tmp 0)) 31 [.s (.c 18 0)] (some 4)) (.em (.ld (.load 31 (.tmp 0)) 31 [.s (.c 26 0)] (some 4)) (.em (.call 58 [.g [.c 28 0, .c 28 1, .c 28 2, .c 28 3], .g [.c 29 0, .c 29 1, .c 29 2, .c 29 3]] [some 4]) (.em (.call 60 [.g [.c 10 4, .c 10 5, .c 10 6, .c 10 7], .g [.c 30 0, .c 30 1, .c 30 2, .c 30 3]] [none]) (.em (.pr (.binOp .eql 3 (.tmp 0) (.const (.int .i64 0)) 3) 4 [.s (.c 31 0), .s (.k (.int .i64 0))]) (.em (.pr (.binOp .add 3 (.tmp 0) (.const (.int .i64 1)) 3) 3 [.s (.c 22 2), .s (.k (.int .i64 1))]) (.back 1 [.k (.bool true), .c 32 0, .c 33 0])))))))) (.em (.ld (.load 31 (.tmp 0)) 31 [.s (.c 18 0)] (some 4)) (.em (.ld (.load 31 (.tmp 0)) 31 [.s (.c 26 0)] (some 4)) (.em (.call 58 [.g [.c 28 0, .c 28 1, .c 28 2, .c 28 3], .g [.c 29 0, .c 29 1, .c 29 2, .c 29 3]] [some 4]) (.em (.call 60 [.g [.c 10 0, .c 10 1, .c 10 2, .c 10 3], .g [.c 30 0, .c 30 1, .c 30 2, .c 30 3]] [none]) (.em (.pr (.binOp .eql 3 (.tmp 0) (.const (.int .i64 0)) 3) 4 [.s (.c 31 0), .s (.k (.int .i64 0))]) (.cond (.c 22 1) (.em (.pr (.binOp .add 3 (.tmp 0) (.const (.int .i64 1)) 3) 3 [.s (.c 22 2), .s (.k (.int .i64 1))]) (.back 1 [.c 32 0, .k (.bool true), .c 33 0])) (.em (.ld (.load 31 (.tmp 0)) 31 [.s (.c 18 0)] (some 4)) (.em (.ld (.load 31 (.tmp 0)) 31 [.s (.c 26 0)] (some 4)) (.em (.call 58 [.g [.c 33 0, .c 33 1, .c 33 2, .c 33 3], .g [.c 34 0, .c 34 1, .c 34 2, .c 34 3]] [some 4]) (.em (.call 60 [.g [.c 10 4, .c 10 5, .c 10 6, .c 10 7], .g [.c 35 0, .c 35 1, .c 35 2, .c 35 3]] [none]) (.em (.pr (.binOp .eql 3 (.tmp 0) (.const (.int .i64 0)) 3) 4 [.s (.c 36 0), .s (.k (.int .i64 0))]) (.em (.pr (.binOp .add 3 (.tmp 0) (.const (.int .i64 1)) 3) 3 [.s (.c 22 2), .s (.k (.int .i64 1))]) (.back 1 [.c 32 0, .c 37 0, .c 38 0])))))))))))))))))) (.em (.pr (.binOp .add 3 (.tmp 0) (.const (.int .i64 1)) 3) 3 [.s (.c 14 2), .s (.k (.int .i64 1))]) (.back 0 [.c 22 0, .c 22 1, .c 24 0]))))))))))) (.em (.call 59 [.g [.c 3 4, .c 3 5, .c 3 6, .c 3 7], .s (.c 9 0)] [some 4]) (.em (.call 60 [.g [.c 11 4, .c 11 5, .c 11 6, .c 11 7], .g [.c 16 0, .c 16 1, .c 16 2, .c 16 3]] [none]) (.em (.pr (.binOp .eql 3 (.tmp 0) (.const (.int .i64 0)) 3) 4 [.s (.c 17 0), .s (.k (.int .i64 0))]) (.cond (.c 18 0) (.cond (.c 14 0) (.cond (.c 14 1) (.em (.pr (.binOp .rem 3 (.tmp 0) (.const (.int .i64 2)) 3) 3 [.s (.c 9 0), .s (.k (.int .i64 2))]) (.em (.pr (.binOp .eql 3 (.tmp 0) (.const (.int .i64 1)) 3) 4 [.s (.c 19 0), .s (.k (.int .i64 1))]) (.cond (.c 20 0) (.ret (.v (.s (.k (.bool true))))) (.em (.call 61 [.g [.c 11 0, .c 11 1, .c 11 2, .c 11 3]] [none]) (.em (.pr (.binOp .geq 3 (.tmp 0) (.const (.int .i64 0)) 3) 4 [.s (.c 21 0), .s (.k (.int .i64 0))]) (.ret (.v (.s (.c 22 0))))))))) (.ret (.v (.s (.k (.bool false)))))) (.ret (.v (.s (.k (.bool false)))))) (.em (.call 59 [.g [.c 3 0, .c 3 1, .c 3 2, .c 3 3], .s (.c 9 0)] [some 4]) (.em (.call 60 [.g [.c 11 4, .c 11 5, .c 11 6, .c 11 7], .g [.c 19 0, .c 19 1, .c 19 2, .c 19 3]] [none]) (.em (.pr (.binOp .eql 3 (.tmp 0) (.const (.int .i64 0)) 3) 4 [.s (.c 20 0), .s (.k (.int .i64 0))]) (.cond (.c 14 0) (.cond (.c 14 1) (.cond (.c 21 0) (.em (.pr (.binOp .rem 3 (.tmp 0) (.const (.int .i64 2)) 3) 3 [.s (.c 9 0), .s (.k (.int .i64 2))]) (.em (.pr (.binOp .eql 3 (.tmp 0) (.const (.int .i64 1)) 3) 4 [.s (.c 22 0), .s (.k (.int .i64 1))]) (.cond (.c 23 0) (.ret (.v (.s (.k (.bool true))))) (.em (.call 61 [.g [.c 11 0, .c 11 1, .c 11 2, .c 11 3]] [none]) (.em (.pr (.binOp .geq 3 (.tmp 0) (.const (.int .i64 0)) 3) 4 [.s (.c 24 0), .s (.k (.int .i64 0))]) (.ret (.v (.s (.c 25 0))))))))) (.ret (.v (.s (.k (.bool false)))))) (.ret (.v (.s (.k (.bool false)))))) (.ret (.v (.s (.k (.bool false))))))))))))))))))))))))))))))) (by kernel_rfl) (by kernel_rfl) (by kernel_rfl) Mono.true trivial ⟨rfl, rfl, rfl, trivial⟩ ?_
  by_cases k0 : OfOk s r
  · refine wBothS (fun w _ _ => ofY s r w hs hr k0) rfl (fun va0 vb0 vc0 vd0 ve0 vf0 vg0 vh0 vi0 vj0 vk0 vl0 vm0 vn0 => ?_)
    by_cases k1 : OfOk t z
    · refine wBothS (fun w _ _ => ofY t z w ht hz k1) rfl (fun va1 vb1 vc1 vd1 ve1 vf1 vg1 vh1 vi1 vj1 vk1 vl1 vm1 vn1 => ?_)
      refine wPr (prNot rfl) rfl ?_
      refine wFalse rfl ?_
      refine wPr (prNot rfl) rfl ?_
      refine wFalse rfl ?_
      have l0 : ratVal s ≤ ratVal r := k0.1.2.2
      generalize ratVal s = x at l0 ⊢
      generalize ratVal r = y at l0 ⊢
      have l1 : ratVal t ≤ ratVal z := k1.1.2.2
      generalize ratVal t = x' at l1 ⊢
      generalize ratVal z = y' at l1 ⊢
      refine wMono (G := fun w1 => SpQ w1 va0 vb0 vc0 vd0 ve0 vf0 vg0 vh0 x y 21 ∧ SpQ w1 va1 vb1 vc1 vd1 ve1 vf1 vg1 vh1 x' y' 21) ((mSp _ _ _ _ _ _ _ _ _ _ _ hU4).and (mSp _ _ _ _ _ _ _ _ _ _ _ hU4)) (fun w1 ⟨p1, _, p0, _⟩ => ⟨p0, p1⟩) ?_
      refine wVal (fun w b _ => alive5_any w (hT.below b)) rfl ?_
      refine wPr (prNot rfl) rfl ?_
      refine wFalse rfl ?_
      refine wVal (fun w b _ => wi_any n 1 5 w (by decide) (by decide) (by decide)) rfl ?_
      have wl := wi_lim n (lo := 1) (hi := 5) (by decide)
      refine wSp (fun w b ⟨p0, p1⟩ => smul_any _ _ x y x' y' 21 21 w ⟨_, _, _, _, _, _, _, _, rfl, p0⟩ ⟨_, _, _, _, _, _, _, _, rfl, p1⟩ (by decide) (by decide) l0 l1) (fun ma mb mc md me mf mg mh => ?_)
      refine wSp (fun w b ⟨_, p0, p1⟩ => spow_any _ x y (wi n 1 5) 21 w ⟨_, _, _, _, _, _, _, _, rfl, p0⟩ (by decide) (by decide) l0) (fun wa wb wc wd we wf wg wh => ?_)
      refine wBuild [[va0, vb0, vc0, vd0], [ve0, vf0, vg0, vh0]] hSlP hie hzr hsz hP4 (by kernel_rfl) rfl (by simp) (by omega) (by omega) (by decide) (fun g1 => ?_)
      refine wPr (prLen hSlP rfl) rfl ?_
      refine wLoopY (fun cs w1 => ∃ (i : Nat) (lo hi : Bool), cs = [.bool lo, .bool hi, .int .i64 i] ∧ i ≤ 2 ∧ EndsI [x * x', x * y', y * x', y * y'] (mLo x y x' y') (mHi x y x' y') (2 * i) lo hi ∧ RowO w.heap.size 31 4 w1 (.slice (some ⟨g1, 0, none⟩) 2 2) [[va0, vb0, vc0, vd0], [ve0, vf0, vg0, vh0]]) (fun w1 => SpQ w1 wa wb wc wd we wf wg wh (pLo x y (cut255 (wi n 1 5))) (pHi x y (cut255 (wi n 1 5))) (21 * 255 + 1) ∧ SpQ w1 ma mb mc md me mf mg mh (mLo x y x' y') (mHi x y x' y') (21 + 21) ∧ SpQ w1 va0 vb0 vc0 vd0 ve0 vf0 vg0 vh0 x y 21 ∧ SpQ w1 va1 vb1 vc1 vd1 ve1 vf1 vg1 vh1 x' y' 21) (fun cs u1 w1 e ⟨i, lo, hi, h1, h2, h3, h4⟩ => ⟨i, lo, hi, h1, h2, h3, h4.ext e hP4⟩) ((mSp _ _ _ _ _ _ _ _ _ _ _ hU).and ((mSp _ _ _ _ _ _ _ _ _ _ _ hU).and ((mSp _ _ _ _ _ _ _ _ _ _ _ hU).and (mSp _ _ _ _ _ _ _ _ _ _ _ hU)))) ((mSp _ _ _ _ _ _ _ _ _ _ _ hU4).and ((mSp _ _ _ _ _ _ _ _ _ _ _ hU4).and ((mSp _ _ _ _ _ _ _ _ _ _ _ hU4).and (mSp _ _ _ _ _ _ _ _ _ _ _ hU4)))) EMu (fun w1 h => ⟨⟨0, false, false, rfl, by omega, EndsI.nil _ _ _, h.1⟩, h.2⟩) (fun cs _ => ?_)
      refine wEx fun u ⟨⟨i, lo, hi, he, hi2, hE, hr⟩, hf⟩ => ⟨fun w1 => RowO w.heap.size 31 4 w1 (.slice (some ⟨g1, 0, none⟩) 2 2) [[va0, vb0, vc0, vd0], [ve0, vf0, vg0, vh0]] ∧ SpQ w1 wa wb wc wd we wf wg wh (pLo x y (cut255 (wi n 1 5))) (pHi x y (cut255 (wi n 1 5))) (21 * 255 + 1) ∧ SpQ w1 ma mb mc md me mf mg mh (mLo x y x' y') (mHi x y x' y') (21 + 21) ∧ SpQ w1 va0 vb0 vc0 vd0 ve0 vf0 vg0 vh0 x y 21 ∧ SpQ w1 va1 vb1 vc1 vd1 ve1 vf1 vg1 vh1 x' y' 21, (monoRow hP4 _ _ _ _).and ((mSp _ _ _ _ _ _ _ _ _ _ _ hU4).and ((mSp _ _ _ _ _ _ _ _ _ _ _ hU4).and ((mSp _ _ _ _ _ _ _ _ _ _ _ hU4).and (mSp _ _ _ _ _ _ _ _ _ _ _ hU4)))), ⟨hr, hf⟩, ?_⟩
      have hel : i < 2 → ∃ z c1 c2 c3 c4, [[va0, vb0, vc0, vd0], [ve0, vf0, vg0, vh0]][i]? = some [c1, c2, c3, c4] ∧ [x, y][i]? = some z ∧ ([c1, c2, c3, c4].all Value.oneCell' = true) ∧ ∀ w1, SpQ w1 va0 vb0 vc0 vd0 ve0 vf0 vg0 vh0 x y 21 → QB w1 c1 c2 c3 c4 z 21 := el_of hf.2.2.1
      have hem : ∀ j, j < 2 → ∃ z c1 c2 c3 c4, [[va1, vb1, vc1, vd1], [ve1, vf1, vg1, vh1]][j]? = some [c1, c2, c3, c4] ∧ [x', y'][j]? = some z ∧ ([c1, c2, c3, c4].all Value.oneCell' = true) ∧ ∀ w1, SpQ w1 va1 vb1 vc1 vd1 ve1 vf1 vg1 vh1 x' y' 21 → QB w1 c1 c2 c3 c4 z 21 := fun j hj => el_of hf.2.2.2 hj
      subst he
      clear hr hf
      refine wPr (prLt rfl rfl) rfl ?_
      refine wIf _ rfl (fun e => ?_) (fun e => ?_)
      · skip
        have hi3 : i < 2 := by have : (i : Int) < 2 := (by simpa using e); omega
        obtain ⟨zx, c1, c2, c3, c4, hrx, hzx, hpx, hqx⟩ := hel hi3
        refine wPr (prIdxA hSlP hie hsz rfl rfl (by omega) (by omega)) rfl ?_
        refine wLd [c1, c2, c3, c4] hpx (fun w b h => ldRow rfl (h.1.at hrx) hd1 hdr (by rw [hie, Option.map_some, hsz]; rfl)) ?_
        refine wAllocD [.bool false, .slice none 0 0, .bool false, .slice none 0 0] (fun g => g1 ≠ g) (fun w h => Nat.ne_of_lt h.1.lt) hie hzr hP4 (fun gx hgx => ?_)
        refine wStoreD (cs := [.bool false, .slice none 0 0, .bool false, .slice none 0 0]) (cs' := [c1, c2, c3, c4]) (fun w1 => RowO w.heap.size 31 4 w1 (.slice (some ⟨g1, 0, none⟩) 2 2) [[va0, vb0, vc0, vd0], [ve0, vf0, vg0, vh0]] ∧ SpQ w1 wa wb wc wd we wf wg wh (pLo x y (cut255 (wi n 1 5))) (pHi x y (cut255 (wi n 1 5))) (21 * 255 + 1) ∧ SpQ w1 ma mb mc md me mf mg mh (mLo x y x' y') (mHi x y x' y') (21 + 21) ∧ SpQ w1 va0 vb0 vc0 vd0 ve0 vf0 vg0 vh0 x y 21 ∧ SpQ w1 va1 vb1 vc1 vd1 ve1 vf1 vg1 vh1 x' y' 21) ((Keeps.row hgx).and (Keeps.mono (Z := DD) ((mSp _ _ _ _ _ _ _ _ _ _ _ hU).and ((mSp _ _ _ _ _ _ _ _ _ _ _ hU).and ((mSp _ _ _ _ _ _ _ _ _ _ _ hU).and (mSp _ _ _ _ _ _ _ _ _ _ _ hU)))) rfl)) ((monoRow hP4 _ _ _ _).and ((mSp _ _ _ _ _ _ _ _ _ _ _ hU4).and ((mSp _ _ _ _ _ _ _ _ _ _ _ hU4).and ((mSp _ _ _ _ _ _ _ _ _ _ _ hU4).and (mSp _ _ _ _ _ _ _ _ _ _ _ hU4))))) hP4 rfl (by rw [hie, Option.map_some, hsz]; rfl) rfl hpx rfl rfl (fun w h => h) ?_
        refine wBuild [[va1, vb1, vc1, vd1], [ve1, vf1, vg1, vh1]] hSlP hie hzr hsz hP4 (by kernel_rfl) rfl (by simp) (by omega) (by omega) (by decide) (fun g2 => ?_)
        refine wPr (prLen hSlP rfl) rfl ?_
        refine wLoopY (fun cs w1 => ∃ (j : Nat) (lo hi : Bool), cs = [.bool lo, .bool hi, .int .i64 j] ∧ j ≤ 2 ∧ EndsI [x * x', x * y', y * x', y * y'] (mLo x y x' y') (mHi x y x' y') (2 * i + j) lo hi ∧ RowO w.heap.size 31 4 w1 (.slice (some ⟨g2, 0, none⟩) 2 2) [[va1, vb1, vc1, vd1], [ve1, vf1, vg1, vh1]] ∧ VarV w.heap.size 31 w1 gx [c1, c2, c3, c4] ∧ RowO w.heap.size 31 4 w1 (.slice (some ⟨g1, 0, none⟩) 2 2) [[va0, vb0, vc0, vd0], [ve0, vf0, vg0, vh0]]) (fun w1 => SpQ w1 wa wb wc wd we wf wg wh (pLo x y (cut255 (wi n 1 5))) (pHi x y (cut255 (wi n 1 5))) (21 * 255 + 1) ∧ SpQ w1 ma mb mc md me mf mg mh (mLo x y x' y') (mHi x y x' y') (21 + 21) ∧ SpQ w1 va0 vb0 vc0 vd0 ve0 vf0 vg0 vh0 x y 21 ∧ SpQ w1 va1 vb1 vc1 vd1 ve1 vf1 vg1 vh1 x' y' 21) (fun cs u1 w1 e ⟨i, lo, hi, h1, h2, h3, h4, h5, h6⟩ => ⟨i, lo, hi, h1, h2, h3, h4.ext e hP4, monoVar hP4 _ _ _ u1 w1 e h5, h6.ext e hP4⟩) ((mSp _ _ _ _ _ _ _ _ _ _ _ hU).and ((mSp _ _ _ _ _ _ _ _ _ _ _ hU).and ((mSp _ _ _ _ _ _ _ _ _ _ _ hU).and (mSp _ _ _ _ _ _ _ _ _ _ _ hU)))) ((mSp _ _ _ _ _ _ _ _ _ _ _ hU4).and ((mSp _ _ _ _ _ _ _ _ _ _ _ hU4).and ((mSp _ _ _ _ _ _ _ _ _ _ _ hU4).and (mSp _ _ _ _ _ _ _ _ _ _ _ hU4)))) EMu (fun w1 h => ⟨⟨0, lo, hi, rfl, by omega, hE, h.1, h.2.1, h.2.2.1⟩, h.2.2.2⟩) (fun cs _ => ?_)
        refine wEx fun u ⟨⟨j, lo', hi', he, hj2, hE', hr2, hv, hr1⟩, hf⟩ => ⟨fun w1 => RowO w.heap.size 31 4 w1 (.slice (some ⟨g2, 0, none⟩) 2 2) [[va1, vb1, vc1, vd1], [ve1, vf1, vg1, vh1]] ∧ VarV w.heap.size 31 w1 gx [c1, c2, c3, c4] ∧ RowO w.heap.size 31 4 w1 (.slice (some ⟨g1, 0, none⟩) 2 2) [[va0, vb0, vc0, vd0], [ve0, vf0, vg0, vh0]] ∧ SpQ w1 wa wb wc wd we wf wg wh (pLo x y (cut255 (wi n 1 5))) (pHi x y (cut255 (wi n 1 5))) (21 * 255 + 1) ∧ SpQ w1 ma mb mc md me mf mg mh (mLo x y x' y') (mHi x y x' y') (21 + 21) ∧ SpQ w1 va0 vb0 vc0 vd0 ve0 vf0 vg0 vh0 x y 21 ∧ SpQ w1 va1 vb1 vc1 vd1 ve1 vf1 vg1 vh1 x' y' 21, (monoRow hP4 _ _ _ _).and ((monoVar hP4 _ _ _).and ((monoRow hP4 _ _ _ _).and ((mSp _ _ _ _ _ _ _ _ _ _ _ hU4).and ((mSp _ _ _ _ _ _ _ _ _ _ _ hU4).and ((mSp _ _ _ _ _ _ _ _ _ _ _ hU4).and (mSp _ _ _ _ _ _ _ _ _ _ _ hU4)))))), ⟨hr2, hv, hr1, hf⟩, ?_⟩
        subst he
        clear hr2 hv hr1 hf
        refine wPr (prLt rfl rfl) rfl ?_
        refine wIf _ rfl (fun e2 => ?_) (fun e2 => ?_)
        · skip
          have hj3 : j < 2 := by have : (j : Int) < 2 := (by simpa using e2); omega
          obtain ⟨zy, d1, d2, d3, d4, hry, hzy, hpy, hqy⟩ := hem j hj3
          have hLz : [x * x', x * y', y * x', y * y'][2 * i + j]? = some (zx * zy) := four_at hi3 hj3 hzx hzy
          have hN := ends_next hE' hLz
          rw [← v_eq, ← v_eq] at hN
          refine wPr (prIdxA hSlP hie hsz rfl rfl (by omega) (by omega)) rfl ?_
          refine wLd [d1, d2, d3, d4] hpy (fun w b h => ldRow rfl (h.1.at hry) hd1 hdr (by rw [hie, Option.map_some, hsz]; rfl)) ?_
          refine wAllocD [.bool false, .slice none 0 0, .bool false, .slice none 0 0] (fun g => g2 ≠ g ∧ gx ≠ g ∧ g1 ≠ g) (fun w h => ⟨Nat.ne_of_lt h.1.lt, Nat.ne_of_lt h.2.1.lt, Nat.ne_of_lt h.2.2.1.lt⟩) hie hzr hP4 (fun gy hgy => ?_)
          refine wStoreD (cs := [.bool false, .slice none 0 0, .bool false, .slice none 0 0]) (cs' := [d1, d2, d3, d4]) (fun w1 => RowO w.heap.size 31 4 w1 (.slice (some ⟨g2, 0, none⟩) 2 2) [[va1, vb1, vc1, vd1], [ve1, vf1, vg1, vh1]] ∧ VarV w.heap.size 31 w1 gx [c1, c2, c3, c4] ∧ RowO w.heap.size 31 4 w1 (.slice (some ⟨g1, 0, none⟩) 2 2) [[va0, vb0, vc0, vd0], [ve0, vf0, vg0, vh0]] ∧ SpQ w1 wa wb wc wd we wf wg wh (pLo x y (cut255 (wi n 1 5))) (pHi x y (cut255 (wi n 1 5))) (21 * 255 + 1) ∧ SpQ w1 ma mb mc md me mf mg mh (mLo x y x' y') (mHi x y x' y') (21 + 21) ∧ SpQ w1 va0 vb0 vc0 vd0 ve0 vf0 vg0 vh0 x y 21 ∧ SpQ w1 va1 vb1 vc1 vd1 ve1 vf1 vg1 vh1 x' y' 21) ((Keeps.row hgy.1).and ((Keeps.var hgy.2.1).and ((Keeps.row hgy.2.2).and (Keeps.mono (Z := DD) ((mSp _ _ _ _ _ _ _ _ _ _ _ hU).and ((mSp _ _ _ _ _ _ _ _ _ _ _ hU).and ((mSp _ _ _ _ _ _ _ _ _ _ _ hU).and (mSp _ _ _ _ _ _ _ _ _ _ _ hU)))) rfl)))) ((monoRow hP4 _ _ _ _).and ((monoVar hP4 _ _ _).and ((monoRow hP4 _ _ _ _).and ((mSp _ _ _ _ _ _ _ _ _ _ _ hU4).and ((mSp _ _ _ _ _ _ _ _ _ _ _ hU4).and ((mSp _ _ _ _ _ _ _ _ _ _ _ hU4).and (mSp _ _ _ _ _ _ _ _ _ _ _ hU4))))))) hP4 rfl (by rw [hie, Option.map_some, hsz]; rfl) rfl hpy rfl rfl (fun w h => h) ?_
          refine wIf lo' rfl (fun e3 => ?_) (fun e3 => ?_)
          · subst e3
            refine wIf hi' rfl (fun e4 => ?_) (fun e4 => ?_)
            · subst e4
              refine wPr (prAdd rfl rfl) rfl ?_
              rw [wrap_small (by omega) (by omega)]
              refine wBack fun w h => ⟨⟨j + 1, _, _, rfl, by omega, hN, h.2.1, h.2.2.1, h.2.2.2.1⟩, ?_⟩
              · show 2 - ((j : Int) + 1).toNat < 2 - (j : Int).toNat
                omega
            · subst e4
              refine wLd [c1, c2, c3, c4] hpx (fun w b h => ldRow rfl h.2.2.1.range hd1 hdr (by rw [hie, Option.map_some, hsz]; rfl)) ?_
              refine wLd [d1, d2, d3, d4] hpy (fun w b h => ldRow rfl h.1.range hd1 hdr (by rw [hie, Option.map_some, hsz]; rfl)) ?_
              refine wRat (fun w b h => qmul_any _ _ zx zy 21 21 w ⟨_, _, _, _, rfl, hqx w h.2.2.2.2.2.2.1⟩ ⟨_, _, _, _, rfl, hqy w h.2.2.2.2.2.2.2⟩ (by decide) (by decide)) (fun _ _ _ _ => ?_)
              refine wVal (fun w b h => qcmp_any _ _ (mHi x y x' y') (zx * zy) _ _ w ⟨_, _, _, _, rfl, h.2.2.2.2.2.2.1.2⟩ ⟨_, _, _, _, rfl, h.1⟩ (by decide) (by decide)) rfl ?_
              refine wPr (prEq rfl rfl) rfl ?_
              refine wPr (prAdd rfl rfl) rfl ?_
              rw [wrap_small (by omega) (by omega)]
              refine wBack fun w h => ⟨⟨j + 1, _, _, rfl, by omega, hN, h.2.2.1, h.2.2.2.1, h.2.2.2.2.1⟩, ?_⟩
              · show 2 - ((j : Int) + 1).toNat < 2 - (j : Int).toNat
                omega
          · subst e3
            refine wLd [c1, c2, c3, c4] hpx (fun w b h => ldRow rfl h.2.2.1.range hd1 hdr (by rw [hie, Option.map_some, hsz]; rfl)) ?_
            refine wLd [d1, d2, d3, d4] hpy (fun w b h => ldRow rfl h.1.range hd1 hdr (by rw [hie, Option.map_some, hsz]; rfl)) ?_
            refine wRat (fun w b h => qmul_any _ _ zx zy 21 21 w ⟨_, _, _, _, rfl, hqx w h.2.2.2.2.2.2.1⟩ ⟨_, _, _, _, rfl, hqy w h.2.2.2.2.2.2.2⟩ (by decide) (by decide)) (fun _ _ _ _ => ?_)
            refine wVal (fun w b h => qcmp_any _ _ (mLo x y x' y') (zx * zy) _ _ w ⟨_, _, _, _, rfl, h.2.2.2.2.2.2.1.1⟩ ⟨_, _, _, _, rfl, h.1⟩ (by decide) (by decide)) rfl ?_
            refine wPr (prEq rfl rfl) rfl ?_
            refine wIf hi' rfl (fun e4 => ?_) (fun e4 => ?_)
            · subst e4
              refine wPr (prAdd rfl rfl) rfl ?_
              rw [wrap_small (by omega) (by omega)]
              refine wBack fun w h => ⟨⟨j + 1, _, _, rfl, by omega, hN, h.2.2.1, h.2.2.2.1, h.2.2.2.2.1⟩, ?_⟩
              · show 2 - ((j : Int) + 1).toNat < 2 - (j : Int).toNat
                omega
            · subst e4
              refine wLd [c1, c2, c3, c4] hpx (fun w b h => ldRow rfl h.2.2.2.1.range hd1 hdr (by rw [hie, Option.map_some, hsz]; rfl)) ?_
              refine wLd [d1, d2, d3, d4] hpy (fun w b h => ldRow rfl h.2.1.range hd1 hdr (by rw [hie, Option.map_some, hsz]; rfl)) ?_
              refine wRat (fun w b h => qmul_any _ _ zx zy 21 21 w ⟨_, _, _, _, rfl, hqx w h.2.2.2.2.2.2.2.1⟩ ⟨_, _, _, _, rfl, hqy w h.2.2.2.2.2.2.2.2⟩ (by decide) (by decide)) (fun _ _ _ _ => ?_)
              refine wVal (fun w b h => qcmp_any _ _ (mHi x y x' y') (zx * zy) _ _ w ⟨_, _, _, _, rfl, h.2.2.2.2.2.2.2.1.2⟩ ⟨_, _, _, _, rfl, h.1⟩ (by decide) (by decide)) rfl ?_
              refine wPr (prEq rfl rfl) rfl ?_
              refine wPr (prAdd rfl rfl) rfl ?_
              rw [wrap_small (by omega) (by omega)]
              refine wBack fun w h => ⟨⟨j + 1, _, _, rfl, by omega, hN, h.2.2.2.1, h.2.2.2.2.1, h.2.2.2.2.2.1⟩, ?_⟩
              · show 2 - ((j : Int) + 1).toNat < 2 - (j : Int).toNat
                omega
        · skip
          have hj3 : j = 2 := by have : ¬ (j : Int) < 2 := (by simpa using e2); omega
          subst hj3
          refine wPr (prAdd rfl rfl) rfl ?_
          rw [wrap_small (by omega) (by omega)]
          refine wBack fun w h => ⟨⟨i + 1, lo', hi', rfl, by omega, hE', h.2.2.1⟩, ?_⟩
          show 2 - ((i : Int) + 1).toNat < 2 - (i : Int).toNat
          omega
      · skip
        have hi3 : i = 2 := by have : ¬ (i : Int) < 2 := (by simpa using e); omega
        subst hi3
        obtain ⟨hlo, hhi⟩ := ends_all x y x' y' hE
        subst hlo hhi
        refine wRat (fun w b h => qpow_any _ y (wi n 1 5) 21 w ⟨_, _, _, _, rfl, h.2.2.2.1.2⟩ (by decide) (by decide) (by omega) (by omega)) (fun _ _ _ _ => ?_)
        refine wVal (fun w b h => qcmp_any _ _ (pHi x y (cut255 (wi n 1 5))) (y ^ cut255 (wi n 1 5)) _ _ w ⟨_, _, _, _, rfl, h.2.2.1.2⟩ ⟨_, _, _, _, rfl, h.1⟩ (by decide) (by decide)) rfl ?_
        refine wPr (prEq rfl rfl) rfl ?_
        refine wIf _ rfl (fun e5 => ?_) (fun e5 => ?_)
        · refine wTrue rfl ?_
          refine wTrue rfl ?_
          refine wPr (prRemI rfl rfl (by decide)) rfl ?_
          refine wPr (prEq rfl rfl) rfl ?_
          refine wIf _ rfl (fun e6 => ?_) (fun e6 => ?_)
          · exact wRet fun w b _ => ⟨rfl, b⟩
          · have h6 := pow_low x y (wi_odd wl.1 e6)
            refine wVal (fun w b h => qsign_any _ (pLo x y (cut255 (wi n 1 5))) _ w ⟨_, _, _, _, rfl, h.2.2.1.1⟩ (by decide)) rfl ?_
            refine wPr (prGe rfl rfl) rfl ?_
            refine wRet fun w b _ => ⟨?_, b⟩
            rw [sgT_ge_of h6]; rfl
        · have e7 := hi_or e5
          refine wRat (fun w b h => qpow_any _ x (wi n 1 5) 21 w ⟨_, _, _, _, rfl, h.2.2.2.2.1.1⟩ (by decide) (by decide) (by omega) (by omega)) (fun _ _ _ _ => ?_)
          refine wVal (fun w b h => qcmp_any _ _ (pHi x y (cut255 (wi n 1 5))) (x ^ cut255 (wi n 1 5)) _ _ w ⟨_, _, _, _, rfl, h.2.2.2.1.2⟩ ⟨_, _, _, _, rfl, h.1⟩ (by decide) (by decide)) rfl ?_
          refine wPr (prEq rfl rfl) rfl ?_
          refine wTrue rfl ?_
          refine wTrue rfl ?_
          refine wTrue (by show Value.bool (cmpQ (pHi x y (cut255 (wi n 1 5))) (x ^ cut255 (wi n 1 5)) == 0) = _; rw [v_eq, decide_eq_true e7]) ?_
          refine wPr (prRemI rfl rfl (by decide)) rfl ?_
          refine wPr (prEq rfl rfl) rfl ?_
          refine wIf _ rfl (fun e6 => ?_) (fun e6 => ?_)
          · exact wRet fun w b _ => ⟨rfl, b⟩
          · have h6 := pow_low x y (wi_odd wl.1 e6)
            refine wVal (fun w b h => qsign_any _ (pLo x y (cut255 (wi n 1 5))) _ w ⟨_, _, _, _, rfl, h.2.2.2.1.1⟩ (by decide)) rfl ?_
            refine wPr (prGe rfl rfl) rfl ?_
            refine wRet fun w b _ => ⟨?_, b⟩
            rw [sgT_ge_of h6]; rfl
    · refine wKnown ZeroO (fun w _ _ => ofN t z w ht hz k1) rfl rfl ?_
      refine wPr (prNot rfl) rfl ?_
      refine wFalse rfl ?_
      refine wPr (prNot rfl) rfl ?_
      refine wTrue rfl ?_
      refine wVal (fun w b _ => alive5_any w (hT.below b)) rfl ?_
      exact wRet fun w b _ => ⟨rfl, b⟩
  · refine wKnown ZeroO (fun w _ _ => ofN s r w hs hr k0) rfl rfl ?_
    by_cases k1 : OfOk t z
    · refine wBothS (fun w _ _ => ofY t z w ht hz k1) rfl (fun va1 vb1 vc1 vd1 ve1 vf1 vg1 vh1 vi1 vj1 vk1 vl1 vm1 vn1 => ?_)
      refine wPr (prNot rfl) rfl ?_
      refine wTrue rfl ?_
      refine wVal (fun w b _ => alive5_any w (hT.below b)) rfl ?_
      exact wRet fun w b _ => ⟨rfl, b⟩
    · refine wKnown ZeroO (fun w _ _ => ofN t z w ht hz k1) rfl rfl ?_
      refine wPr (prNot rfl) rfl ?_
      refine wTrue rfl ?_
      refine wVal (fun w b _ => alive5_any w (hT.below b)) rfl ?_
      exact wRet fun w b _ => ⟨rfl, b⟩
end Go.Proofs.YtfohgkabmdhhaaaGreatDoor

namespace Cin
open Go Go.ChangeShapes Go.WideShapes
section
variable {H : Type} {enc : TypeId × Value → H} {P : Program} {w : World} {base : Nat} {spare : Nat → Bool} {held : Bool}
theorem open_pair {r : Reach} {b0 : Nat} {t s : TypeId} {f0 f1 : Field} {v : Value} {d : DataW H} {ps : List MemPlace} (ht : P.underlying t = some (.struct #[f0, f1])) (hs : P.underlying s = some .string) (hf : f0.type = s ∧ f1.type = s ∧ f0.offset = 0 ∧ f1.offset = 1) (ce : P.cellsOf t = 2) (cs : P.cellsOf s = 1)
    (hval : Value.okWide P w r b0 t v) (hd : DataW.Trod enc P w base spare held t v d ps) :
    ∃ x y : ByteArray, v = .agg #[.string x, .string y] ∧ d = .agg [.lit (.string x.data.toList), .lit (.string y.data.toList)] ∧ ps = [] ∧ x.size ≤ maxLen ∧ y.size ≤ maxLen := by
  obtain ⟨t0, t1, o0, o1⟩ := hf
  obtain ⟨cells, rfl, hsz⟩ := okWide_struct ht hval
  obtain ⟨fuel, hf⟩ := hd
  obtain ⟨y0, y1, n, hx, hl, h0, h1⟩ := trod_struct2 ht hf
  rw [t0, o0, cs] at h0
  rw [t1, o1, cs] at h1
  obtain ⟨x, e0, rfl, l0⟩ := DataW.trod_string hs h0
  obtain ⟨y, e1, rfl, l1⟩ := DataW.trod_string hs h1
  simp only [Prod.mk.injEq] at hx
  refine ⟨x, y, ?_, hx.1, by rw [hx.2]; rfl, l0, l1⟩
  simp only [Value.cells] at e0 e1
  rw [ce] at hsz
  obtain ⟨l⟩ := cells
  match l, hsz with
  | [a, b], _ =>
    simp at e0 e1
    rw [e0, e1]
theorem shut_pair {t s : TypeId} {f0 f1 : Field} {x y : ByteArray} (ht : P.underlying t = some (.struct #[f0, f1])) (hs : P.underlying s = some .string) (hf : f0.type = s ∧ f1.type = s ∧ f0.offset = 0 ∧ f1.offset = 1) (ce : P.cellsOf t = 2) (cs : P.cellsOf s = 1)
    (l0 : x.size ≤ maxLen) (l1 : y.size ≤ maxLen) : DataW.Trod enc P w base spare held t (.agg #[.string x, .string y]) (.agg [.lit (.string x.data.toList), .lit (.string y.data.toList)]) [] := by
  obtain ⟨t0, t1, o0, o1⟩ := hf
  have g0 : DataW.trod enc P w base spare held 1 s [.string x] = some (.lit (.string x.data.toList), []) := by simp [DataW.trod, hs, l0]
  have g1 : DataW.trod enc P w base spare held 1 s [.string y] = some (.lit (.string y.data.toList), []) := by simp [DataW.trod, hs, l1]
  refine ⟨2, ?_⟩
  have := trod_struct2_mk (enc := enc) (w := w) (base := base) (spare := spare) (held := held) (n := 1) (cs := [.string x, .string y]) ht (by rw [ce]; rfl) (y0 := (.lit (.string x.data.toList), [])) (y1 := (.lit (.string y.data.toList), []))
    (by rw [t0, o0, cs]; exact g0) (by rw [t1, o1, cs]; exact g1)
  exact this
end
end Cin
