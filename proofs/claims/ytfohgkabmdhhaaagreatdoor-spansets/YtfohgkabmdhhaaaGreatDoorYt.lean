/- What the laws of quotients have in common: alive, Num. -/
import Derived.Test.YtfohgkabmdhhaaaGreatDoorYs
import Derived.Test.YtfohgkabmdhhaaaGreatDoorYg
import Derived.Test.YtfohgkabmdhhaaaGreatDoorYj
import Derived.Test.YtfohgkabmdhhaaaGreatDoorYq
import Derived.Test.YtfohgkabmdhhaaaGreatDoorYr
import Derived.Test.YtfohgkabmdhhaaaGreatDoorYn
namespace Go.Proofs.YtfohgkabmdhhaaaGreatDoor
open Go.RowKit Cin
section rules
variable {w0 : World} {Post : Ending → World → Prop} {F : World → Prop} {L : LC} {E : Env} {tr : Tr} {f : FuncId} {ar : List V1} {args : Array Value}
theorem wRatV {D Z : TypeId → Bool} {q : Rat} {m : Nat} {c : Value}
    (hc : ∀ w, Below w0.heap.size w0 w → F w → Calls Tryz.prog f args w fun e w' => ∃ v, e = .returned (.tuple #[v, c]) ∧ RatB w' v q m ∧ Below w.heap.size w w') (hv : c.oneCell' = true)
    {E' : Value → Value → Value → Value → Env} (hk : ∀ a b c d, Wk Tryz.prog w0 D Z Post L (fun w => QB w a b c d q m ∧ F w) tr (E' a b c d)) (ha : (ar.map (V1.den [] E)).toArray = args := by rfl) (hE : ∀ a b c' d, E ++ [[a, b, c', d, c]] = E' a b c' d := by intros; (simp only [List.cons_append, List.nil_append]) <;> exact rfl) (hD : D 146 = true := by rfl) : Wk Tryz.prog w0 D Z Post L F (.em (.call f ar [some 4, none]) tr) E := by
  intro hm u hF w e b
  subst ha
  refine (hc w b (hm u w e hF)).mono ?_
  rintro e1 w' ⟨v, rfl, ⟨a, b, c', d, rfl, h1⟩, h4⟩
  have p := qpl h1
  simp only [List.all_cons, List.all_nil, Bool.and_true, Bool.and_eq_true] at p
  exact ⟨[a, b, c', d, c], rfl, by simp only [List.all_cons, List.all_nil, Bool.and_true, Bool.and_eq_true]; exact ⟨p.1, p.2.1, p.2.2.1, p.2.2.2, hv⟩, h4, hE _ _ _ _ ▸ hk _ _ _ _ ((mQ _ _ _ _ _ _ hD).and hm) w' ⟨h1, hm u w' (e.below h4) hF⟩⟩
theorem wDQV {D Z : TypeId → Bool} {q : Rat} {m : Nat} {c : Value}
    (hc : ∀ w, Below w0.heap.size w0 w → F w → Calls Tryz.prog f args w fun e w' => ∃ v, e = .returned (.tuple #[v, c]) ∧ DRatB w' v q m ∧ Below w.heap.size w w') (hv : c.oneCell' = true)
    {E' : Value → Value → Value → Env} (hk : ∀ a b d, Wk Tryz.prog w0 D Z Post L (fun w => DQ w a b d q m ∧ F w) tr (E' a b d)) (ha : (ar.map (V1.den [] E)).toArray = args := by rfl) (hE : ∀ a b d, E ++ [[a, b, d, c]] = E' a b d := by intros; (simp only [List.cons_append, List.nil_append]) <;> exact rfl) (hD : D 146 = true := by rfl) : Wk Tryz.prog w0 D Z Post L F (.em (.call f ar [some 3, none]) tr) E := by
  intro hm u hF w e b
  subst ha
  refine (hc w b (hm u w e hF)).mono ?_
  rintro e1 w' ⟨v, rfl, ⟨a, b, d, rfl, h1⟩, h4⟩
  have p := dpl h1
  simp only [List.all_cons, List.all_nil, Bool.and_true, Bool.and_eq_true] at p
  exact ⟨[a, b, d, c], rfl, by simp only [List.all_cons, List.all_nil, Bool.and_true, Bool.and_eq_true]; exact ⟨p.1, p.2.1, p.2.2, hv⟩, h4, hE _ _ _ ▸ hk _ _ _ ((mD _ _ _ _ _ hD).and hm) w' ⟨h1, hm u w' (e.below h4) hF⟩⟩
theorem wBoth {D Z : TypeId → Bool} {q : Rat} {m : Nat} {c : Value}
    (hc : ∀ w, Below w0.heap.size w0 w → F w → Calls Tryz.prog f args w fun e w' => ∃ v u, e = .returned (.tuple #[v, u, c]) ∧ RatB w' v q m ∧ DRatB w' u q m ∧ Below w.heap.size w w') (hv : c.oneCell' = true)
    {E' : Value → Value → Value → Value → Value → Value → Value → Env} (hk : ∀ a b c' d a' b' d', Wk Tryz.prog w0 D Z Post L (fun w => QB w a b c' d q m ∧ DQ w a' b' d' q m ∧ F w) tr (E' a b c' d a' b' d')) (ha : (ar.map (V1.den [] E)).toArray = args := by rfl)
    (hE : ∀ a b c' d a' b' d', E ++ [[a, b, c', d, a', b', d', c]] = E' a b c' d a' b' d' := by intros; (simp only [List.cons_append, List.nil_append]) <;> exact rfl) (hD : D 146 = true := by rfl) : Wk Tryz.prog w0 D Z Post L F (.em (.call f ar [some 4, some 3, none]) tr) E := by
  intro hm u hF w e b
  subst ha
  refine (hc w b (hm u w e hF)).mono ?_
  rintro e1 w' ⟨v, u, rfl, ⟨a, b, c', d, rfl, h1⟩, ⟨a', b', d', rfl, h2⟩, h4⟩
  have p := qpl h1
  have p' := dpl h2
  simp only [List.all_cons, List.all_nil, Bool.and_true, Bool.and_eq_true] at p p'
  exact ⟨[a, b, c', d, a', b', d', c], rfl, by simp only [List.all_cons, List.all_nil, Bool.and_true, Bool.and_eq_true]; exact ⟨p.1, p.2.1, p.2.2.1, p.2.2.2, p'.1, p'.2.1, p'.2.2, hv⟩, h4, hE _ _ _ _ _ _ _ ▸ hk _ _ _ _ _ _ _ ((mQ _ _ _ _ _ _ hD).and ((mD _ _ _ _ _ hD).and hm)) w' ⟨h1, h2, hm u w' (e.below h4) hF⟩⟩
end rules
theorem dparseY (s : ByteArray) (w : World) (hs : s.size ≤ 9223372036854775807) (h : RatOk s) : Calls Tryz.prog 65 #[.string s] w fun e w' => ∃ v, e = .returned (.tuple #[v, .bool true]) ∧ DRatB w' v (ratVal s) 500 ∧ Below w.heap.size w w' :=
  (dparse_any s w hs).mono fun e w' hp => by
    rcases hp with ⟨_, h⟩ | ⟨hn, _⟩
    · exact h
    · exact absurd h hn
def NumQ (a : ByteArray) : Prop := RatOk a ∧ a.size ≤ 100
theorem int_lt {s : ByteArray} (h : IsInt s) (hs : s.size ≤ 100) : (intVal s).natAbs < pw 21 := by
  unfold intVal
  rw [sg_natAbs]
  refine decL_lt_pw h.1.2.2.2 ?_
  unfold digT
  split
  · rw [byts_tl, List.length_drop, byts_length]; omega
  · rw [byts_length]; omega
theorem ext_size (s : ByteArray) (a b : Nat) : (s.extract a b).size ≤ s.size := by
  rw [← byts_length, byts_extract, List.length_take, List.length_drop, byts_length]; omega
theorem numQ_lt {s : ByteArray} (h : NumQ s) : (ratVal s).num.natAbs < pw 21 ∧ (ratVal s).den < pw 21 := by
  obtain ⟨h, hs⟩ := h
  rcases h with ⟨hneg, hi⟩ | ⟨hpos, hi, hj, e1, e2⟩
  · obtain ⟨q1, q2⟩ := ratVal_int hneg
    rw [q1, q2]
    exact ⟨int_lt hi hs, one_lt 21 (by decide)⟩
  · obtain ⟨q1, q2⟩ := ratVal_quo hpos e1 e2
    rw [q1, q2]
    refine ⟨int_lt hi (Nat.le_trans (ext_size _ _ _) hs), decL_lt_pw hj.2.2.2 ?_⟩
    rw [byts_length]
    have := ext_size s ((slashAt s).toNat + 1) s.size
    exact Nat.le_trans this (by omega)
theorem QB.cut {w : World} {a b c d : Value} {q : Rat} {k j : Nat} (h : QB w a b c d q k) (hn : q.num.natAbs < pw j) (hd : q.den < pw j) : QB w a b c d q j :=
  ⟨⟨h.1.1, hn⟩, ⟨h.2.1.1, by unfold denZ; split <;> (first | exact pw_pos j | (rw [Int.natAbs_natCast]; exact hd))⟩, hd⟩
theorem DQ.cut {w : World} {a b d : Value} {q : Rat} {k j : Nat} (h : DQ w a b d q k) (hn : q.num.natAbs < pw j) (hd : q.den < pw j) : DQ w a b d q j := ⟨⟨h.1.1, hn⟩, h.2.1, hd⟩
theorem numY (s : ByteArray) (w : World) (hs : s.size ≤ 9223372036854775807) (h : NumQ s) :
    Calls Tryz.prog 23 #[.string s] w fun e w' => ∃ v u, e = .returned (.tuple #[v, u, .bool true]) ∧ RatB w' v (ratVal s) 21 ∧ DRatB w' u (ratVal s) 21 ∧ Below w.heap.size w w' := by
  obtain ⟨hn, hd⟩ := numQ_lt h
  refine go (fun _ => True) [[.string s]] [none] (tr := (.em (.call 65 [.s (.c 0 0)] [some 3, none]) (.em (.pr (.unOp .not 4 (.tmp 0)) 4 [.s (.c 1 3)]) (.cond (.c 2 0) (.ret (.t [.g [.k (.bool false), .k (.slice none 0 0), .k (.bool false), .k (.slice none 0 0)], .g [.k (.bool false), .k (.slice none 0 0), .k (.slice none 0 0)], .s (.k (.bool false))])) (.em (.pr (.call (.mk (.builtin .len) #[.tmp 0] #[9])) 3 [.s (.c 0 0)]) (.em (.pr (.binOp .gtr 3 (.tmp 0) (.const (.int .i64 100)) 3) 4 [.s (.c 3 0), .s (.k (.int .i64 100))]) (.cond (.c 4 0) (.ret (.t [.g [.k (.bool false), .k (.slice none 0 0), .k (.bool false), .k (.slice none 0 0)], .g [.k (.bool false), .k (.slice none 0 0), .k (.slice none 0 0)], .s (.k (.bool false))])) (.em (.call 64 [.s (.c 0 0)] [some 4, none]) (.ret (.t [.g [.c 5 0, .c 5 1, .c 5 2, .c 5 3], .g [.c 1 0, .c 1 1, .c 1 2], .s (.k (.bool true))])))))))))) (by kernel_rfl) (by kernel_rfl) (by kernel_rfl) Mono.true trivial ⟨rfl, trivial⟩ ?_
  refine wDQV (fun w b _ => dparseY s w hs h.1) rfl (fun a b d => ?_)
  refine wPr (prNot rfl) rfl ?_
  refine wFalse rfl ?_
  refine wPr (prLenS hStrT rfl) rfl ?_
  refine wPr (prGt rfl rfl) rfl ?_
  refine wFalse (by have := h.2; show Value.bool (decide _) = _; rw [decide_eq_false (by omega)]) ?_
  refine wRatV (fun w b _ => qparse_ok s w hs h.1) rfl (fun a b c d => ?_)
  exact wRet fun w b ⟨h1, h2, _⟩ => ⟨_, _, rfl, ⟨_, _, _, _, rfl, h1.cut hn hd⟩, ⟨_, _, _, rfl, h2.cut hn hd⟩, b⟩
theorem numN (s : ByteArray) (w : World) (hs : s.size ≤ 9223372036854775807) (h : ¬ NumQ s) :
    Calls Tryz.prog 23 #[.string s] w fun e w' => e = .returned (.tuple #[.agg #[.bool false, .slice none 0 0, .bool false, .slice none 0 0], .agg #[.bool false, .slice none 0 0, .slice none 0 0], .bool false]) ∧ Below w.heap.size w w' := by
  refine go (fun _ => True) [[.string s]] [none] (tr := (.em (.call 65 [.s (.c 0 0)] [some 3, none]) (.em (.pr (.unOp .not 4 (.tmp 0)) 4 [.s (.c 1 3)]) (.cond (.c 2 0) (.ret (.t [.g [.k (.bool false), .k (.slice none 0 0), .k (.bool false), .k (.slice none 0 0)], .g [.k (.bool false), .k (.slice none 0 0), .k (.slice none 0 0)], .s (.k (.bool false))])) (.em (.pr (.call (.mk (.builtin .len) #[.tmp 0] #[9])) 3 [.s (.c 0 0)]) (.em (.pr (.binOp .gtr 3 (.tmp 0) (.const (.int .i64 100)) 3) 4 [.s (.c 3 0), .s (.k (.int .i64 100))]) (.cond (.c 4 0) (.ret (.t [.g [.k (.bool false), .k (.slice none 0 0), .k (.bool false), .k (.slice none 0 0)], .g [.k (.bool false), .k (.slice none 0 0), .k (.slice none 0 0)], .s (.k (.bool false))])) (.em (.call 64 [.s (.c 0 0)] [some 4, none]) (.ret (.t [.g [.c 5 0, .c 5 1, .c 5 2, .c 5 3], .g [.c 1 0, .c 1 1, .c 1 2], .s (.k (.bool true))])))))))))) (by kernel_rfl) (by kernel_rfl) (by kernel_rfl) Mono.true trivial ⟨rfl, trivial⟩ ?_
  by_cases hr : RatOk s
  · refine wDQV (fun w b _ => dparseY s w hs hr) rfl (fun a b d => ?_)
    refine wPr (prNot rfl) rfl ?_
    refine wFalse rfl ?_
    refine wPr (prLenS hStrT rfl) rfl ?_
    refine wPr (prGt rfl rfl) rfl ?_
    refine wTrue (by have : ¬ s.size ≤ 100 := fun e => h ⟨hr, e⟩; show Value.bool (decide _) = _; rw [decide_eq_true (by omega)]) ?_
    exact wRet fun w b _ => ⟨rfl, b⟩
  · refine wCall (fun cs _ => ∃ a b d, cs = [a, b, d, .bool false]) (fun _ _ _ _ h => h) (fun w b _ => (dparse_any s w hs).mono ?_) (fun cs => ?_)
    · rintro e w' (⟨h, _⟩ | ⟨_, a, b, d, rfl, hp, hb⟩)
      · exact absurd h hr
      · simp only [List.all_cons, List.all_nil, Bool.and_true, Bool.and_eq_true] at hp
        exact ⟨[a, b, d, .bool false], rfl, by simp only [List.all_cons, List.all_nil, Bool.and_true, Bool.and_eq_true]; exact ⟨hp.1, hp.2.1, hp.2.2, rfl⟩, ⟨a, b, d, rfl⟩, hb⟩
    · intro hm u hF
      obtain ⟨⟨a, b, d, rfl⟩, _⟩ := id hF
      refine wMono Mono.true (fun _ _ => trivial) ?_ hm u hF
      refine wPr (prNot rfl) rfl ?_
      refine wTrue rfl ?_
      exact wRet fun w b _ => ⟨rfl, b⟩
end Go.Proofs.YtfohgkabmdhhaaaGreatDoor

namespace Go.Proofs.YtfohgkabmdhhaaaGreatDoor
open Go.RowKit Cin
theorem addQ_mk (x y : Rat) : nq (x.num * (y.den : Int) + y.num * (x.den : Int)) ((x.den * y.den : Nat) : Int) = x + y := by
  rw [nq_div, Int.natCast_mul, Rat.intCast_add, Rat.intCast_mul, Rat.intCast_mul, Rat.intCast_mul]
  have h1 := num_den x
  have h2 := num_den y
  have h3 := den_ne x
  have h4 := den_ne y
  generalize (x.num : Rat) = a at *
  generalize ((x.den : Int) : Rat) = b at *
  generalize (y.num : Rat) = c at *
  generalize ((y.den : Int) : Rat) = d at *
  subst h1 h2
  grind
theorem mulQ_mk (x y : Rat) : nq (x.num * y.num) ((x.den * y.den : Nat) : Int) = x * y := by
  rw [nq_div, Int.natCast_mul, Rat.intCast_mul, Rat.intCast_mul]
  have h1 := num_den x
  have h2 := num_den y
  have h3 := den_ne x
  have h4 := den_ne y
  generalize (x.num : Rat) = a at *
  generalize ((x.den : Int) : Rat) = b at *
  generalize (y.num : Rat) = c at *
  generalize ((y.den : Int) : Rat) = d at *
  subst h1 h2
  grind
theorem dneg_any (v : Value) (q : Rat) (k : Nat) (w : World) (h : DRatB w v q k) :
    Calls Tryz.prog 93 #[v] w fun e w' => ∃ v', e = .returned v' ∧ DRatB w' v' (-q) k ∧ Below w.heap.size w w' := by
  obtain ⟨a, b, d, rfl, h⟩ := h
  refine go (fun w => DQ w a b d q k) [[a, b, d]] [some 3] (tr := (.em (.call 132 [.g [.c 0 0, .c 0 1]] [some 2]) (.em (.call 70 [.g [.c 0 0, .c 0 1, .c 0 2]] [none]) (.ret (.v (.g [.c 1 0, .c 1 1, .c 2 0])))))) (by kernel_rfl) (by kernel_rfl) (by kernel_rfl) (mD _ _ _ _ _) h ⟨dpl h, trivial⟩ ?_
  refine wInt hU (fun w b h => rneg_any _ q.num k w h.1) (fun x1 y1 => ?_)
  refine wRef hU (fun w b ⟨_, h⟩ => dden_any _ q k w ⟨_, _, _, rfl, h⟩) (fun x2 => ?_)
  refine wRet fun w b ⟨h2, h1, _⟩ => ⟨_, rfl, ⟨_, _, _, rfl, ?_, ⟨_, h2.1, .inl ?_⟩, ?_⟩, b⟩
  · rw [Rat.neg_num]; exact h1
  · rw [Rat.neg_den]
  · rw [Rat.neg_den]; exact h2.2
set_option maxHeartbeats 1000000 in
theorem dadd_any (v u : Value) (x y : Rat) (k j : Nat) (w : World) (h : DRatB w v x k) (h' : DRatB w u y j) (hk : k ≤ 1000) (hj : j ≤ 1000) :
    Calls Tryz.prog 72 #[v, u] w fun e w' => ∃ v', e = .returned v' ∧ DRatB w' v' (x + y) (k + j + (j + k) + 1) ∧ Below w.heap.size w w' := by
  obtain ⟨a, b, d, rfl, h⟩ := h
  obtain ⟨a', b', d', rfl, h'⟩ := h'
  have hxp := x.den_pos
  have hyp := y.den_pos
  refine go (fun w => DQ w a b d x k ∧ DQ w a' b' d' y j) [[a, b, d], [a', b', d']] [some 3, some 3] (tr := (.em (.call 70 [.g [.c 1 0, .c 1 1, .c 1 2]] [none]) (.em (.call 69 [.s (.c 2 0)] [some 2]) (.em (.call 68 [.g [.c 0 0, .c 0 1], .g [.c 3 0, .c 3 1]] [some 2]) (.em (.call 70 [.g [.c 0 0, .c 0 1, .c 0 2]] [none]) (.em (.call 69 [.s (.c 5 0)] [some 2]) (.em (.call 68 [.g [.c 1 0, .c 1 1], .g [.c 6 0, .c 6 1]] [some 2]) (.em (.call 118 [.g [.c 4 0, .c 4 1], .g [.c 7 0, .c 7 1]] [some 2]) (.em (.call 70 [.g [.c 0 0, .c 0 1, .c 0 2]] [none]) (.em (.call 70 [.g [.c 1 0, .c 1 1, .c 1 2]] [none]) (.em (.call 115 [.s (.c 9 0), .s (.c 10 0)] [none]) (.em (.call 69 [.s (.c 11 0)] [some 2]) (.em (.call 117 [.g [.c 8 0, .c 8 1], .g [.c 12 0, .c 12 1]] [some 3]) (.ret (.v (.g [.c 13 0, .c 13 1, .c 13 2])))))))))))))))) (by kernel_rfl) (by kernel_rfl) (by kernel_rfl) ((mD _ _ _ _ _).and (mD _ _ _ _ _)) ⟨h, h'⟩ ⟨dpl h, dpl h', trivial⟩ ?_
  refine wRef hU (fun w b ⟨_, h'⟩ => dden_any _ y j w ⟨_, _, _, rfl, h'⟩) (fun x1 => ?_)
  refine wInt hU (fun w b ⟨h1, _⟩ => pos_any _ _ j w h1) (fun x2 y2 => ?_)
  refine wInt hU (fun w b ⟨h2, _, h, _⟩ => rimul_any _ _ _ _ k j w h.1 h2 (by omega) (by omega)) (fun x3 y3 => ?_)
  refine wRef hU (fun w b ⟨_, _, _, h, _⟩ => dden_any _ x k w ⟨_, _, _, rfl, h⟩) (fun x4 => ?_)
  refine wInt hU (fun w b ⟨h4, _⟩ => pos_any _ _ k w h4) (fun x5 y5 => ?_)
  refine wInt hU (fun w b ⟨h5, _, _, _, _, _, h'⟩ => rimul_any _ _ _ _ j k w h'.1 h5 (by omega) (by omega)) (fun x6 y6 => ?_)
  refine wInt hU (fun w b ⟨h6, _, _, h3, _⟩ => riadd_any _ _ _ _ (k + j) (j + k) w h3 h6 (by omega) (by omega)) (fun x7 y7 => ?_)
  refine wRef hU (fun w b ⟨_, _, _, _, _, _, _, h, _⟩ => dden_any _ x k w ⟨_, _, _, rfl, h⟩) (fun x8 => ?_)
  refine wRef hU (fun w b ⟨_, _, _, _, _, _, _, _, _, h'⟩ => dden_any _ y j w ⟨_, _, _, rfl, h'⟩) (fun x9 => ?_)
  refine wRef hU (fun w b ⟨h9, h8, _⟩ => rmulB _ _ x.den y.den k j w h8 h9 (by omega) (by omega)) (fun x10 => ?_)
  refine wInt hU (fun w b ⟨h10, _⟩ => pos_any _ _ (k + j) w h10) (fun x11 y11 => ?_)
  refine wDQ (q := x + y) (fun w b ⟨h11, _, _, _, h7, _⟩ => by
    rw [← addQ_mk x y]
    exact dnew_any _ _ _ _ (k + j + (j + k) + 1) w h7 (h11.mono (by omega)) (by omega) (by omega) (by have := Nat.mul_pos hxp hyp; omega)) (fun a b d => ?_)
  exact wRet fun w b ⟨h, _⟩ => ⟨_, rfl, ⟨_, _, _, rfl, h⟩, b⟩
theorem dsub_any (v u : Value) (x y : Rat) (k j : Nat) (w : World) (h : DRatB w v x k) (h' : DRatB w u y j) (hk : k ≤ 1000) (hj : j ≤ 1000) :
    Calls Tryz.prog 73 #[v, u] w fun e w' => ∃ v', e = .returned v' ∧ DRatB w' v' (x - y) (k + j + (j + k) + 1) ∧ Below w.heap.size w w' := by
  obtain ⟨a, b, d, rfl, h⟩ := h
  obtain ⟨a', b', d', rfl, h'⟩ := h'
  refine go (fun w => DQ w a b d x k ∧ DQ w a' b' d' y j) [[a, b, d], [a', b', d']] [some 3, some 3] (tr := (.em (.call 93 [.g [.c 1 0, .c 1 1, .c 1 2]] [some 3]) (.em (.call 72 [.g [.c 0 0, .c 0 1, .c 0 2], .g [.c 2 0, .c 2 1, .c 2 2]] [some 3]) (.ret (.v (.g [.c 3 0, .c 3 1, .c 3 2])))))) (by kernel_rfl) (by kernel_rfl) (by kernel_rfl) ((mD _ _ _ _ _).and (mD _ _ _ _ _)) ⟨h, h'⟩ ⟨dpl h, dpl h', trivial⟩ ?_
  refine wDQ (fun w b ⟨_, h'⟩ => dneg_any _ y j w ⟨_, _, _, rfl, h'⟩) (fun a1 b1 d1 => ?_)
  refine wDQ (q := x - y) (fun w b ⟨h1, h, _⟩ => by
    rw [Rat.sub_eq_add_neg]
    exact dadd_any _ _ x (-y) k j w ⟨_, _, _, rfl, h⟩ ⟨_, _, _, rfl, h1⟩ hk hj) (fun a b d => ?_)
  exact wRet fun w b ⟨h, _⟩ => ⟨_, rfl, ⟨_, _, _, rfl, h⟩, b⟩
theorem dmul_any (v u : Value) (x y : Rat) (k j : Nat) (w : World) (h : DRatB w v x k) (h' : DRatB w u y j) (hk : k ≤ 3000) (hj : j ≤ 3000) (hk1 : 1 ≤ k) :
    Calls Tryz.prog 78 #[v, u] w fun e w' => ∃ v', e = .returned v' ∧ DRatB w' v' (x * y) (k + j) ∧ Below w.heap.size w w' := by
  obtain ⟨a, b, d, rfl, h⟩ := h
  obtain ⟨a', b', d', rfl, h'⟩ := h'
  have hxp := x.den_pos
  have hyp := y.den_pos
  refine go (fun w => DQ w a b d x k ∧ DQ w a' b' d' y j) [[a, b, d], [a', b', d']] [some 3, some 3] (tr := (.em (.call 68 [.g [.c 0 0, .c 0 1], .g [.c 1 0, .c 1 1]] [some 2]) (.em (.call 70 [.g [.c 0 0, .c 0 1, .c 0 2]] [none]) (.em (.call 70 [.g [.c 1 0, .c 1 1, .c 1 2]] [none]) (.em (.call 115 [.s (.c 3 0), .s (.c 4 0)] [none]) (.em (.call 69 [.s (.c 5 0)] [some 2]) (.em (.call 117 [.g [.c 2 0, .c 2 1], .g [.c 6 0, .c 6 1]] [some 3]) (.ret (.v (.g [.c 7 0, .c 7 1, .c 7 2])))))))))) (by kernel_rfl) (by kernel_rfl) (by kernel_rfl) ((mD _ _ _ _ _).and (mD _ _ _ _ _)) ⟨h, h'⟩ ⟨dpl h, dpl h', trivial⟩ ?_
  refine wInt hU (fun w b ⟨h, h'⟩ => rimul_any _ _ _ _ k j w h.1 h'.1 (by omega) (by omega)) (fun x1 y1 => ?_)
  refine wRef hU (fun w b ⟨_, h, _⟩ => dden_any _ x k w ⟨_, _, _, rfl, h⟩) (fun x2 => ?_)
  refine wRef hU (fun w b ⟨_, _, _, h'⟩ => dden_any _ y j w ⟨_, _, _, rfl, h'⟩) (fun x3 => ?_)
  refine wRef hU (fun w b ⟨h3, h2, _⟩ => rmulB _ _ x.den y.den k j w h2 h3 (by omega) (by omega)) (fun x4 => ?_)
  refine wInt hU (fun w b ⟨h4, _⟩ => pos_any _ _ (k + j) w h4) (fun x5 y5 => ?_)
  refine wDQ (q := x * y) (fun w b ⟨h5, _, _, _, h1, _⟩ => by
    rw [← mulQ_mk x y]
    exact dnew_any _ _ _ _ (k + j) w h1 h5 (by omega) (by omega) (by have := Nat.mul_pos hxp hyp; omega)) (fun a b d => ?_)
  exact wRet fun w b ⟨h, _⟩ => ⟨_, rfl, ⟨_, _, _, rfl, h⟩, b⟩
theorem dcmp_any (v u : Value) (x y : Rat) (k j : Nat) (w : World) (h : DRatB w v x k) (h' : DRatB w u y j) (hk : k ≤ 3000) (hj : j ≤ 3000) :
    Calls Tryz.prog 17 #[v, u] w fun e w' => e = .returned (.int .i64 (cmpQ x y)) ∧ Below w.heap.size w w' := by
  obtain ⟨a, b, d, rfl, h⟩ := h
  obtain ⟨a', b', d', rfl, h'⟩ := h'
  refine go (fun w => DQ w a b d x k ∧ DQ w a' b' d' y j) [[a, b, d], [a', b', d']] [some 3, some 3] (tr := (.em (.call 70 [.g [.c 1 0, .c 1 1, .c 1 2]] [none]) (.em (.call 69 [.s (.c 2 0)] [some 2]) (.em (.call 68 [.g [.c 0 0, .c 0 1], .g [.c 3 0, .c 3 1]] [some 2]) (.em (.call 70 [.g [.c 0 0, .c 0 1, .c 0 2]] [none]) (.em (.call 69 [.s (.c 5 0)] [some 2]) (.em (.call 68 [.g [.c 1 0, .c 1 1], .g [.c 6 0, .c 6 1]] [some 2]) (.em (.call 67 [.g [.c 4 0, .c 4 1], .g [.c 7 0, .c 7 1]] [none]) (.ret (.v (.s (.c 8 0)))))))))))) (by kernel_rfl) (by kernel_rfl) (by kernel_rfl) ((mD _ _ _ _ _).and (mD _ _ _ _ _)) ⟨h, h'⟩ ⟨dpl h, dpl h', trivial⟩ ?_
  refine wRef hU (fun w b ⟨_, h'⟩ => dden_any _ y j w ⟨_, _, _, rfl, h'⟩) (fun x1 => ?_)
  refine wInt hU (fun w b ⟨h1, _⟩ => pos_any _ _ j w h1) (fun x2 y2 => ?_)
  refine wInt hU (fun w b ⟨h2, _, h, _⟩ => rimul_any _ _ _ _ k j w h.1 h2 (by omega) (by omega)) (fun x3 y3 => ?_)
  refine wRef hU (fun w b ⟨_, _, _, h, _⟩ => dden_any _ x k w ⟨_, _, _, rfl, h⟩) (fun x4 => ?_)
  refine wInt hU (fun w b ⟨h4, _⟩ => pos_any _ _ k w h4) (fun x5 y5 => ?_)
  refine wInt hU (fun w b ⟨h5, _, _, _, _, _, h'⟩ => rimul_any _ _ _ _ j k w h'.1 h5 (by omega) (by omega)) (fun x6 y6 => ?_)
  refine wVal (v := .int .i64 (cmpQ x y)) (fun w b ⟨h6, _, _, h3, _⟩ => by
    rw [← cmpQ_of]
    exact ricmp_any _ _ _ _ (k + j) (j + k) w h3 h6 (by omega) (by omega)) rfl ?_
  exact wRet fun w b _ => ⟨rfl, b⟩
end Go.Proofs.YtfohgkabmdhhaaaGreatDoor

namespace Go.Proofs.YtfohgkabmdhhaaaGreatDoor
open Go.RowKit Cin
section prims
variable {P : Program} {T T' ty : TypeId} {vs : List Value} {p q : Operand} {x y : Int}
theorem prMax (hp : pe vs p = .int .i64 x) (hq : pe vs q = .int .i64 y) : PrimOk P (.call { callee := .builtin .max, args := #[p, q], argTypes := #[T, T'] }) ty vs (.int .i64 (max x y)) := fun w => by
  have e : max x y = if y > x then y else x := by split <;> omega
  rw [e]
  simp [execOp, resolve, hp, hq, invoke, builtin, Builtin.max_, Builtin.max2]
theorem prMin (hp : pe vs p = .int .i64 x) (hq : pe vs q = .int .i64 y) : PrimOk P (.call { callee := .builtin .min, args := #[p, q], argTypes := #[T, T'] }) ty vs (.int .i64 (min x y)) := fun w => by
  have e : min x y = if y < x then y else x := by split <;> omega
  rw [e]
  simp [execOp, resolve, hp, hq, invoke, builtin, Builtin.min_, Builtin.min2]
end prims
theorem qpow_any (v : Value) (x : Rat) (n : Int) (k : Nat) (w : World) (h : RatB w v x k) (hk : k ≤ 1000) (hk1 : 1 ≤ k) (hn0 : -9223372036854775808 ≤ n) (hn1 : n < 9223372036854775808) :
    Calls Tryz.prog 59 #[v, .int .i64 n] w fun e w' => ∃ v', e = .returned v' ∧ RatB w' v' (x ^ cut255 n) (k * 255 + 1) ∧ Below w.heap.size w w' := by
  obtain ⟨a, b, c, d, rfl, h⟩ := h
  refine go (fun w => QB w a b c d x k) [[a, b, c, d], [.int .i64 n]] [some 4, none] (tr := (.em (.call 101 [.g [.c 0 0, .c 0 1], .s (.c 1 0)] [some 2]) (.em (.call 94 [.g [.c 0 0, .c 0 1, .c 0 2, .c 0 3]] [some 2]) (.em (.call 101 [.g [.c 3 0, .c 3 1], .s (.c 1 0)] [some 2]) (.em (.call 99 [.g [.c 2 0, .c 2 1], .g [.c 4 0, .c 4 1]] [some 4]) (.ret (.v (.g [.c 5 0, .c 5 1, .c 5 2, .c 5 3])))))))) (by kernel_rfl) (by kernel_rfl) (by kernel_rfl) (mQ _ _ _ _ _ _) h ⟨qpl h, rfl, trivial⟩ ?_
  refine wInt hU (fun w b h => pow_any _ x.num n k w h.1 hk hk1 hn0 hn1) (fun _ _ => ?_)
  refine wInt hU (fun w b ⟨_, h⟩ => bottom_any _ x k w ⟨_, _, _, _, rfl, h⟩ (by omega)) (fun _ _ => ?_)
  refine wInt hU (fun w b ⟨h2, _⟩ => pow_any _ (x.den : Int) n k w h2 hk hk1 hn0 hn1) (fun _ _ => ?_)
  refine wRat (fun w b ⟨h3, _, h1, _⟩ => lowest_any _ _ _ _ (x ^ cut255 n) (k * 255 + 1) w h1 h3 (by omega) (Rat.num_pow _ _) (by rw [Rat.den_pow, Int.natCast_pow])) (fun _ _ _ _ => ?_)
  exact wRet fun w b ⟨h, _⟩ => ⟨_, rfl, ⟨_, _, _, _, rfl, h⟩, b⟩
end Go.Proofs.YtfohgkabmdhhaaaGreatDoor

namespace Go.Proofs.YtfohgkabmdhhaaaGreatDoor
open Go.RowKit Cin
section prims
variable {P : Program} {t t2 ty : TypeId} {vs : List Value} {p q : Operand} {x y : Int}
theorem prMinE {T T' : TypeId} {z : Int} (hp : pe vs p = .int .i64 x) (hq : pe vs q = .int .i64 y) (h : min x y = z) : PrimOk P (.call { callee := .builtin .min, args := #[p, q], argTypes := #[T, T'] }) ty vs (.int .i64 z) := by subst h; exact prMin hp hq
theorem prRemI (hp : pe vs p = .int .i64 x) (hq : pe vs q = .int .i64 y) (hy : y ≠ 0) : PrimOk P (.binOp .rem t p q t2) ty vs (.int .i64 (x.tmod y)) := fun w => by
  simp only [execOp, hp, hq]
  simp [eqGuard, binOp, Op.intDiv, hy]
end prims
abbrev NB (w : World) (x : Value) (n k : Nat) : Prop := NatB 146 w (.agg #[x]) n k
theorem tz_pw {x k : Nat} (h : x < pw k) : tzOf x ≤ 32 * k := by rw [pw_two] at h; exact tzOf_le h
def Zinv (n : Int) (x y k j : Nat) (cs : List Value) (w : World) : Prop := ∃ (m : Int) (a : Value), cs = [.int .i64 m, a] ∧ (m = n ∨ (m = n - 1048576 ∧ 0 < n)) ∧ NB w a (if m = n then x else y) (if m = n then k else j)
theorem Zinv.mono (n : Int) (x y k j : Nat) (cs : List Value) : Mono DD (Zinv n x y k j cs) := fun _ _ e ⟨m, a, h1, h2, h3⟩ => ⟨m, a, h1, h2, h3.ext e hU⟩
theorem Zinv.at {n m : Int} {x y k j : Nat} {a : Value} {w : World} (h : Zinv n x y k j [.int .i64 m, a] w) : NB w a (if m = n then x else y) (if m = n then k else j) := by
  obtain ⟨m', a', e, _, h⟩ := h
  injection e with e1 e2
  injection e2 with e2 _
  injection e1 with _ e1
  subst e1 e2
  exact h
def DyQ (w : World) (x y : Value) (q : Rat) (k K : Nat) : Prop := IB w x y (oddOf q) k ∧ Dy q ∧ -(K : Int) ≤ expOf q ∧ expOf q ≤ K
end Go.Proofs.YtfohgkabmdhhaaaGreatDoor

namespace Go.Proofs.YtfohgkabmdhhaaaGreatDoor
open Go.RowKit Cin
theorem minus_tl {s : ByteArray} (h : negT s = true) : (⟨#[45]⟩ : ByteArray) ++ tl s = s := by
  obtain ⟨⟨l⟩⟩ := s
  cases l with
  | nil => unfold negT at h; simp [byts] at h; exact absurd h.2 (by decide)
  | cons x l =>
    have hx : lim (byts ⟨⟨x :: l⟩⟩) 0 = x.toNat := rfl
    unfold negT at h
    rw [hx] at h
    simp only [Bool.and_eq_true, decide_eq_true_eq] at h
    have e : x = 45 := UInt8.toNat_inj.1 h.2
    subst e
    apply ByteArray.ext
    apply Array.toList_inj.1
    simp [tl, ByteArray.data_extract]
    exact List.take_of_length_le (by show l.length ≤ l.length + 1 - 1; omega)
theorem intS_intVal {s : ByteArray} (h : IsInt s) : intS (intVal s) = s := by
  have hd := decS_decL h.1
  by_cases hn : negT s = true
  · have h0 := h.2 hn
    have hz : intVal s < 0 := by unfold intVal sg; rw [hn, if_pos rfl]; omega
    rw [intS_neg hz]
    have e : (intVal s).natAbs = decL (byts (digT s)) := by unfold intVal; rw [sg_natAbs]
    rw [e, hd]
    unfold digT
    rw [if_pos hn]
    exact minus_tl hn
  · have hn' : negT s = false := by simpa using hn
    have hz : ¬ intVal s < 0 := by unfold intVal sg; rw [hn', if_neg (by simp)]; omega
    rw [intS_pos hz]
    have e : (intVal s).natAbs = decL (byts (digT s)) := by unfold intVal; rw [sg_natAbs]
    rw [e, hd]
    unfold digT
    rw [if_neg hn]
end Go.Proofs.YtfohgkabmdhhaaaGreatDoor

namespace Go.Proofs.YtfohgkabmdhhaaaGreatDoor
open Go.RowKit Cin
theorem parts_join {s : ByteArray} (h : 0 ≤ slashAt s) : nPart s ++ (⟨#[47]⟩ : ByteArray) ++ dPart s = s := by
  obtain ⟨o, ho⟩ := Int.eq_ofNat_of_zero_le h
  have h1 := (Lib.indexByte_some (show Lib.indexByte s.data.toList 47 = (o : Int) from ho)).1
  have hlt := (List.getElem?_eq_some_iff.1 h1).1
  have hsz : s.data.toList.length = s.size := bytes_len s
  apply ByteArray.ext
  apply Array.toList_inj.1
  unfold nPart dPart
  rw [ho]
  simp only [Int.toNat_natCast, ByteArray.data_append, ByteArray.data_extract, Array.toList_append, Array.toList_extract, List.extract_eq_take_drop, List.drop_zero, Nat.sub_zero]
  have e0 : (s.data.toList.drop (o + 1)).take (s.size - (o + 1)) = s.data.toList.drop (o + 1) := List.take_of_length_le (by rw [List.length_drop]; omega)
  rw [e0]
  conv => rhs; rw [← List.take_append_drop o s.data.toList]
  rw [List.append_assoc]
  congr 1
  rw [List.drop_eq_getElem_cons hlt]
  have := (List.getElem?_eq_some_iff.1 h1).2
  rw [this]; rfl
theorem ratS_ratVal {s : ByteArray} (h : RatOk s) : ratS (ratVal s) = s := by
  rcases h with ⟨hneg, hi⟩ | ⟨hpos, hi, hj, e1, e2⟩
  · obtain ⟨q1, q2⟩ := ratVal_int hneg
    unfold ratS
    rw [if_pos q2, q1, intS_intVal hi]
  · obtain ⟨q1, q2⟩ := ratVal_quo hpos e1 e2
    unfold ratS
    rw [if_neg (by omega), q1, q2, intS_intVal hi, intS_pos (by omega), Int.natAbs_natCast, decS_decL hj]
    exact parts_join hpos
end Go.Proofs.YtfohgkabmdhhaaaGreatDoor

namespace Go.Proofs.YtfohgkabmdhhaaaGreatDoor
open Go.RowKit Cin
set_option maxHeartbeats 800000 in
theorem rnatOf_two (w : World) : Calls Tryz.prog 92 #[.int .u64 2] w fun e w' => ∃ v', e = .returned v' ∧ RefB w' v' 2 1 ∧ Below w.heap.size w w' := by
  have hand : bits BinOp.and IntKind.u64 2 4294967295 = 2 := and_mask32 (t := 2) (by decide)
  go_enter Tryz.func92, Tryz.ntmps92
  go_wp2_with fail
  have hblk := Blk.new w 146 .u32 [2, 0]
  refine (rtrim_any _ [2, 0] _ (Sl.of_blk hblk) (Ok.cons (by decide) (Ok.cons (by decide) Ok.nil)) (by decide)).mono ?_
  rintro e w1 ⟨v1, rfl, hr, rfl⟩
  have HR := Lib.hid hr
  clear hr hblk hand
  go_wp2
  go_ret
  exact ⟨_, rfl, ⟨HR.out, by decide⟩, bel_alloc _ _⟩
set_option maxHeartbeats 800000 in
theorem rnatOf_zero (w : World) : Calls Tryz.prog 92 #[.int .u64 0] w fun e w' => ∃ v', e = .returned v' ∧ RefB w' v' 0 1 ∧ Below w.heap.size w w' := by
  have hand : bits BinOp.and IntKind.u64 0 4294967295 = 0 := and_mask32 (t := 0) (by decide)
  go_enter Tryz.func92, Tryz.ntmps92
  go_wp2_with fail
  have hblk := Blk.new w 146 .u32 [0, 0]
  refine (rtrim_any _ [0, 0] _ (Sl.of_blk hblk) (Ok.cons (by decide) (Ok.cons (by decide) Ok.nil)) (by decide)).mono ?_
  rintro e w1 ⟨v1, rfl, hr, rfl⟩
  have HR := Lib.hid hr
  clear hr hblk hand
  go_wp2
  go_ret
  exact ⟨_, rfl, ⟨HR.out, by decide⟩, bel_alloc _ _⟩
set_option maxHeartbeats 800000 in
theorem rintOf_zero (w : World) : Calls Tryz.prog 105 #[.int .i64 0] w fun e w' => ∃ v', e = .returned v' ∧ IntB 146 w' v' 0 1 ∧ Below w.heap.size w w' := by
  go_enter Tryz.func105, Tryz.ntmps105
  go_wp2_with fail
  refine (rnatOf_zero _).mono ?_
  rintro e w1 ⟨v1, rfl, hn1, hb1⟩
  obtain ⟨ad1, l1, c1, xs1, rfl, _⟩ := hn1.1.shape
  have hI : IntB 146 w1 (.agg #[.bool false, .slice ad1 l1 c1]) 0 1 := intB_of (b := false) (n := 0) hn1.1 hn1.2 rfl
  have HSL := Lib.hid (Slot.of (n := 2) ((heldN1 (w := w)).below hb1).1 rfl)
  have HRR := Lib.hid (fin_int hI HSL.out (by decide) (bel_on (bel_alloc _ _) hb1) (Nat.le_refl _))
  obtain ⟨xR, yR, hxR, hyR, hfxR, hfyR⟩ := HSL.out.two
  clear hn1 hb1 hI
  go_wp2
  refine bodyPost_ret (v := .agg #[.bool false, .slice ad1 l1 c1]) (by simp [results, Tryz.results105, go_sem, HRR.out.2.2.1, HRR.out.2.2.2]) rfl ⟨_, rfl, HRR.out.1, HRR.out.2.1⟩
instance (q : Rat) : Decidable (DyOk q) := inferInstanceAs (Decidable (_ = _))
theorem half_parts : (1 / 2 : Rat).num = 1 ∧ (1 / 2 : Rat).den = 2 := by
  refine rat_of (n := 1) (d := 2) (by decide) (by decide) ?_
  rw [Rat.mkRat_eq_div]; rfl
theorem dhalf_any (v : Value) (q : Rat) (k : Nat) (w : World) (h : DRatB w v q k) (hk : k ≤ 1000) (hk1 : 1 ≤ k) :
    Calls Tryz.prog 84 #[v] w fun r w' => ∃ v', r = .returned v' ∧ DRatB w' v' (q / 2) (k + 1) ∧ Below w.heap.size w w' := by
  obtain ⟨a, b, d, rfl, h⟩ := h
  refine go (fun w => DQ w a b d q k) [[a, b, d]] [some 3] (tr := (.em (.call 105 [.s (.k (.int .i64 1))] [some 2]) (.em (.call 92 [.s (.k (.int .u64 2))] [none]) (.em (.call 78 [.g [.c 0 0, .c 0 1, .c 0 2], .g [.c 1 0, .c 1 1, .c 2 0]] [some 3]) (.ret (.v (.g [.c 3 0, .c 3 1, .c 3 2]))))))) (by kernel_rfl) (by kernel_rfl) (by kernel_rfl) (mD _ _ _ _ _) h ⟨dpl h, trivial⟩ ?_
  refine wInt hU (fun w b _ => rintOf_one w) (fun x1 y1 => ?_)
  refine wRef hU (fun w b _ => rnatOf_two w) (fun x2 => ?_)
  refine wDQ (q := q / 2) (fun w b ⟨h2, h1, h⟩ => by
    have e : q / 2 = q * (1 / 2) := by grind
    rw [e]
    exact dmul_any _ _ q (1 / 2) k 1 w ⟨_, _, _, rfl, h⟩ ⟨_, _, _, rfl, by rw [half_parts.1]; exact h1, ⟨2, h2.1, .inl half_parts.2.symm⟩, by rw [half_parts.2]; exact h2.2⟩ (by omega) (by omega) hk1) (fun a b d => ?_)
  exact wRet fun w b ⟨h, _⟩ => ⟨_, rfl, ⟨_, _, _, rfl, h⟩, b⟩
theorem exp_num {q : Rat} : expOf q = (tzOf q.num.natAbs : Int) - (tzOf q.den : Int) := by unfold expOf; omega
theorem dofZero_any (w : World) : Calls Tryz.prog 63 #[.int .i64 0] w fun e w' => ∃ v', e = .returned v' ∧ DRatB w' v' 0 1 ∧ Below w.heap.size w w' := by
  refine go (fun _ => True) [[.int .i64 0]] [none] (tr := (.em (.call 105 [.s (.c 0 0)] [some 2]) (.em (.call 92 [.s (.k (.int .u64 1))] [none]) (.ret (.v (.g [.c 1 0, .c 1 1, .c 2 0])))))) (by kernel_rfl) (by kernel_rfl) (by kernel_rfl) Mono.true trivial ⟨rfl, trivial⟩ ?_
  refine wInt hU (fun w b _ => rintOf_zero w) (fun x1 y1 => ?_)
  refine wRef hU (fun w b _ => rnatOf_one w) (fun x2 => ?_)
  exact wRet fun w b ⟨h2, h1, _⟩ => ⟨_, rfl, ⟨_, _, _, rfl, h1, ⟨1, h2.1, .inl rfl⟩, h2.2⟩, b⟩
end Go.Proofs.YtfohgkabmdhhaaaGreatDoor

namespace Cin
open Go Go.RowKit
structure RC (A : Rat) (b M0 X Y : Nat) (p : Int) (ex : Bool) : Prop where
  hA : A * (Y : Rat) = (X : Rat) * tp (-p)
  hY : 0 < Y
  h1 : M0 * Y ≤ X
  h2 : X < (M0 + 1) * Y
  h3 : 2 ^ (b - 1) ≤ M0
  h4 : M0 < 2 ^ b
  he : ex = true ↔ M0 * Y = X
end Cin
namespace Go.Proofs.YtfohgkabmdhhaaaGreatDoor
open Go.RowKit Cin
end Go.Proofs.YtfohgkabmdhhaaaGreatDoor

namespace Go.Proofs.YtfohgkabmdhhaaaGreatDoor
open Go.RowKit Cin
theorem odd_le (q : Rat) : (oddOf q).natAbs ≤ q.num.natAbs := by
  have := Nat.div_le_self q.num.natAbs (2 ^ tzOf q.num.natAbs)
  unfold oddOf
  generalize q.num.natAbs / 2 ^ tzOf q.num.natAbs = t at *
  split <;> omega
theorem DyQ.cut {w : World} {x y : Value} {q : Rat} {k K j : Nat} (h : DyQ w x y q k K) (hn : q.num.natAbs < pw j) (hd : q.den < pw j) : DyQ w x y q j (32 * j) := by
  have t1 := tz_pw hn
  have t2 := tz_pw hd
  refine ⟨⟨h.1.1, Nat.lt_of_le_of_lt (odd_le q) hn⟩, h.2.1, ?_, ?_⟩ <;> rw [exp_num] <;> omega
theorem len_le {s : ByteArray} (h : s.size ≤ maxLen) : s.size ≤ 9223372036854775807 := Nat.le_trans h (by unfold maxLen; omega)
end Go.Proofs.YtfohgkabmdhhaaaGreatDoor
