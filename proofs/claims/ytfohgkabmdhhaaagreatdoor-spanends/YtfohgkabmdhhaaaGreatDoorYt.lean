/- Contracts of package span. -/
import Derived.Test.YtfohgkabmdhhaaaGreatDoorYg
import Derived.Test.YtfohgkabmdhhaaaGreatDoorYs
namespace Go.Proofs.YtfohgkabmdhhaaaGreatDoor
open Go.RowKit Cin
def SpQ (w : World) (a b c d a' b' c' d' : Value) (x y : Rat) (k : Nat) : Prop := QB w a b c d x k ∧ QB w a' b' c' d' y k
def SpB (w : World) (v : Value) (x y : Rat) (k : Nat) : Prop := ∃ a b c d a' b' c' d', v = .agg #[a, b, c, d, a', b', c', d'] ∧ SpQ w a b c d a' b' c' d' x y k
def DsQ (w : World) (a b d a' b' d' : Value) (x y : Rat) (k : Nat) : Prop := DQ w a b d x k ∧ DQ w a' b' d' y k
def DsB (w : World) (v : Value) (x y : Rat) (k : Nat) : Prop := ∃ a b d a' b' d', v = .agg #[a, b, d, a', b', d'] ∧ DsQ w a b d a' b' d' x y k
theorem spl {w : World} {a b c d a' b' c' d' : Value} {x y : Rat} {k : Nat} (h : SpQ w a b c d a' b' c' d' x y k) : [a, b, c, d, a', b', c', d'].all Value.oneCell' = true := by
  have p := qpl h.1
  have p' := qpl h.2
  simp only [List.all_cons, List.all_nil, Bool.and_true, Bool.and_eq_true] at p p' ⊢
  exact ⟨p.1, p.2.1, p.2.2.1, p.2.2.2, p'.1, p'.2.1, p'.2.2.1, p'.2.2.2⟩
theorem dspl {w : World} {a b d a' b' d' : Value} {x y : Rat} {k : Nat} (h : DsQ w a b d a' b' d' x y k) : [a, b, d, a', b', d'].all Value.oneCell' = true := by
  have p := dpl h.1
  have p' := dpl h.2
  simp only [List.all_cons, List.all_nil, Bool.and_true, Bool.and_eq_true] at p p' ⊢
  exact ⟨p.1, p.2.1, p.2.2, p'.1, p'.2.1, p'.2.2⟩
theorem mSp {D : TypeId → Bool} (a b c d a' b' c' d' : Value) (x y : Rat) (k : Nat) (hD : D 146 = true := by rfl) : Mono D fun w => SpQ w a b c d a' b' c' d' x y k := (mQ _ _ _ _ _ _ hD).and (mQ _ _ _ _ _ _ hD)
theorem mDs {D : TypeId → Bool} (a b d a' b' d' : Value) (x y : Rat) (k : Nat) (hD : D 146 = true := by rfl) : Mono D fun w => DsQ w a b d a' b' d' x y k := (mD _ _ _ _ _ hD).and (mD _ _ _ _ _ hD)
theorem SpQ.mono {w : World} {a b c d a' b' c' d' : Value} {x y : Rat} {k j : Nat} (h : SpQ w a b c d a' b' c' d' x y k) (hj : k ≤ j) : SpQ w a b c d a' b' c' d' x y j := ⟨h.1.mono hj, h.2.mono hj⟩
section rules
variable {w0 : World} {Post : Ending → World → Prop} {F : World → Prop} {L : LC} {E : Env} {tr : Tr} {f : FuncId} {ar : List V1} {args : Array Value}
theorem wSp {D Z : TypeId → Bool} {x y : Rat} {m : Nat}
    (hc : ∀ w, Below w0.heap.size w0 w → F w → Calls Tryz.prog f args w fun e w' => ∃ v, e = .returned v ∧ SpB w' v x y m ∧ Below w.heap.size w w')
    {E' : Value → Value → Value → Value → Value → Value → Value → Value → Env} (hk : ∀ a b c d a' b' c' d', Wk Tryz.prog w0 D Z Post L (fun w => SpQ w a b c d a' b' c' d' x y m ∧ F w) tr (E' a b c d a' b' c' d')) (ha : (ar.map (V1.den [] E)).toArray = args := by rfl)
    (hE : ∀ a b c d a' b' c' d', E ++ [[a, b, c, d, a', b', c', d']] = E' a b c d a' b' c' d' := by intros; (simp only [List.cons_append, List.nil_append]) <;> exact rfl) (hD : D 146 = true := by rfl) : Wk Tryz.prog w0 D Z Post L F (.em (.call f ar [some 8]) tr) E := by
  intro hm u hF w e b
  subst ha
  refine (hc w b (hm u w e hF)).mono ?_
  rintro e1 w' ⟨v, rfl, ⟨a, b, c, d, a', b', c', d', rfl, h1⟩, h4⟩
  exact ⟨[a, b, c, d, a', b', c', d'], rfl, spl h1, h4, hE _ _ _ _ _ _ _ _ ▸ hk _ _ _ _ _ _ _ _ ((mSp _ _ _ _ _ _ _ _ _ _ _ hD).and hm) w' ⟨h1, hm u w' (e.below h4) hF⟩⟩
theorem wSpV {D Z : TypeId → Bool} {x y : Rat} {m : Nat} {cc : Value}
    (hc : ∀ w, Below w0.heap.size w0 w → F w → Calls Tryz.prog f args w fun e w' => ∃ v, e = .returned (.tuple #[v, cc]) ∧ SpB w' v x y m ∧ Below w.heap.size w w') (hv : cc.oneCell' = true)
    {E' : Value → Value → Value → Value → Value → Value → Value → Value → Env} (hk : ∀ a b c d a' b' c' d', Wk Tryz.prog w0 D Z Post L (fun w => SpQ w a b c d a' b' c' d' x y m ∧ F w) tr (E' a b c d a' b' c' d')) (ha : (ar.map (V1.den [] E)).toArray = args := by rfl)
    (hE : ∀ a b c d a' b' c' d', E ++ [[a, b, c, d, a', b', c', d', cc]] = E' a b c d a' b' c' d' := by intros; (simp only [List.cons_append, List.nil_append]) <;> exact rfl) (hD : D 146 = true := by rfl) : Wk Tryz.prog w0 D Z Post L F (.em (.call f ar [some 8, none]) tr) E := by
  intro hm u hF w e b
  subst ha
  refine (hc w b (hm u w e hF)).mono ?_
  rintro e1 w' ⟨v, rfl, ⟨a, b, c, d, a', b', c', d', rfl, h1⟩, h4⟩
  exact ⟨[a, b, c, d, a', b', c', d', cc], rfl, by have p := spl h1; simp only [List.all_cons, List.all_nil, Bool.and_true, Bool.and_eq_true] at p ⊢; exact ⟨p.1, p.2.1, p.2.2.1, p.2.2.2.1, p.2.2.2.2.1, p.2.2.2.2.2.1, p.2.2.2.2.2.2.1, p.2.2.2.2.2.2.2, hv⟩, h4, hE _ _ _ _ _ _ _ _ ▸ hk _ _ _ _ _ _ _ _ ((mSp _ _ _ _ _ _ _ _ _ _ _ hD).and hm) w' ⟨h1, hm u w' (e.below h4) hF⟩⟩
theorem wDsV {D Z : TypeId → Bool} {x y : Rat} {m : Nat} {cc : Value}
    (hc : ∀ w, Below w0.heap.size w0 w → F w → Calls Tryz.prog f args w fun e w' => ∃ v, e = .returned (.tuple #[v, cc]) ∧ DsB w' v x y m ∧ Below w.heap.size w w') (hv : cc.oneCell' = true)
    {E' : Value → Value → Value → Value → Value → Value → Env} (hk : ∀ a b d a' b' d', Wk Tryz.prog w0 D Z Post L (fun w => DsQ w a b d a' b' d' x y m ∧ F w) tr (E' a b d a' b' d')) (ha : (ar.map (V1.den [] E)).toArray = args := by rfl)
    (hE : ∀ a b d a' b' d', E ++ [[a, b, d, a', b', d', cc]] = E' a b d a' b' d' := by intros; (simp only [List.cons_append, List.nil_append]) <;> exact rfl) (hD : D 146 = true := by rfl) : Wk Tryz.prog w0 D Z Post L F (.em (.call f ar [some 6, none]) tr) E := by
  intro hm u hF w e b
  subst ha
  refine (hc w b (hm u w e hF)).mono ?_
  rintro e1 w' ⟨v, rfl, ⟨a, b, d, a', b', d', rfl, h1⟩, h4⟩
  exact ⟨[a, b, d, a', b', d', cc], rfl, by have p := dspl h1; simp only [List.all_cons, List.all_nil, Bool.and_true, Bool.and_eq_true] at p ⊢; exact ⟨p.1, p.2.1, p.2.2.1, p.2.2.2.1, p.2.2.2.2.1, p.2.2.2.2.2, hv⟩, h4, hE _ _ _ _ _ _ ▸ hk _ _ _ _ _ _ ((mDs _ _ _ _ _ _ _ _ _ hD).and hm) w' ⟨h1, hm u w' (e.below h4) hF⟩⟩
theorem wBothS {D Z : TypeId → Bool} {x y : Rat} {m : Nat} {cc : Value}
    (hc : ∀ w, Below w0.heap.size w0 w → F w → Calls Tryz.prog f args w fun e w' => ∃ v v', e = .returned (.tuple #[v, v', cc]) ∧ SpB w' v x y m ∧ DsB w' v' x y m ∧ Below w.heap.size w w') (hv : cc.oneCell' = true)
    {E' : Value → Value → Value → Value → Value → Value → Value → Value → Value → Value → Value → Value → Value → Value → Env} (hk : ∀ a b c d a' b' c' d' s t r s' t' r', Wk Tryz.prog w0 D Z Post L (fun w => SpQ w a b c d a' b' c' d' x y m ∧ DsQ w s t r s' t' r' x y m ∧ F w) tr (E' a b c d a' b' c' d' s t r s' t' r')) (ha : (ar.map (V1.den [] E)).toArray = args := by rfl)
    (hE : ∀ a b c d a' b' c' d' s t r s' t' r', E ++ [[a, b, c, d, a', b', c', d', s, t, r, s', t', r', cc]] = E' a b c d a' b' c' d' s t r s' t' r' := by intros; (simp only [List.cons_append, List.nil_append]) <;> exact rfl) (hD : D 146 = true := by rfl) : Wk Tryz.prog w0 D Z Post L F (.em (.call f ar [some 8, some 6, none]) tr) E := by
  intro hm u hF w e b
  subst ha
  refine (hc w b (hm u w e hF)).mono ?_
  rintro e1 w' ⟨v, v', rfl, ⟨a, b, c, d, a', b', c', d', rfl, h1⟩, ⟨s, t, r, s', t', r', rfl, h2⟩, h4⟩
  exact ⟨[a, b, c, d, a', b', c', d', s, t, r, s', t', r', cc], rfl, by have p := spl h1; have q := dspl h2; simp only [List.all_cons, List.all_nil, Bool.and_true, Bool.and_eq_true] at p q ⊢; exact ⟨p.1, p.2.1, p.2.2.1, p.2.2.2.1, p.2.2.2.2.1, p.2.2.2.2.2.1, p.2.2.2.2.2.2.1, p.2.2.2.2.2.2.2, q.1, q.2.1, q.2.2.1, q.2.2.2.1, q.2.2.2.2.1, q.2.2.2.2.2, hv⟩, h4, hE _ _ _ _ _ _ _ _ _ _ _ _ _ _ ▸ hk _ _ _ _ _ _ _ _ _ _ _ _ _ _ ((mSp _ _ _ _ _ _ _ _ _ _ _ hD).and ((mDs _ _ _ _ _ _ _ _ _ hD).and hm)) w' ⟨h1, h2, hm u w' (e.below h4) hF⟩⟩
end rules
theorem num_le0 (q : Rat) : q.num ≤ 0 ↔ q ≤ 0 := by
  have h := Rat.num_nonneg (q := -q)
  rw [Rat.neg_num] at h
  constructor
  · intro e; have := h.1 (by omega); grind
  · intro e; have := h.2 (by grind); omega
theorem num_lt0 (q : Rat) : q.num < 0 ↔ q < 0 := by
  have h := Rat.num_nonneg (q := q)
  rw [← Rat.not_le, ← h]; omega
theorem num_gt0 (q : Rat) : 0 < q.num ↔ 0 < q := by
  have h := num_le0 q
  rw [← Rat.not_le, ← h]; omega
theorem sg_lt (q : Rat) : decide (sgnZ q.num < 0) = decide (q < 0) := by
  have := num_lt0 q
  unfold sgnZ
  split
  · simp_all
  · split <;> simp_all
theorem sg_gt (q : Rat) : decide (0 < sgnZ q.num) = decide (0 < q) := by
  have h := num_gt0 q
  unfold sgnZ
  split
  · rw [decide_eq_false (by omega), decide_eq_false (by rw [← h]; omega)]
  · split
    · rw [decide_eq_true (by omega), decide_eq_true (by rw [← h]; omega)]
    · rw [decide_eq_false (by omega), decide_eq_false (by rw [← h]; omega)]
theorem sgT_lt {q : Rat} (e : decide (sgnZ q.num < 0) = true) : q < 0 := by rw [sg_lt] at e; simpa using e
theorem sgF_lt {q : Rat} (e : decide (sgnZ q.num < 0) = false) : 0 ≤ q := by rw [sg_lt] at e; have : ¬ q < 0 := (by simpa using e); grind
theorem sgT_gt {q : Rat} (e : decide (0 < sgnZ q.num) = true) : 0 < q := by rw [sg_gt] at e; simpa using e
theorem sgF_gt {q : Rat} (e : decide (0 < sgnZ q.num) = false) : q ≤ 0 := by rw [sg_gt] at e; have : ¬ 0 < q := (by simpa using e); grind
theorem sgT_ge {q : Rat} (e : decide (0 ≤ sgnZ q.num) = true) : 0 ≤ q := sgF_lt (by have : 0 ≤ sgnZ q.num := (by simpa using e); simp; omega)
theorem sgF_ge {q : Rat} (e : decide (0 ≤ sgnZ q.num) = false) : q < 0 := sgT_lt (by have : ¬ 0 ≤ sgnZ q.num := (by simpa using e); simp; omega)
theorem sgT_le {q : Rat} (e : decide (sgnZ q.num ≤ 0) = true) : q ≤ 0 := sgF_gt (by have : sgnZ q.num ≤ 0 := (by simpa using e); simp; omega)
theorem sgF_le {q : Rat} (e : decide (sgnZ q.num ≤ 0) = false) : 0 < q := sgT_gt (by have : ¬ sgnZ q.num ≤ 0 := (by simpa using e); simp; omega)
theorem v_le (x y : Rat) : decide (cmpQ x y ≤ 0) = decide (x ≤ y) := by
  unfold cmpQ
  split
  · rw [decide_eq_true (by decide), decide_eq_true (by grind)]
  · split
    · rw [decide_eq_false (by decide), decide_eq_false (by grind)]
    · rw [decide_eq_true (by decide), decide_eq_true (by grind)]
theorem v_ge (x y : Rat) : decide (0 ≤ cmpQ x y) = decide (y ≤ x) := by
  unfold cmpQ
  split
  · rw [decide_eq_false (by decide), decide_eq_false (by grind)]
  · split
    · rw [decide_eq_true (by decide), decide_eq_true (by grind)]
    · rw [decide_eq_true (by decide), decide_eq_true (by grind)]
theorem v_gt (x y : Rat) : decide (0 < cmpQ x y) = decide (y < x) := by
  unfold cmpQ
  split
  · rw [decide_eq_false (by decide), decide_eq_false (by grind)]
  · split
    · rw [decide_eq_true (by decide), decide_eq_true (by grind)]
    · rw [decide_eq_false (by decide), decide_eq_false (by grind)]
theorem v_eq (x y : Rat) : (cmpQ x y == 0) = decide (x = y) := by
  unfold cmpQ
  split
  · rw [decide_eq_false (by grind)]; rfl
  · split
    · rw [decide_eq_false (by grind)]; rfl
    · rw [decide_eq_true (by grind)]; rfl
theorem cT_le {x y : Rat} (e : decide (cmpQ x y ≤ 0) = true) : x ≤ y := by rw [v_le] at e; simpa using e
theorem cF_le {x y : Rat} (e : decide (cmpQ x y ≤ 0) = false) : y < x := by rw [v_le] at e; have : ¬ x ≤ y := (by simpa using e); grind
theorem cT_ge {x y : Rat} (e : decide (0 ≤ cmpQ x y) = true) : y ≤ x := by rw [v_ge] at e; simpa using e
theorem cF_ge {x y : Rat} (e : decide (0 ≤ cmpQ x y) = false) : x < y := by rw [v_ge] at e; have : ¬ y ≤ x := (by simpa using e); grind
theorem sfresh_any (v : Value) (q : Rat) (k : Nat) (w : World) (h : RatB w v q k) (hk : k ≤ 1000000) :
    Calls Tryz.prog 66 #[v] w fun e w' => ∃ v', e = .returned v' ∧ RatB w' v' q k ∧ Below w.heap.size w w' := by
  obtain ⟨a, b, c, d, rfl, h⟩ := h
  refine go (fun w => QB w a b c d q k) [[a, b, c, d]] [some 4] (tr := (.em (.call 79 [.g [.c 0 0, .c 0 1, .c 0 2, .c 0 3]] [some 4]) (.em (.call 79 [.g [.c 1 0, .c 1 1, .c 1 2, .c 1 3]] [some 4]) (.ret (.v (.g [.c 2 0, .c 2 1, .c 2 2, .c 2 3])))))) (by kernel_rfl) (by kernel_rfl) (by kernel_rfl) (mQ _ _ _ _ _ _) h ⟨qpl h, trivial⟩ ?_
  refine wRat (fun w b h => qneg_any _ q k w ⟨_, _, _, _, rfl, h⟩ hk) (fun _ _ _ _ => ?_)
  refine wRat (fun w b ⟨h, _⟩ => qneg_any _ (-q) k w ⟨_, _, _, _, rfl, h⟩ hk) (fun _ _ _ _ => ?_)
  exact wRet fun w b ⟨h, _⟩ => ⟨_, rfl, ⟨_, _, _, _, rfl, by rwa [Rat.neg_neg] at h⟩, b⟩
theorem lesser_any (v u : Value) (x y : Rat) (k : Nat) (w : World) (h : RatB w v x k) (h' : RatB w u y k) (hk : k ≤ 1000000) :
    Calls Tryz.prog 76 #[v, u] w fun e w' => ∃ v', e = .returned v' ∧ RatB w' v' (mn x y) k ∧ Below w.heap.size w w' := by
  obtain ⟨a, b, c, d, rfl, h⟩ := h
  obtain ⟨a', b', c', d', rfl, h'⟩ := h'
  refine go (fun w => QB w a b c d x k ∧ QB w a' b' c' d' y k) [[a, b, c, d], [a', b', c', d']] [some 4, some 4] (tr := (.em (.call 60 [.g [.c 0 0, .c 0 1, .c 0 2, .c 0 3], .g [.c 1 0, .c 1 1, .c 1 2, .c 1 3]] [none]) (.em (.pr (.binOp .leq 3 (.tmp 0) (.const (.int .i64 0)) 3) 4 [.s (.c 2 0), .s (.k (.int .i64 0))]) (.cond (.c 3 0) (.ret (.v (.g [.c 0 0, .c 0 1, .c 0 2, .c 0 3]))) (.ret (.v (.g [.c 1 0, .c 1 1, .c 1 2, .c 1 3]))))))) (by kernel_rfl) (by kernel_rfl) (by kernel_rfl) ((mQ _ _ _ _ _ _).and (mQ _ _ _ _ _ _)) ⟨h, h'⟩ ⟨qpl h, qpl h', trivial⟩ ?_
  refine wVal (fun w b ⟨h, h'⟩ => qcmp_any _ _ x y k k w ⟨_, _, _, _, rfl, h⟩ ⟨_, _, _, _, rfl, h'⟩ hk hk) rfl ?_
  refine wPr (prLe rfl rfl) rfl ?_
  refine wIf _ rfl (fun e => ?_) (fun e => ?_)
  · exact wRet fun w b ⟨h, _⟩ => ⟨_, rfl, ⟨_, _, _, _, rfl, by rw [mn_of (cT_le e)]; exact h⟩, b⟩
  · exact wRet fun w b ⟨_, h⟩ => ⟨_, rfl, ⟨_, _, _, _, rfl, by rw [mn_of' (Rat.le_of_lt (cF_le e))]; exact h⟩, b⟩
theorem greater_any (v u : Value) (x y : Rat) (k : Nat) (w : World) (h : RatB w v x k) (h' : RatB w u y k) (hk : k ≤ 1000000) :
    Calls Tryz.prog 77 #[v, u] w fun e w' => ∃ v', e = .returned v' ∧ RatB w' v' (mx x y) k ∧ Below w.heap.size w w' := by
  obtain ⟨a, b, c, d, rfl, h⟩ := h
  obtain ⟨a', b', c', d', rfl, h'⟩ := h'
  refine go (fun w => QB w a b c d x k ∧ QB w a' b' c' d' y k) [[a, b, c, d], [a', b', c', d']] [some 4, some 4] (tr := (.em (.call 60 [.g [.c 0 0, .c 0 1, .c 0 2, .c 0 3], .g [.c 1 0, .c 1 1, .c 1 2, .c 1 3]] [none]) (.em (.pr (.binOp .geq 3 (.tmp 0) (.const (.int .i64 0)) 3) 4 [.s (.c 2 0), .s (.k (.int .i64 0))]) (.cond (.c 3 0) (.ret (.v (.g [.c 0 0, .c 0 1, .c 0 2, .c 0 3]))) (.ret (.v (.g [.c 1 0, .c 1 1, .c 1 2, .c 1 3]))))))) (by kernel_rfl) (by kernel_rfl) (by kernel_rfl) ((mQ _ _ _ _ _ _).and (mQ _ _ _ _ _ _)) ⟨h, h'⟩ ⟨qpl h, qpl h', trivial⟩ ?_
  refine wVal (fun w b ⟨h, h'⟩ => qcmp_any _ _ x y k k w ⟨_, _, _, _, rfl, h⟩ ⟨_, _, _, _, rfl, h'⟩ hk hk) rfl ?_
  refine wPr (prGe rfl rfl) rfl ?_
  refine wIf _ rfl (fun e => ?_) (fun e => ?_)
  · exact wRet fun w b ⟨h, _⟩ => ⟨_, rfl, ⟨_, _, _, _, rfl, by rw [mx_of' (cT_ge e)]; exact h⟩, b⟩
  · exact wRet fun w b ⟨_, h⟩ => ⟨_, rfl, ⟨_, _, _, _, rfl, by rw [mx_of (Rat.le_of_lt (cF_ge e))]; exact h⟩, b⟩
theorem snewY (v u : Value) (x y : Rat) (k : Nat) (w : World) (h : RatB w v x k) (h' : RatB w u y k) (hk : k ≤ 1000000) (hl : x ≤ y) :
    Calls Tryz.prog 16 #[v, u] w fun e w' => ∃ v', e = .returned (.tuple #[v', .bool true]) ∧ SpB w' v' x y k ∧ Below w.heap.size w w' := by
  obtain ⟨a, b, c, d, rfl, h⟩ := h
  obtain ⟨a', b', c', d', rfl, h'⟩ := h'
  refine go (fun w => QB w a b c d x k ∧ QB w a' b' c' d' y k) [[a, b, c, d], [a', b', c', d']] [some 4, some 4] (tr := (.em (.call 60 [.g [.c 0 0, .c 0 1, .c 0 2, .c 0 3], .g [.c 1 0, .c 1 1, .c 1 2, .c 1 3]] [none]) (.em (.pr (.binOp .gtr 3 (.tmp 0) (.const (.int .i64 0)) 3) 4 [.s (.c 2 0), .s (.k (.int .i64 0))]) (.cond (.c 3 0) (.ret (.t [.g [.k (.bool false), .k (.slice none 0 0), .k (.bool false), .k (.slice none 0 0), .k (.bool false), .k (.slice none 0 0), .k (.bool false), .k (.slice none 0 0)], .s (.k (.bool false))])) (.em (.call 66 [.g [.c 0 0, .c 0 1, .c 0 2, .c 0 3]] [some 4]) (.em (.call 66 [.g [.c 1 0, .c 1 1, .c 1 2, .c 1 3]] [some 4]) (.ret (.t [.g [.c 4 0, .c 4 1, .c 4 2, .c 4 3, .c 5 0, .c 5 1, .c 5 2, .c 5 3], .s (.k (.bool true))])))))))) (by kernel_rfl) (by kernel_rfl) (by kernel_rfl) ((mQ _ _ _ _ _ _).and (mQ _ _ _ _ _ _)) ⟨h, h'⟩ ⟨qpl h, qpl h', trivial⟩ ?_
  refine wVal (fun w b ⟨h, h'⟩ => qcmp_any _ _ x y k k w ⟨_, _, _, _, rfl, h⟩ ⟨_, _, _, _, rfl, h'⟩ hk hk) rfl ?_
  refine wPr (prGt rfl rfl) rfl ?_
  refine wFalse (by show Value.bool (decide _) = _; rw [v_gt, decide_eq_false (by grind)]) ?_
  refine wRat (fun w b ⟨h, _⟩ => sfresh_any _ x k w ⟨_, _, _, _, rfl, h⟩ hk) (fun _ _ _ _ => ?_)
  refine wRat (fun w b ⟨_, _, h⟩ => sfresh_any _ y k w ⟨_, _, _, _, rfl, h⟩ hk) (fun _ _ _ _ => ?_)
  exact wRet fun w b ⟨h2, h1, _⟩ => ⟨_, rfl, ⟨_, _, _, _, _, _, _, _, rfl, h1, h2⟩, b⟩
def ZeroS : List Value := [.bool false, .slice none 0 0, .bool false, .slice none 0 0, .bool false, .slice none 0 0, .bool false, .slice none 0 0]
theorem turn_any (v : Value) (x y : Rat) (k : Nat) (w : World) (h : SpB w v x y k) (hk : k ≤ 1000000) :
    Calls Tryz.prog 75 #[v] w fun e w' => ∃ v', e = .returned v' ∧ SpB w' v' (-y) (-x) k ∧ Below w.heap.size w w' := by
  obtain ⟨a, b, c, d, a', b', c', d', rfl, h⟩ := h
  refine go (fun w => SpQ w a b c d a' b' c' d' x y k) [[a, b, c, d, a', b', c', d']] [some 8] (tr := (.em (.call 79 [.g [.c 0 4, .c 0 5, .c 0 6, .c 0 7]] [some 4]) (.em (.call 79 [.g [.c 0 0, .c 0 1, .c 0 2, .c 0 3]] [some 4]) (.ret (.v (.g [.c 1 0, .c 1 1, .c 1 2, .c 1 3, .c 2 0, .c 2 1, .c 2 2, .c 2 3])))))) (by kernel_rfl) (by kernel_rfl) (by kernel_rfl) (mSp _ _ _ _ _ _ _ _ _ _ _) h ⟨spl h, trivial⟩ ?_
  refine wRat (fun w b h => qneg_any _ y k w ⟨_, _, _, _, rfl, h.2⟩ hk) (fun _ _ _ _ => ?_)
  refine wRat (fun w b ⟨_, h⟩ => qneg_any _ x k w ⟨_, _, _, _, rfl, h.1⟩ hk) (fun _ _ _ _ => ?_)
  exact wRet fun w b ⟨h2, h1, _⟩ => ⟨_, rfl, ⟨_, _, _, _, _, _, _, _, rfl, h1, h2⟩, b⟩
theorem smulz_any (v u : Value) (x y x' y' : Rat) (k j : Nat) (w : World) (h : SpB w v x y k) (h' : SpB w u x' y' j) (hk : k ≤ 100000) (hj : j ≤ 100000) (h0 : 0 ≤ x) (hl : x ≤ y) (hl' : x' ≤ y') :
    Calls Tryz.prog 74 #[v, u] w fun e w' => ∃ v', e = .returned v' ∧ SpB w' v' (mLo x y x' y') (mHi x y x' y') (k + j) ∧ Below w.heap.size w w' := by
  obtain ⟨a, b, c, d, a', b', c', d', rfl, h⟩ := h
  obtain ⟨p, q, r, s, p', q', r', s', rfl, h'⟩ := h'
  refine go (fun w => SpQ w a b c d a' b' c' d' x y k ∧ SpQ w p q r s p' q' r' s' x' y' j) [[a, b, c, d, a', b', c', d'], [p, q, r, s, p', q', r', s']] [some 8, some 8] (tr := (.em (.call 61 [.g [.c 1 0, .c 1 1, .c 1 2, .c 1 3]] [none]) (.em (.pr (.binOp .lss 3 (.tmp 0) (.const (.int .i64 0)) 3) 4 [.s (.c 2 0), .s (.k (.int .i64 0))]) (.cond (.c 3 0) (.em (.call 61 [.g [.c 1 4, .c 1 5, .c 1 6, .c 1 7]] [none]) (.em (.pr (.binOp .lss 3 (.tmp 0) (.const (.int .i64 0)) 3) 4 [.s (.c 4 0), .s (.k (.int .i64 0))]) (.cond (.c 5 0) (.em (.call 58 [.g [.c 0 4, .c 0 5, .c 0 6, .c 0 7], .g [.c 1 0, .c 1 1, .c 1 2, .c 1 3]] [some 4]) (.em (.call 58 [.g [.c 0 0, .c 0 1, .c 0 2, .c 0 3], .g [.c 1 4, .c 1 5, .c 1 6, .c 1 7]] [some 4]) (.ret (.v (.g [.c 6 0, .c 6 1, .c 6 2, .c 6 3, .c 7 0, .c 7 1, .c 7 2, .c 7 3]))))) (.em (.call 58 [.g [.c 0 4, .c 0 5, .c 0 6, .c 0 7], .g [.c 1 0, .c 1 1, .c 1 2, .c 1 3]] [some 4]) (.em (.call 58 [.g [.c 0 4, .c 0 5, .c 0 6, .c 0 7], .g [.c 1 4, .c 1 5, .c 1 6, .c 1 7]] [some 4]) (.ret (.v (.g [.c 6 0, .c 6 1, .c 6 2, .c 6 3, .c 7 0, .c 7 1, .c 7 2, .c 7 3])))))))) (.em (.call 61 [.g [.c 1 4, .c 1 5, .c 1 6, .c 1 7]] [none]) (.em (.pr (.binOp .lss 3 (.tmp 0) (.const (.int .i64 0)) 3) 4 [.s (.c 4 0), .s (.k (.int .i64 0))]) (.cond (.c 5 0) (.em (.call 58 [.g [.c 0 0, .c 0 1, .c 0 2, .c 0 3], .g [.c 1 0, .c 1 1, .c 1 2, .c 1 3]] [some 4]) (.em (.call 58 [.g [.c 0 0, .c 0 1, .c 0 2, .c 0 3], .g [.c 1 4, .c 1 5, .c 1 6, .c 1 7]] [some 4]) (.ret (.v (.g [.c 6 0, .c 6 1, .c 6 2, .c 6 3, .c 7 0, .c 7 1, .c 7 2, .c 7 3]))))) (.em (.call 58 [.g [.c 0 0, .c 0 1, .c 0 2, .c 0 3], .g [.c 1 0, .c 1 1, .c 1 2, .c 1 3]] [some 4]) (.em (.call 58 [.g [.c 0 4, .c 0 5, .c 0 6, .c 0 7], .g [.c 1 4, .c 1 5, .c 1 6, .c 1 7]] [some 4]) (.ret (.v (.g [.c 6 0, .c 6 1, .c 6 2, .c 6 3, .c 7 0, .c 7 1, .c 7 2, .c 7 3])))))))))))) (by kernel_rfl) (by kernel_rfl) (by kernel_rfl) ((mSp _ _ _ _ _ _ _ _ _ _ _).and (mSp _ _ _ _ _ _ _ _ _ _ _)) ⟨h, h'⟩ ⟨spl h, spl h', trivial⟩ ?_
  obtain ⟨z1, z2⟩ := mul_fz h0 hl hl'
  rw [← z1, ← z2]
  refine wVal (fun w b ⟨_, h⟩ => qsign_any _ x' j w ⟨_, _, _, _, rfl, h.1⟩ (by omega)) rfl ?_
  refine wPr (prLt rfl rfl) rfl ?_
  refine wIf _ rfl (fun e => ?_) (fun e => ?_)
  · have s1 := sgT_lt e
    rw [if_pos s1]
    refine wVal (fun w b ⟨_, h⟩ => qsign_any _ y' j w ⟨_, _, _, _, rfl, h.2⟩ (by omega)) rfl ?_
    refine wPr (prLt rfl rfl) rfl ?_
    refine wIf _ rfl (fun e => ?_) (fun e => ?_)
    · have s2 := sgT_lt e
      rw [if_pos s2]
      refine wRat (fun w b ⟨h, h'⟩ => qmul_any _ _ y x' k j w ⟨_, _, _, _, rfl, h.2⟩ ⟨_, _, _, _, rfl, h'.1⟩ (by omega) (by omega)) (fun _ _ _ _ => ?_)
      refine wRat (fun w b ⟨_, h, h'⟩ => qmul_any _ _ x y' k j w ⟨_, _, _, _, rfl, h.1⟩ ⟨_, _, _, _, rfl, h'.2⟩ (by omega) (by omega)) (fun _ _ _ _ => ?_)
      exact wRet fun w b ⟨h2, h1, _⟩ => ⟨_, rfl, ⟨_, _, _, _, _, _, _, _, rfl, h1, h2⟩, b⟩
    · have s2 := sgF_lt e
      rw [if_neg (by grind : ¬ y' < 0)]
      refine wRat (fun w b ⟨h, h'⟩ => qmul_any _ _ y x' k j w ⟨_, _, _, _, rfl, h.2⟩ ⟨_, _, _, _, rfl, h'.1⟩ (by omega) (by omega)) (fun _ _ _ _ => ?_)
      refine wRat (fun w b ⟨_, h, h'⟩ => qmul_any _ _ y y' k j w ⟨_, _, _, _, rfl, h.2⟩ ⟨_, _, _, _, rfl, h'.2⟩ (by omega) (by omega)) (fun _ _ _ _ => ?_)
      exact wRet fun w b ⟨h2, h1, _⟩ => ⟨_, rfl, ⟨_, _, _, _, _, _, _, _, rfl, h1, h2⟩, b⟩
  · have s1 := sgF_lt e
    rw [if_neg (by grind : ¬ x' < 0)]
    refine wVal (fun w b ⟨_, h⟩ => qsign_any _ y' j w ⟨_, _, _, _, rfl, h.2⟩ (by omega)) rfl ?_
    refine wPr (prLt rfl rfl) rfl ?_
    refine wIf _ rfl (fun e => ?_) (fun e => ?_)
    · have s2 := sgT_lt e
      rw [if_pos s2]
      refine wRat (fun w b ⟨h, h'⟩ => qmul_any _ _ x x' k j w ⟨_, _, _, _, rfl, h.1⟩ ⟨_, _, _, _, rfl, h'.1⟩ (by omega) (by omega)) (fun _ _ _ _ => ?_)
      refine wRat (fun w b ⟨_, h, h'⟩ => qmul_any _ _ x y' k j w ⟨_, _, _, _, rfl, h.1⟩ ⟨_, _, _, _, rfl, h'.2⟩ (by omega) (by omega)) (fun _ _ _ _ => ?_)
      exact wRet fun w b ⟨h2, h1, _⟩ => ⟨_, rfl, ⟨_, _, _, _, _, _, _, _, rfl, h1, h2⟩, b⟩
    · have s2 := sgF_lt e
      rw [if_neg (by grind : ¬ y' < 0)]
      refine wRat (fun w b ⟨h, h'⟩ => qmul_any _ _ x x' k j w ⟨_, _, _, _, rfl, h.1⟩ ⟨_, _, _, _, rfl, h'.1⟩ (by omega) (by omega)) (fun _ _ _ _ => ?_)
      refine wRat (fun w b ⟨_, h, h'⟩ => qmul_any _ _ y y' k j w ⟨_, _, _, _, rfl, h.2⟩ ⟨_, _, _, _, rfl, h'.2⟩ (by omega) (by omega)) (fun _ _ _ _ => ?_)
      exact wRet fun w b ⟨h2, h1, _⟩ => ⟨_, rfl, ⟨_, _, _, _, _, _, _, _, rfl, h1, h2⟩, b⟩
set_option maxHeartbeats 2000000 in
theorem smul_any (v u : Value) (x y x' y' : Rat) (k j : Nat) (w : World) (h : SpB w v x y k) (h' : SpB w u x' y' j) (hk : k ≤ 100000) (hj : j ≤ 100000) (hl : x ≤ y) (hl' : x' ≤ y') :
    Calls Tryz.prog 28 #[v, u] w fun e w' => ∃ v', e = .returned v' ∧ SpB w' v' (mLo x y x' y') (mHi x y x' y') (k + j) ∧ Below w.heap.size w w' := by
  obtain ⟨a, b, c, d, a', b', c', d', rfl, h⟩ := h
  obtain ⟨p, q, r, s, p', q', r', s', rfl, h'⟩ := h'
  refine go (fun w => SpQ w a b c d a' b' c' d' x y k ∧ SpQ w p q r s p' q' r' s' x' y' j) [[a, b, c, d, a', b', c', d'], [p, q, r, s, p', q', r', s']] [some 8, some 8] (tr := (.em (.call 61 [.g [.c 0 0, .c 0 1, .c 0 2, .c 0 3]] [none]) (.em (.pr (.binOp .geq 3 (.tmp 0) (.const (.int .i64 0)) 3) 4 [.s (.c 2 0), .s (.k (.int .i64 0))]) (.cond (.c 3 0) (.em (.call 74 [.g [.c 0 0, .c 0 1, .c 0 2, .c 0 3, .c 0 4, .c 0 5, .c 0 6, .c 0 7], .g [.c 1 0, .c 1 1, .c 1 2, .c 1 3, .c 1 4, .c 1 5, .c 1 6, .c 1 7]] [some 8]) (.ret (.v (.g [.c 4 0, .c 4 1, .c 4 2, .c 4 3, .c 4 4, .c 4 5, .c 4 6, .c 4 7])))) (.em (.call 61 [.g [.c 1 0, .c 1 1, .c 1 2, .c 1 3]] [none]) (.em (.pr (.binOp .geq 3 (.tmp 0) (.const (.int .i64 0)) 3) 4 [.s (.c 4 0), .s (.k (.int .i64 0))]) (.cond (.c 5 0) (.em (.call 74 [.g [.c 1 0, .c 1 1, .c 1 2, .c 1 3, .c 1 4, .c 1 5, .c 1 6, .c 1 7], .g [.c 0 0, .c 0 1, .c 0 2, .c 0 3, .c 0 4, .c 0 5, .c 0 6, .c 0 7]] [some 8]) (.ret (.v (.g [.c 6 0, .c 6 1, .c 6 2, .c 6 3, .c 6 4, .c 6 5, .c 6 6, .c 6 7])))) (.em (.call 61 [.g [.c 0 4, .c 0 5, .c 0 6, .c 0 7]] [none]) (.em (.pr (.binOp .leq 3 (.tmp 0) (.const (.int .i64 0)) 3) 4 [.s (.c 6 0), .s (.k (.int .i64 0))]) (.cond (.c 7 0) (.em (.call 75 [.g [.c 0 0, .c 0 1, .c 0 2, .c 0 3, .c 0 4, .c 0 5, .c 0 6, .c 0 7]] [some 8]) (.em (.call 74 [.g [.c 8 0, .c 8 1, .c 8 2, .c 8 3, .c 8 4, .c 8 5, .c 8 6, .c 8 7], .g [.c 1 0, .c 1 1, .c 1 2, .c 1 3, .c 1 4, .c 1 5, .c 1 6, .c 1 7]] [some 8]) (.em (.call 75 [.g [.c 9 0, .c 9 1, .c 9 2, .c 9 3, .c 9 4, .c 9 5, .c 9 6, .c 9 7]] [some 8]) (.ret (.v (.g [.c 10 0, .c 10 1, .c 10 2, .c 10 3, .c 10 4, .c 10 5, .c 10 6, .c 10 7])))))) (.em (.call 61 [.g [.c 1 4, .c 1 5, .c 1 6, .c 1 7]] [none]) (.em (.pr (.binOp .leq 3 (.tmp 0) (.const (.int .i64 0)) 3) 4 [.s (.c 8 0), .s (.k (.int .i64 0))]) (.cond (.c 9 0) (.em (.call 75 [.g [.c 1 0, .c 1 1, .c 1 2, .c 1 3, .c 1 4, .c 1 5, .c 1 6, .c 1 7]] [some 8]) (.em (.call 74 [.g [.c 10 0, .c 10 1, .c 10 2, .c 10 3, .c 10 4, .c 10 5, .c 10 6, .c 10 7], .g [.c 0 0, .c 0 1, .c 0 2, .c 0 3, .c 0 4, .c 0 5, .c 0 6, .c 0 7]] [some 8]) (.em (.call 75 [.g [.c 11 0, .c 11 1, .c 11 2, .c 11 3, .c 11 4, .c 11 5, .c 11 6, .c 11 7]] [some 8]) (.ret (.v (.g [.c 12 0, .c 12 1, .c 12 2, .c 12 3, .c 12 4, .c 12 5, .c 12 6, .c 12 7])))))) (.em (.call 58 [.g [.c 0 0, .c 0 1, .c 0 2, .c 0 3], .g [.c 1 4, .c 1 5, .c 1 6, .c 1 7]] [some 4]) (.em (.call 58 [.g [.c 0 4, .c 0 5, .c 0 6, .c 0 7], .g [.c 1 0, .c 1 1, .c 1 2, .c 1 3]] [some 4]) (.em (.call 76 [.g [.c 10 0, .c 10 1, .c 10 2, .c 10 3], .g [.c 11 0, .c 11 1, .c 11 2, .c 11 3]] [some 4]) (.em (.call 58 [.g [.c 0 0, .c 0 1, .c 0 2, .c 0 3], .g [.c 1 0, .c 1 1, .c 1 2, .c 1 3]] [some 4]) (.em (.call 58 [.g [.c 0 4, .c 0 5, .c 0 6, .c 0 7], .g [.c 1 4, .c 1 5, .c 1 6, .c 1 7]] [some 4]) (.em (.call 77 [.g [.c 13 0, .c 13 1, .c 13 2, .c 13 3], .g [.c 14 0, .c 14 1, .c 14 2, .c 14 3]] [some 4]) (.ret (.v (.g [.c 12 0, .c 12 1, .c 12 2, .c 12 3, .c 15 0, .c 15 1, .c 15 2, .c 15 3])))))))))))))))))))))) (by kernel_rfl) (by kernel_rfl) (by kernel_rfl) ((mSp _ _ _ _ _ _ _ _ _ _ _).and (mSp _ _ _ _ _ _ _ _ _ _ _)) ⟨h, h'⟩ ⟨spl h, spl h', trivial⟩ ?_
  refine wVal (fun w b ⟨h, _⟩ => qsign_any _ x k w ⟨_, _, _, _, rfl, h.1⟩ (by omega)) rfl ?_
  refine wPr (prGe rfl rfl) rfl ?_
  refine wIf _ rfl (fun e => ?_) (fun e => ?_)
  · refine wSp (fun w b ⟨h, h'⟩ => smulz_any _ _ x y x' y' k j w ⟨_, _, _, _, _, _, _, _, rfl, h⟩ ⟨_, _, _, _, _, _, _, _, rfl, h'⟩ hk hj (sgT_ge e) hl hl') (fun _ _ _ _ _ _ _ _ => ?_)
    exact wRet fun w b ⟨h, _⟩ => ⟨_, rfl, ⟨_, _, _, _, _, _, _, _, rfl, h⟩, b⟩
  have s1 := sgF_ge e
  refine wVal (fun w b ⟨_, h⟩ => qsign_any _ x' j w ⟨_, _, _, _, rfl, h.1⟩ (by omega)) rfl ?_
  refine wPr (prGe rfl rfl) rfl ?_
  refine wIf _ rfl (fun e => ?_) (fun e => ?_)
  · refine wSp (fun w b ⟨h, h'⟩ => smulz_any _ _ x' y' x y j k w ⟨_, _, _, _, _, _, _, _, rfl, h'⟩ ⟨_, _, _, _, _, _, _, _, rfl, h⟩ hj hk (sgT_ge e) hl' hl) (fun _ _ _ _ _ _ _ _ => ?_)
    exact wRet fun w b ⟨h, _⟩ => ⟨_, rfl, ⟨_, _, _, _, _, _, _, _, rfl, by rw [mLo_comm x y x' y', mHi_comm x y x' y', Nat.add_comm k j]; exact h⟩, b⟩
  have s2 := sgF_ge e
  refine wVal (fun w b ⟨h, _⟩ => qsign_any _ y k w ⟨_, _, _, _, rfl, h.2⟩ (by omega)) rfl ?_
  refine wPr (prLe rfl rfl) rfl ?_
  refine wIf _ rfl (fun e => ?_) (fun e => ?_)
  · have s3 := sgT_le e
    refine wSp (fun w b ⟨h, _⟩ => turn_any _ x y k w ⟨_, _, _, _, _, _, _, _, rfl, h⟩ (by omega)) (fun _ _ _ _ _ _ _ _ => ?_)
    refine wSp (fun w b ⟨h, _, h'⟩ => smulz_any _ _ (-y) (-x) x' y' k j w ⟨_, _, _, _, _, _, _, _, rfl, h⟩ ⟨_, _, _, _, _, _, _, _, rfl, h'⟩ hk hj (by grind) (by grind) hl') (fun _ _ _ _ _ _ _ _ => ?_)
    refine wSp (fun w b ⟨h, _⟩ => turn_any _ _ _ (k + j) w ⟨_, _, _, _, _, _, _, _, rfl, h⟩ (by omega)) (fun _ _ _ _ _ _ _ _ => ?_)
    exact wRet fun w b ⟨h, _⟩ => ⟨_, rfl, ⟨_, _, _, _, _, _, _, _, rfl, by rw [← mLo_turn x y x' y', ← mHi_turn x y x' y']; exact h⟩, b⟩
  have s3 := sgF_le e
  refine wVal (fun w b ⟨_, h⟩ => qsign_any _ y' j w ⟨_, _, _, _, rfl, h.2⟩ (by omega)) rfl ?_
  refine wPr (prLe rfl rfl) rfl ?_
  refine wIf _ rfl (fun e => ?_) (fun e => ?_)
  · have s4 := sgT_le e
    refine wSp (fun w b ⟨_, h⟩ => turn_any _ x' y' j w ⟨_, _, _, _, _, _, _, _, rfl, h⟩ (by omega)) (fun _ _ _ _ _ _ _ _ => ?_)
    refine wSp (fun w b ⟨h', h, _⟩ => smulz_any _ _ (-y') (-x') x y j k w ⟨_, _, _, _, _, _, _, _, rfl, h'⟩ ⟨_, _, _, _, _, _, _, _, rfl, h⟩ hj hk (by grind) (by grind) hl) (fun _ _ _ _ _ _ _ _ => ?_)
    refine wSp (fun w b ⟨h, _⟩ => turn_any _ _ _ (j + k) w ⟨_, _, _, _, _, _, _, _, rfl, h⟩ (by omega)) (fun _ _ _ _ _ _ _ _ => ?_)
    exact wRet fun w b ⟨h, _⟩ => ⟨_, rfl, ⟨_, _, _, _, _, _, _, _, rfl, by rw [mLo_comm x y x' y', mHi_comm x y x' y', ← mLo_turn x' y' x y, ← mHi_turn x' y' x y, Nat.add_comm k j]; exact h⟩, b⟩
  have s4 := sgF_le e
  obtain ⟨z1, z2⟩ := mul_both s1 s3 s2 s4
  rw [← z1, ← z2]
  refine wRat (fun w b ⟨h, h'⟩ => qmul_any _ _ x y' k j w ⟨_, _, _, _, rfl, h.1⟩ ⟨_, _, _, _, rfl, h'.2⟩ (by omega) (by omega)) (fun _ _ _ _ => ?_)
  refine wRat (fun w b ⟨_, h, h'⟩ => qmul_any _ _ y x' k j w ⟨_, _, _, _, rfl, h.2⟩ ⟨_, _, _, _, rfl, h'.1⟩ (by omega) (by omega)) (fun _ _ _ _ => ?_)
  refine wRat (fun w b ⟨h2, h1, _⟩ => lesser_any _ _ _ _ (k + j) w ⟨_, _, _, _, rfl, h1⟩ ⟨_, _, _, _, rfl, h2⟩ (by omega)) (fun _ _ _ _ => ?_)
  refine wRat (fun w b ⟨_, _, _, h, h'⟩ => qmul_any _ _ x x' k j w ⟨_, _, _, _, rfl, h.1⟩ ⟨_, _, _, _, rfl, h'.1⟩ (by omega) (by omega)) (fun _ _ _ _ => ?_)
  refine wRat (fun w b ⟨_, _, _, _, h, h'⟩ => qmul_any _ _ y y' k j w ⟨_, _, _, _, rfl, h.2⟩ ⟨_, _, _, _, rfl, h'.2⟩ (by omega) (by omega)) (fun _ _ _ _ => ?_)
  refine wRat (fun w b ⟨h2, h1, _⟩ => greater_any _ _ _ _ (k + j) w ⟨_, _, _, _, rfl, h1⟩ ⟨_, _, _, _, rfl, h2⟩ (by omega)) (fun _ _ _ _ => ?_)
  exact wRet fun w b ⟨h2, _, _, h1, _⟩ => ⟨_, rfl, ⟨_, _, _, _, _, _, _, _, rfl, h1, h2⟩, b⟩
theorem cut_cut (n : Int) : cut255 ((cut255 n : Nat) : Int) = cut255 n := by
  have := cut255_le n
  generalize cut255 n = m at *
  unfold cut255
  rw [if_neg (by omega), if_neg (by omega)]; omega
theorem odd_eq (m : Nat) : (((m : Int).tmod 2) == 1) = decide (m % 2 = 1) := by
  rw [Int.tmod_eq_emod_of_nonneg (by omega)]
  by_cases h : m % 2 = 1
  · rw [decide_eq_true h]; simp; omega
  · rw [decide_eq_false h]; simp; omega
set_option maxHeartbeats 2000000 in
theorem spow_any (v : Value) (x y : Rat) (n : Int) (k : Nat) (w : World) (h : SpB w v x y k) (hk : k ≤ 700) (hk1 : 1 ≤ k) (hl : x ≤ y) :
    Calls Tryz.prog 33 #[v, .int .i64 n] w fun e w' => ∃ v', e = .returned v' ∧ SpB w' v' (pLo x y (cut255 n)) (pHi x y (cut255 n)) (k * 255 + 1) ∧ Below w.heap.size w w' := by
  obtain ⟨a, b, c, d, a', b', c', d', rfl, h⟩ := h
  refine go (fun w => SpQ w a b c d a' b' c' d' x y k) [[a, b, c, d, a', b', c', d'], [.int .i64 n]] [some 8, none] (tr := (.em (.pr (.call (.mk (.builtin .max) #[.tmp 0, .const (.int .i64 0)] #[3, 3])) 3 [.s (.c 1 0), .s (.k (.int .i64 0))]) (.em (.pr (.call (.mk (.builtin .min) #[.tmp 0, .const (.int .i64 255)] #[3, 3])) 3 [.s (.c 2 0), .s (.k (.int .i64 255))]) (.em (.pr (.binOp .rem 3 (.tmp 0) (.const (.int .i64 2)) 3) 3 [.s (.c 3 0), .s (.k (.int .i64 2))]) (.em (.pr (.binOp .eql 3 (.tmp 0) (.const (.int .i64 1)) 3) 4 [.s (.c 4 0), .s (.k (.int .i64 1))]) (.cond (.c 5 0) (.em (.call 59 [.g [.c 0 0, .c 0 1, .c 0 2, .c 0 3], .s (.c 3 0)] [some 4]) (.em (.call 59 [.g [.c 0 4, .c 0 5, .c 0 6, .c 0 7], .s (.c 3 0)] [some 4]) (.ret (.v (.g [.c 6 0, .c 6 1, .c 6 2, .c 6 3, .c 7 0, .c 7 1, .c 7 2, .c 7 3]))))) (.em (.call 61 [.g [.c 0 0, .c 0 1, .c 0 2, .c 0 3]] [none]) (.em (.pr (.binOp .geq 3 (.tmp 0) (.const (.int .i64 0)) 3) 4 [.s (.c 6 0), .s (.k (.int .i64 0))]) (.cond (.c 7 0) (.em (.call 59 [.g [.c 0 0, .c 0 1, .c 0 2, .c 0 3], .s (.c 3 0)] [some 4]) (.em (.call 59 [.g [.c 0 4, .c 0 5, .c 0 6, .c 0 7], .s (.c 3 0)] [some 4]) (.ret (.v (.g [.c 8 0, .c 8 1, .c 8 2, .c 8 3, .c 9 0, .c 9 1, .c 9 2, .c 9 3]))))) (.em (.pr (.binOp .eql 3 (.tmp 0) (.const (.int .i64 0)) 3) 4 [.s (.c 3 0), .s (.k (.int .i64 0))]) (.cond (.c 8 0) (.em (.call 59 [.g [.c 0 4, .c 0 5, .c 0 6, .c 0 7], .s (.c 3 0)] [some 4]) (.em (.call 59 [.g [.c 0 0, .c 0 1, .c 0 2, .c 0 3], .s (.c 3 0)] [some 4]) (.ret (.v (.g [.c 9 0, .c 9 1, .c 9 2, .c 9 3, .c 10 0, .c 10 1, .c 10 2, .c 10 3]))))) (.em (.call 61 [.g [.c 0 4, .c 0 5, .c 0 6, .c 0 7]] [none]) (.em (.pr (.binOp .leq 3 (.tmp 0) (.const (.int .i64 0)) 3) 4 [.s (.c 9 0), .s (.k (.int .i64 0))]) (.cond (.c 10 0) (.em (.call 59 [.g [.c 0 4, .c 0 5, .c 0 6, .c 0 7], .s (.c 3 0)] [some 4]) (.em (.call 59 [.g [.c 0 0, .c 0 1, .c 0 2, .c 0 3], .s (.c 3 0)] [some 4]) (.ret (.v (.g [.c 11 0, .c 11 1, .c 11 2, .c 11 3, .c 12 0, .c 12 1, .c 12 2, .c 12 3]))))) (.em (.call 79 [.g [.c 0 0, .c 0 1, .c 0 2, .c 0 3]] [some 4]) (.em (.call 77 [.g [.c 11 0, .c 11 1, .c 11 2, .c 11 3], .g [.c 0 4, .c 0 5, .c 0 6, .c 0 7]] [some 4]) (.em (.call 59 [.g [.c 12 0, .c 12 1, .c 12 2, .c 12 3], .s (.c 3 0)] [some 4]) (.ret (.v (.g [.k (.bool false), .k (.slice none 0 0), .k (.bool false), .k (.slice none 0 0), .c 13 0, .c 13 1, .c 13 2, .c 13 3])))))))))))))))))))) (by kernel_rfl) (by kernel_rfl) (by kernel_rfl) (mSp _ _ _ _ _ _ _ _ _ _ _) h ⟨spl h, rfl, trivial⟩ ?_
  refine wPr (prMax rfl rfl) rfl ?_
  refine wPr (prMinE rfl rfl (min_max_255 n)) rfl ?_
  refine wPr (prRemI rfl rfl (by decide)) rfl ?_
  refine wPr (prEq rfl rfl) rfl ?_
  refine wIf _ rfl (fun e => ?_) (fun e => ?_)
  · have h1 : cut255 n % 2 = 1 := by rw [odd_eq] at e; simpa using e
    obtain ⟨z1, z2⟩ := pow_1 hl (.inl h1)
    rw [← z1, ← z2]
    refine wRat (fun w b h => by have := qpow_any _ x ((cut255 n : Nat) : Int) k w ⟨_, _, _, _, rfl, h.1⟩ (by omega) hk1 (by omega) (by have := cut255_le n; omega); rwa [cut_cut] at this) (fun _ _ _ _ => ?_)
    refine wRat (fun w b ⟨_, h⟩ => by have := qpow_any _ y ((cut255 n : Nat) : Int) k w ⟨_, _, _, _, rfl, h.2⟩ (by omega) hk1 (by omega) (by have := cut255_le n; omega); rwa [cut_cut] at this) (fun _ _ _ _ => ?_)
    exact wRet fun w b ⟨h2, h1, _⟩ => ⟨_, rfl, ⟨_, _, _, _, _, _, _, _, rfl, h1, h2⟩, b⟩
  have h1 : cut255 n % 2 = 0 := by
    rw [odd_eq] at e
    have : ¬ cut255 n % 2 = 1 := (by simpa using e); omega
  refine wVal (fun w b h => qsign_any _ x k w ⟨_, _, _, _, rfl, h.1⟩ (by omega)) rfl ?_
  refine wPr (prGe rfl rfl) rfl ?_
  refine wIf _ rfl (fun e => ?_) (fun e => ?_)
  · have s1 := sgT_ge e
    obtain ⟨z1, z2⟩ := pow_1 (n := cut255 n) hl (.inr s1)
    rw [← z1, ← z2]
    refine wRat (fun w b h => by have := qpow_any _ x ((cut255 n : Nat) : Int) k w ⟨_, _, _, _, rfl, h.1⟩ (by omega) hk1 (by omega) (by have := cut255_le n; omega); rwa [cut_cut] at this) (fun _ _ _ _ => ?_)
    refine wRat (fun w b ⟨_, h⟩ => by have := qpow_any _ y ((cut255 n : Nat) : Int) k w ⟨_, _, _, _, rfl, h.2⟩ (by omega) hk1 (by omega) (by have := cut255_le n; omega); rwa [cut_cut] at this) (fun _ _ _ _ => ?_)
    exact wRet fun w b ⟨h2, h1, _⟩ => ⟨_, rfl, ⟨_, _, _, _, _, _, _, _, rfl, h1, h2⟩, b⟩
  have s1 := sgF_ge e
  refine wPr (prEq rfl rfl) rfl ?_
  refine wIf _ rfl (fun e => ?_) (fun e => ?_)
  · have h0 : cut255 n = 0 := by have : ((cut255 n : Nat) : Int) = 0 := (by simpa using e); omega
    obtain ⟨z1, z2⟩ := pow_2 hl h1 (.inl h0)
    rw [← z1, ← z2]
    refine wRat (fun w b h => by have := qpow_any _ y ((cut255 n : Nat) : Int) k w ⟨_, _, _, _, rfl, h.2⟩ (by omega) hk1 (by omega) (by have := cut255_le n; omega); rwa [cut_cut] at this) (fun _ _ _ _ => ?_)
    refine wRat (fun w b ⟨_, h⟩ => by have := qpow_any _ x ((cut255 n : Nat) : Int) k w ⟨_, _, _, _, rfl, h.1⟩ (by omega) hk1 (by omega) (by have := cut255_le n; omega); rwa [cut_cut] at this) (fun _ _ _ _ => ?_)
    exact wRet fun w b ⟨h2, h1, _⟩ => ⟨_, rfl, ⟨_, _, _, _, _, _, _, _, rfl, h1, h2⟩, b⟩
  have h0 : cut255 n ≠ 0 := by have : ¬ ((cut255 n : Nat) : Int) = 0 := (by simpa using e); omega
  refine wVal (fun w b h => qsign_any _ y k w ⟨_, _, _, _, rfl, h.2⟩ (by omega)) rfl ?_
  refine wPr (prLe rfl rfl) rfl ?_
  refine wIf _ rfl (fun e => ?_) (fun e => ?_)
  · have s2 := sgT_le e
    obtain ⟨z1, z2⟩ := pow_2 hl h1 (.inr s2)
    rw [← z1, ← z2]
    refine wRat (fun w b h => by have := qpow_any _ y ((cut255 n : Nat) : Int) k w ⟨_, _, _, _, rfl, h.2⟩ (by omega) hk1 (by omega) (by have := cut255_le n; omega); rwa [cut_cut] at this) (fun _ _ _ _ => ?_)
    refine wRat (fun w b ⟨_, h⟩ => by have := qpow_any _ x ((cut255 n : Nat) : Int) k w ⟨_, _, _, _, rfl, h.1⟩ (by omega) hk1 (by omega) (by have := cut255_le n; omega); rwa [cut_cut] at this) (fun _ _ _ _ => ?_)
    exact wRet fun w b ⟨h2, h1, _⟩ => ⟨_, rfl, ⟨_, _, _, _, _, _, _, _, rfl, h1, h2⟩, b⟩
  have s2 := sgF_le e
  obtain ⟨z1, z2⟩ := pow_3 h1 h0 s1 s2
  rw [← z1, ← z2]
  refine wRat (fun w b h => qneg_any _ x k w ⟨_, _, _, _, rfl, h.1⟩ (by omega)) (fun _ _ _ _ => ?_)
  refine wRat (fun w b ⟨h, h'⟩ => greater_any _ _ (-x) y k w ⟨_, _, _, _, rfl, h⟩ ⟨_, _, _, _, rfl, h'.2⟩ (by omega)) (fun _ _ _ _ => ?_)
  refine wRat (fun w b ⟨h, _⟩ => by have := qpow_any _ (mx (-x) y) ((cut255 n : Nat) : Int) k w ⟨_, _, _, _, rfl, h⟩ (by omega) hk1 (by omega) (by have := cut255_le n; omega); rwa [cut_cut] at this) (fun _ _ _ _ => ?_)
  exact wRet fun w b ⟨h, _⟩ => ⟨_, rfl, ⟨_, _, _, _, _, _, _, _, rfl, ⟨IntB.zero _ _ _, IntB.zero _ _ _, one_lt _ (by omega)⟩, h⟩, b⟩
end Go.Proofs.YtfohgkabmdhhaaaGreatDoor
