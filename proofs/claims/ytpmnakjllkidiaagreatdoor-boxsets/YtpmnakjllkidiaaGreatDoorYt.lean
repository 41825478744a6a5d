/- Contracts of the document's dyadic numbers. -/
import Derived.Test.YtpmnakjllkidiaaGreatDoorYs
import Derived.Test.YtpmnakjllkidiaaGreatDoorYr
import Derived.Test.YtpmnakjllkidiaaGreatDoorYq
import Derived.Test.YtpmnakjllkidiaaGreatDoorYj
import Derived.Test.YtpmnakjllkidiaaGreatDoorYn
import Derived.Test.YtpmnakjllkidiaaGreatDoorYg
namespace Go.Proofs.YtpmnakjllkidiaaGreatDoor
open Go.RowKit Cin
instance (q : Rat) : Decidable (DyOk q) := inferInstanceAs (Decidable (_ = _))
theorem exp_num {q : Rat} : expOf q = (tzOf q.num.natAbs : Int) - (tzOf q.den : Int) := by unfold expOf; omega
end Go.Proofs.YtpmnakjllkidiaaGreatDoor

namespace Cin
open Go Go.RowKit
structure RC (A : Rat) (b M0 X Y : Nat) (p : Int) (ex : Bool) : Prop where
  hA : A * (Y : Rat) = (X : Rat) * tp (-p)
  hY : 0 < Y
  h1 : M0 * Y ≤ X
  h2 : X < (M0 + 1) * Y
  h3 : 2 ^ (b - 1) ≤ M0
  h4 : M0 < 2 ^ b
  he : ex = true ↔ M0 * Y = X
theorem sgr_not (neg : Bool) (x : Rat) : sgr (!neg) x = -sgr neg x := by cases neg <;> simp [sgr]
theorem RC.fin {A a d : Rat} {b M0 X Y : Nat} {p : Int} {ex away : Bool} (h : RC A b M0 X Y p ex) (hb : 1 ≤ b) (ha : a = sgr (decide (a.num < 0)) A) (h0 : a.num ≠ 0)
    (hd : (IsDown b a d ∧ away = decide (a.num < 0)) ∨ (IsDown b (-a) (-d) ∧ away = decide (0 < a.num))) : sgr (decide (a.num < 0)) (((if (away && !ex) = true then M0 + 1 else M0 : Nat) : Rat) * tp (-p)) = d := by
  rcases hd with ⟨hd, rfl⟩ | ⟨hd, rfl⟩
  · have := round_down (neg := decide (a.num < 0)) hb h.hA h.hY h.h1 h.h2 h.h3 h.h4 h.he
    rw [← ha] at this
    exact this.unique hd
  · have e : decide (0 < a.num) = !decide (a.num < 0) := by
      by_cases hn : a.num < 0
      · rw [decide_eq_true hn, decide_eq_false (by omega)]; rfl
      · rw [decide_eq_false hn, decide_eq_true (by omega)]; rfl
    rw [e]
    have := round_down (neg := !decide (a.num < 0)) hb h.hA h.hY h.h1 h.h2 h.h3 h.h4 h.he
    rw [sgr_not, sgr_not, ← ha] at this
    have := this.unique hd
    rw [← Rat.neg_neg d, ← this, Rat.neg_neg]
end Cin
namespace Go.Proofs.YtpmnakjllkidiaaGreatDoor
open Go.RowKit Cin
end Go.Proofs.YtpmnakjllkidiaaGreatDoor

namespace Go.Proofs.YtpmnakjllkidiaaGreatDoor
open Go.RowKit Cin
theorem odd_le (q : Rat) : (oddOf q).natAbs ≤ q.num.natAbs := by
  have := Nat.div_le_self q.num.natAbs (2 ^ tzOf q.num.natAbs)
  unfold oddOf
  generalize q.num.natAbs / 2 ^ tzOf q.num.natAbs = t at *
  split <;> omega
theorem DyQ.cut {w : World} {x y : Value} {q : Rat} {k K j : Nat} (h : DyQ w x y q k K) (hn : q.num.natAbs < pw j) (hd : q.den < pw j) : DyQ w x y q j (32 * j) := by
  have t1 := tz_pw hn
  have t2 := tz_pw hd
  refine ⟨⟨h.1.1, Nat.lt_of_le_of_lt (odd_le q) hn⟩, h.2.1, ?_, ?_⟩ <;> rw [exp_num] <;> omega
theorem len_le {s : ByteArray} (h : s.size ≤ maxLen) : s.size ≤ 9223372036854775807 := Nat.le_trans h (by unfold maxLen; omega)
end Go.Proofs.YtpmnakjllkidiaaGreatDoor

namespace Go.Proofs.YtpmnakjllkidiaaGreatDoor
open Go.RowKit Cin
def SpQ (w : World) (a b c d a' b' c' d' : Value) (x y : Rat) (k : Nat) : Prop := QB w a b c d x k ∧ QB w a' b' c' d' y k
def SpB (w : World) (v : Value) (x y : Rat) (k : Nat) : Prop := ∃ a b c d a' b' c' d', v = .agg #[a, b, c, d, a', b', c', d'] ∧ SpQ w a b c d a' b' c' d' x y k
def DsQ (w : World) (a b d a' b' d' : Value) (x y : Rat) (k : Nat) : Prop := DQ w a b d x k ∧ DQ w a' b' d' y k
def DsB (w : World) (v : Value) (x y : Rat) (k : Nat) : Prop := ∃ a b d a' b' d', v = .agg #[a, b, d, a', b', d'] ∧ DsQ w a b d a' b' d' x y k
theorem spl {w : World} {a b c d a' b' c' d' : Value} {x y : Rat} {k : Nat} (h : SpQ w a b c d a' b' c' d' x y k) : [a, b, c, d, a', b', c', d'].all Value.oneCell' = true := by
  have p := qpl h.1
  have p' := qpl h.2
  simp only [List.all_cons, List.all_nil, Bool.and_true, Bool.and_eq_true] at p p' ⊢
  exact ⟨p.1, p.2.1, p.2.2.1, p.2.2.2, p'.1, p'.2.1, p'.2.2.1, p'.2.2.2⟩
theorem dspl {w : World} {a b d a' b' d' : Value} {x y : Rat} {k : Nat} (h : DsQ w a b d a' b' d' x y k) : [a, b, d, a', b', d'].all Value.oneCell' = true := by
  have p := dpl h.1
  have p' := dpl h.2
  simp only [List.all_cons, List.all_nil, Bool.and_true, Bool.and_eq_true] at p p' ⊢
  exact ⟨p.1, p.2.1, p.2.2, p'.1, p'.2.1, p'.2.2⟩
theorem mSp {D : TypeId → Bool} (a b c d a' b' c' d' : Value) (x y : Rat) (k : Nat) (hD : D 161 = true := by rfl) : Mono D fun w => SpQ w a b c d a' b' c' d' x y k := (mQ _ _ _ _ _ _ hD).and (mQ _ _ _ _ _ _ hD)
theorem mDs {D : TypeId → Bool} (a b d a' b' d' : Value) (x y : Rat) (k : Nat) (hD : D 161 = true := by rfl) : Mono D fun w => DsQ w a b d a' b' d' x y k := (mD _ _ _ _ _ hD).and (mD _ _ _ _ _ hD)
theorem SpQ.mono {w : World} {a b c d a' b' c' d' : Value} {x y : Rat} {k j : Nat} (h : SpQ w a b c d a' b' c' d' x y k) (hj : k ≤ j) : SpQ w a b c d a' b' c' d' x y j := ⟨h.1.mono hj, h.2.mono hj⟩
section rules
variable {w0 : World} {Post : Ending → World → Prop} {F : World → Prop} {L : LC} {E : Env} {tr : Tr} {f : FuncId} {ar : List V1} {args : Array Value}
theorem wSpV {D Z : TypeId → Bool} {x y : Rat} {m : Nat} {cc : Value}
    (hc : ∀ w, Below w0.heap.size w0 w → F w → Calls Tryz.prog f args w fun e w' => ∃ v, e = .returned (.tuple #[v, cc]) ∧ SpB w' v x y m ∧ Below w.heap.size w w') (hv : cc.oneCell' = true)
    {E' : Value → Value → Value → Value → Value → Value → Value → Value → Env} (hk : ∀ a b c d a' b' c' d', Wk Tryz.prog w0 D Z Post L (fun w => SpQ w a b c d a' b' c' d' x y m ∧ F w) tr (E' a b c d a' b' c' d')) (ha : (ar.map (V1.den [] E)).toArray = args := by rfl)
    (hE : ∀ a b c d a' b' c' d', E ++ [[a, b, c, d, a', b', c', d', cc]] = E' a b c d a' b' c' d' := by intros; (simp only [List.cons_append, List.nil_append]) <;> exact rfl) (hD : D 161 = true := by rfl) : Wk Tryz.prog w0 D Z Post L F (.em (.call f ar [some 8, none]) tr) E := by
  intro hm u hF w e b
  subst ha
  refine (hc w b (hm u.w w e.ext hF)).mono ?_
  rintro e1 w' ⟨v, rfl, ⟨a, b, c, d, a', b', c', d', rfl, h1⟩, h4⟩
  exact ⟨[a, b, c, d, a', b', c', d', cc], rfl, by have p := spl h1; simp only [List.all_cons, List.all_nil, Bool.and_true, Bool.and_eq_true] at p ⊢; exact ⟨p.1, p.2.1, p.2.2.1, p.2.2.2.1, p.2.2.2.2.1, p.2.2.2.2.2.1, p.2.2.2.2.2.2.1, p.2.2.2.2.2.2.2, hv⟩, h4, hE _ _ _ _ _ _ _ _ ▸ hk _ _ _ _ _ _ _ _ ((mSp _ _ _ _ _ _ _ _ _ _ _ hD).and hm) (u.more w w') ⟨h1, hm u.w w' (e.below h4).ext hF⟩⟩
theorem wDsV {D Z : TypeId → Bool} {x y : Rat} {m : Nat} {cc : Value}
    (hc : ∀ w, Below w0.heap.size w0 w → F w → Calls Tryz.prog f args w fun e w' => ∃ v, e = .returned (.tuple #[v, cc]) ∧ DsB w' v x y m ∧ Below w.heap.size w w') (hv : cc.oneCell' = true)
    {E' : Value → Value → Value → Value → Value → Value → Env} (hk : ∀ a b d a' b' d', Wk Tryz.prog w0 D Z Post L (fun w => DsQ w a b d a' b' d' x y m ∧ F w) tr (E' a b d a' b' d')) (ha : (ar.map (V1.den [] E)).toArray = args := by rfl)
    (hE : ∀ a b d a' b' d', E ++ [[a, b, d, a', b', d', cc]] = E' a b d a' b' d' := by intros; (simp only [List.cons_append, List.nil_append]) <;> exact rfl) (hD : D 161 = true := by rfl) : Wk Tryz.prog w0 D Z Post L F (.em (.call f ar [some 6, none]) tr) E := by
  intro hm u hF w e b
  subst ha
  refine (hc w b (hm u.w w e.ext hF)).mono ?_
  rintro e1 w' ⟨v, rfl, ⟨a, b, d, a', b', d', rfl, h1⟩, h4⟩
  exact ⟨[a, b, d, a', b', d', cc], rfl, by have p := dspl h1; simp only [List.all_cons, List.all_nil, Bool.and_true, Bool.and_eq_true] at p ⊢; exact ⟨p.1, p.2.1, p.2.2.1, p.2.2.2.1, p.2.2.2.2.1, p.2.2.2.2.2, hv⟩, h4, hE _ _ _ _ _ _ ▸ hk _ _ _ _ _ _ ((mDs _ _ _ _ _ _ _ _ _ hD).and hm) (u.more w w') ⟨h1, hm u.w w' (e.below h4).ext hF⟩⟩
end rules
theorem v_le (x y : Rat) : decide (cmpQ x y ≤ 0) = decide (x ≤ y) := by
  unfold cmpQ
  split
  · rw [decide_eq_true (by decide), decide_eq_true (by grind)]
  · split
    · rw [decide_eq_false (by decide), decide_eq_false (by grind)]
    · rw [decide_eq_true (by decide), decide_eq_true (by grind)]
theorem v_lt (x y : Rat) : decide (cmpQ x y < 0) = decide (x < y) := by
  unfold cmpQ
  split
  · rw [decide_eq_true (by decide), decide_eq_true (by grind)]
  · split
    · rw [decide_eq_false (by decide), decide_eq_false (by grind)]
    · rw [decide_eq_false (by decide), decide_eq_false (by grind)]
theorem v_ge (x y : Rat) : decide (0 ≤ cmpQ x y) = decide (y ≤ x) := by
  unfold cmpQ
  split
  · rw [decide_eq_false (by decide), decide_eq_false (by grind)]
  · split
    · rw [decide_eq_true (by decide), decide_eq_true (by grind)]
    · rw [decide_eq_true (by decide), decide_eq_true (by grind)]
theorem v_gt (x y : Rat) : decide (0 < cmpQ x y) = decide (y < x) := by
  unfold cmpQ
  split
  · rw [decide_eq_false (by decide), decide_eq_false (by grind)]
  · split
    · rw [decide_eq_true (by decide), decide_eq_true (by grind)]
    · rw [decide_eq_false (by decide), decide_eq_false (by grind)]
theorem cT_le {x y : Rat} (e : decide (cmpQ x y ≤ 0) = true) : x ≤ y := by rw [v_le] at e; simpa using e
theorem cF_le {x y : Rat} (e : decide (cmpQ x y ≤ 0) = false) : y < x := by rw [v_le] at e; have : ¬ x ≤ y := (by simpa using e); grind
theorem cT_lt {x y : Rat} (e : decide (cmpQ x y < 0) = true) : x < y := by rw [v_lt] at e; simpa using e
theorem cF_lt {x y : Rat} (e : decide (cmpQ x y < 0) = false) : y ≤ x := by rw [v_lt] at e; have : ¬ x < y := (by simpa using e); grind
theorem cT_ge {x y : Rat} (e : decide (0 ≤ cmpQ x y) = true) : y ≤ x := by rw [v_ge] at e; simpa using e
theorem cF_ge {x y : Rat} (e : decide (0 ≤ cmpQ x y) = false) : x < y := by rw [v_ge] at e; have : ¬ y ≤ x := (by simpa using e); grind
theorem cT_gt {x y : Rat} (e : decide (0 < cmpQ x y) = true) : y < x := by rw [v_gt] at e; simpa using e
theorem cF_gt {x y : Rat} (e : decide (0 < cmpQ x y) = false) : x ≤ y := by rw [v_gt] at e; have : ¬ y < x := (by simpa using e); grind
theorem sfresh_any (v : Value) (q : Rat) (k : Nat) (w : World) (h : RatB w v q k) (hk : k ≤ 1000000) :
    Calls Tryz.prog 55 #[v] w fun e w' => ∃ v', e = .returned v' ∧ RatB w' v' q k ∧ Below w.heap.size w w' := by
  obtain ⟨a, b, c, d, rfl, h⟩ := h
  refine go (fun w => QB w a b c d q k) [[a, b, c, d]] [some 4] (tr := (.em (.call 97 [.g [.c 0 0, .c 0 1, .c 0 2, .c 0 3]] [some 4]) (.em (.call 97 [.g [.c 1 0, .c 1 1, .c 1 2, .c 1 3]] [some 4]) (.ret (.v (.g [.c 2 0, .c 2 1, .c 2 2, .c 2 3])))))) (by kernel_rfl) (by kernel_rfl) (by kernel_rfl) (mQ _ _ _ _ _ _) h ⟨qpl h, trivial⟩ ?_
  refine wRat (fun w b h => qneg_any _ q k w ⟨_, _, _, _, rfl, h⟩ hk) (fun _ _ _ _ => ?_)
  refine wRat (fun w b ⟨h, _⟩ => qneg_any _ (-q) k w ⟨_, _, _, _, rfl, h⟩ hk) (fun _ _ _ _ => ?_)
  exact wRet fun w b ⟨h, _⟩ => ⟨_, rfl, ⟨_, _, _, _, rfl, by rwa [Rat.neg_neg] at h⟩, b⟩
theorem lesser_any (v u : Value) (x y : Rat) (k : Nat) (w : World) (h : RatB w v x k) (h' : RatB w u y k) (hk : k ≤ 1000000) :
    Calls Tryz.prog 56 #[v, u] w fun e w' => ∃ v', e = .returned v' ∧ RatB w' v' (mn x y) k ∧ Below w.heap.size w w' := by
  obtain ⟨a, b, c, d, rfl, h⟩ := h
  obtain ⟨a', b', c', d', rfl, h'⟩ := h'
  refine go (fun w => QB w a b c d x k ∧ QB w a' b' c' d' y k) [[a, b, c, d], [a', b', c', d']] [some 4, some 4] (tr := (.em (.call 51 [.g [.c 0 0, .c 0 1, .c 0 2, .c 0 3], .g [.c 1 0, .c 1 1, .c 1 2, .c 1 3]] [none]) (.em (.pr (.binOp .leq 3 (.tmp 0) (.const (.int .i64 0)) 3) 4 [.s (.c 2 0), .s (.k (.int .i64 0))]) (.cond (.c 3 0) (.ret (.v (.g [.c 0 0, .c 0 1, .c 0 2, .c 0 3]))) (.ret (.v (.g [.c 1 0, .c 1 1, .c 1 2, .c 1 3]))))))) (by kernel_rfl) (by kernel_rfl) (by kernel_rfl) ((mQ _ _ _ _ _ _).and (mQ _ _ _ _ _ _)) ⟨h, h'⟩ ⟨qpl h, qpl h', trivial⟩ ?_
  refine wVal (fun w b ⟨h, h'⟩ => qcmp_any _ _ x y k k w ⟨_, _, _, _, rfl, h⟩ ⟨_, _, _, _, rfl, h'⟩ hk hk) rfl ?_
  refine wPr (prLe rfl rfl) rfl ?_
  refine wIf _ rfl (fun e => ?_) (fun e => ?_)
  · exact wRet fun w b ⟨h, _⟩ => ⟨_, rfl, ⟨_, _, _, _, rfl, by rw [mn_of (cT_le e)]; exact h⟩, b⟩
  · exact wRet fun w b ⟨_, h⟩ => ⟨_, rfl, ⟨_, _, _, _, rfl, by rw [mn_of' (Rat.le_of_lt (cF_le e))]; exact h⟩, b⟩
theorem greater_any (v u : Value) (x y : Rat) (k : Nat) (w : World) (h : RatB w v x k) (h' : RatB w u y k) (hk : k ≤ 1000000) :
    Calls Tryz.prog 57 #[v, u] w fun e w' => ∃ v', e = .returned v' ∧ RatB w' v' (mx x y) k ∧ Below w.heap.size w w' := by
  obtain ⟨a, b, c, d, rfl, h⟩ := h
  obtain ⟨a', b', c', d', rfl, h'⟩ := h'
  refine go (fun w => QB w a b c d x k ∧ QB w a' b' c' d' y k) [[a, b, c, d], [a', b', c', d']] [some 4, some 4] (tr := (.em (.call 51 [.g [.c 0 0, .c 0 1, .c 0 2, .c 0 3], .g [.c 1 0, .c 1 1, .c 1 2, .c 1 3]] [none]) (.em (.pr (.binOp .geq 3 (.tmp 0) (.const (.int .i64 0)) 3) 4 [.s (.c 2 0), .s (.k (.int .i64 0))]) (.cond (.c 3 0) (.ret (.v (.g [.c 0 0, .c 0 1, .c 0 2, .c 0 3]))) (.ret (.v (.g [.c 1 0, .c 1 1, .c 1 2, .c 1 3]))))))) (by kernel_rfl) (by kernel_rfl) (by kernel_rfl) ((mQ _ _ _ _ _ _).and (mQ _ _ _ _ _ _)) ⟨h, h'⟩ ⟨qpl h, qpl h', trivial⟩ ?_
  refine wVal (fun w b ⟨h, h'⟩ => qcmp_any _ _ x y k k w ⟨_, _, _, _, rfl, h⟩ ⟨_, _, _, _, rfl, h'⟩ hk hk) rfl ?_
  refine wPr (prGe rfl rfl) rfl ?_
  refine wIf _ rfl (fun e => ?_) (fun e => ?_)
  · exact wRet fun w b ⟨h, _⟩ => ⟨_, rfl, ⟨_, _, _, _, rfl, by rw [mx_of' (cT_ge e)]; exact h⟩, b⟩
  · exact wRet fun w b ⟨_, h⟩ => ⟨_, rfl, ⟨_, _, _, _, rfl, by rw [mx_of (Rat.le_of_lt (cF_ge e))]; exact h⟩, b⟩
def ZeroS : List Value := [.bool false, .slice none 0 0, .bool false, .slice none 0 0, .bool false, .slice none 0 0, .bool false, .slice none 0 0]
end Go.Proofs.YtpmnakjllkidiaaGreatDoor

namespace Go.Proofs.YtpmnakjllkidiaaGreatDoor
open Go.RowKit Cin
theorem within5_any (v u : Value) (x y x' y' : Rat) (k j : Nat) (w : World) (h : SpB w v x y k) (h' : SpB w u x' y' j) (hk : k ≤ 1000000) (hj : j ≤ 1000000) :
    Calls Tryz.prog 32 #[v, u] w fun e w' => e = .returned (.bool (decide (x' ≤ x) && decide (y ≤ y'))) ∧ Below w.heap.size w w' := by
  obtain ⟨a, b, c, d, a', b', c', d', rfl, h⟩ := h
  obtain ⟨p, q, r, s, p', q', r', s', rfl, h'⟩ := h'
  refine go (fun w => SpQ w a b c d a' b' c' d' x y k ∧ SpQ w p q r s p' q' r' s' x' y' j) [[a, b, c, d, a', b', c', d'], [p, q, r, s, p', q', r', s']] [some 8, some 8] (tr := (.em (.call 51 [.g [.c 1 0, .c 1 1, .c 1 2, .c 1 3], .g [.c 0 0, .c 0 1, .c 0 2, .c 0 3]] [none]) (.em (.pr (.binOp .leq 3 (.tmp 0) (.const (.int .i64 0)) 3) 4 [.s (.c 2 0), .s (.k (.int .i64 0))]) (.cond (.c 3 0) (.em (.call 51 [.g [.c 0 4, .c 0 5, .c 0 6, .c 0 7], .g [.c 1 4, .c 1 5, .c 1 6, .c 1 7]] [none]) (.em (.pr (.binOp .leq 3 (.tmp 0) (.const (.int .i64 0)) 3) 4 [.s (.c 4 0), .s (.k (.int .i64 0))]) (.ret (.v (.s (.c 5 0)))))) (.ret (.v (.s (.k (.bool false))))))))) (by kernel_rfl) (by kernel_rfl) (by kernel_rfl) ((mSp _ _ _ _ _ _ _ _ _ _ _).and (mSp _ _ _ _ _ _ _ _ _ _ _)) ⟨h, h'⟩ ⟨spl h, spl h', trivial⟩ ?_
  refine wVal (fun w b ⟨h, h'⟩ => qcmp_any _ _ x' x j k w ⟨_, _, _, _, rfl, h'.1⟩ ⟨_, _, _, _, rfl, h.1⟩ hj hk) rfl ?_
  refine wPr (prLe rfl rfl) rfl ?_
  refine wIf _ rfl (fun e => ?_) (fun e => ?_)
  · refine wVal (fun w b ⟨h, h'⟩ => qcmp_any _ _ y y' k j w ⟨_, _, _, _, rfl, h.2⟩ ⟨_, _, _, _, rfl, h'.2⟩ hk hj) rfl ?_
    refine wPr (prLe rfl rfl) rfl ?_
    refine wRet fun w b _ => ⟨?_, b⟩
    rw [← v_le, ← v_le, e, Bool.true_and]; rfl
  · refine wRet fun w b _ => ⟨?_, b⟩
    rw [← v_le, ← v_le, e, Bool.false_and]; rfl
theorem has5_any (v u : Value) (x y z : Rat) (k j : Nat) (w : World) (h : SpB w v x y k) (h' : RatB w u z j) (hk : k ≤ 1000000) (hj : j ≤ 1000000) :
    Calls Tryz.prog 37 #[v, u] w fun e w' => e = .returned (.bool (decide (x ≤ z) && decide (z ≤ y))) ∧ Below w.heap.size w w' := by
  obtain ⟨a, b, c, d, a', b', c', d', rfl, h⟩ := h
  obtain ⟨p, q, r, s, rfl, h'⟩ := h'
  refine go (fun w => SpQ w a b c d a' b' c' d' x y k ∧ QB w p q r s z j) [[a, b, c, d, a', b', c', d'], [p, q, r, s]] [some 8, some 4] (tr := (.em (.call 51 [.g [.c 0 0, .c 0 1, .c 0 2, .c 0 3], .g [.c 1 0, .c 1 1, .c 1 2, .c 1 3]] [none]) (.em (.pr (.binOp .leq 3 (.tmp 0) (.const (.int .i64 0)) 3) 4 [.s (.c 2 0), .s (.k (.int .i64 0))]) (.cond (.c 3 0) (.em (.call 51 [.g [.c 1 0, .c 1 1, .c 1 2, .c 1 3], .g [.c 0 4, .c 0 5, .c 0 6, .c 0 7]] [none]) (.em (.pr (.binOp .leq 3 (.tmp 0) (.const (.int .i64 0)) 3) 4 [.s (.c 4 0), .s (.k (.int .i64 0))]) (.ret (.v (.s (.c 5 0)))))) (.ret (.v (.s (.k (.bool false))))))))) (by kernel_rfl) (by kernel_rfl) (by kernel_rfl) ((mSp _ _ _ _ _ _ _ _ _ _ _).and (mQ _ _ _ _ _ _)) ⟨h, h'⟩ ⟨spl h, qpl h', trivial⟩ ?_
  refine wVal (fun w b ⟨h, h'⟩ => qcmp_any _ _ x z k j w ⟨_, _, _, _, rfl, h.1⟩ ⟨_, _, _, _, rfl, h'⟩ hk hj) rfl ?_
  refine wPr (prLe rfl rfl) rfl ?_
  refine wIf _ rfl (fun e => ?_) (fun e => ?_)
  · refine wVal (fun w b ⟨h, h'⟩ => qcmp_any _ _ z y j k w ⟨_, _, _, _, rfl, h'⟩ ⟨_, _, _, _, rfl, h.2⟩ hj hk) rfl ?_
    refine wPr (prLe rfl rfl) rfl ?_
    refine wRet fun w b _ => ⟨?_, b⟩
    rw [← v_le, ← v_le, e, Bool.true_and]; rfl
  · refine wRet fun w b _ => ⟨?_, b⟩
    rw [← v_le, ← v_le, e, Bool.false_and]; rfl
theorem hull_any (v u : Value) (x y x' y' : Rat) (k j : Nat) (w : World) (h : SpB w v x y k) (h' : SpB w u x' y' j) (hk : k ≤ 1000000) (hj : j = k) :
    Calls Tryz.prog 29 #[v, u] w fun e w' => ∃ v', e = .returned v' ∧ SpB w' v' (mn x x') (mx y y') k ∧ Below w.heap.size w w' := by
  subst hj
  obtain ⟨a, b, c, d, a', b', c', d', rfl, h⟩ := h
  obtain ⟨p, q, r, s, p', q', r', s', rfl, h'⟩ := h'
  refine go (fun w => SpQ w a b c d a' b' c' d' x y j ∧ SpQ w p q r s p' q' r' s' x' y' j) [[a, b, c, d, a', b', c', d'], [p, q, r, s, p', q', r', s']] [some 8, some 8] (tr := (.em (.call 56 [.g [.c 0 0, .c 0 1, .c 0 2, .c 0 3], .g [.c 1 0, .c 1 1, .c 1 2, .c 1 3]] [some 4]) (.em (.call 55 [.g [.c 2 0, .c 2 1, .c 2 2, .c 2 3]] [some 4]) (.em (.call 57 [.g [.c 0 4, .c 0 5, .c 0 6, .c 0 7], .g [.c 1 4, .c 1 5, .c 1 6, .c 1 7]] [some 4]) (.em (.call 55 [.g [.c 4 0, .c 4 1, .c 4 2, .c 4 3]] [some 4]) (.ret (.v (.g [.c 3 0, .c 3 1, .c 3 2, .c 3 3, .c 5 0, .c 5 1, .c 5 2, .c 5 3])))))))) (by kernel_rfl) (by kernel_rfl) (by kernel_rfl) ((mSp _ _ _ _ _ _ _ _ _ _ _).and (mSp _ _ _ _ _ _ _ _ _ _ _)) ⟨h, h'⟩ ⟨spl h, spl h', trivial⟩ ?_
  refine wRat (fun w b ⟨h, h'⟩ => lesser_any _ _ x x' j w ⟨_, _, _, _, rfl, h.1⟩ ⟨_, _, _, _, rfl, h'.1⟩ hk) (fun _ _ _ _ => ?_)
  refine wRat (fun w b ⟨h, _⟩ => sfresh_any _ _ j w ⟨_, _, _, _, rfl, h⟩ hk) (fun _ _ _ _ => ?_)
  refine wRat (fun w b ⟨_, _, h, h'⟩ => greater_any _ _ y y' j w ⟨_, _, _, _, rfl, h.2⟩ ⟨_, _, _, _, rfl, h'.2⟩ hk) (fun _ _ _ _ => ?_)
  refine wRat (fun w b ⟨h, _⟩ => sfresh_any _ _ j w ⟨_, _, _, _, rfl, h⟩ hk) (fun _ _ _ _ => ?_)
  exact wRet fun w b ⟨h2, _, h1, _⟩ => ⟨_, rfl, ⟨_, _, _, _, _, _, _, _, rfl, h1, h2⟩, b⟩
theorem width_any (v : Value) (x y : Rat) (k : Nat) (w : World) (h : SpB w v x y k) (hk : k ≤ 90000) :
    Calls Tryz.prog 52 #[v] w fun e w' => ∃ v', e = .returned v' ∧ RatB w' v' (y - x) (k + k + 1) ∧ Below w.heap.size w w' := by
  obtain ⟨a, b, c, d, a', b', c', d', rfl, h⟩ := h
  refine go (fun w => SpQ w a b c d a' b' c' d' x y k) [[a, b, c, d, a', b', c', d']] [some 8] (tr := (.em (.call 96 [.g [.c 0 4, .c 0 5, .c 0 6, .c 0 7], .g [.c 0 0, .c 0 1, .c 0 2, .c 0 3]] [some 4]) (.ret (.v (.g [.c 1 0, .c 1 1, .c 1 2, .c 1 3]))))) (by kernel_rfl) (by kernel_rfl) (by kernel_rfl) (mSp _ _ _ _ _ _ _ _ _ _ _) h ⟨spl h, trivial⟩ ?_
  refine wRat (fun w b h => qsub_any _ _ y x k k w ⟨_, _, _, _, rfl, h.2⟩ ⟨_, _, _, _, rfl, h.1⟩ (by omega) (by omega)) (fun _ _ _ _ => ?_)
  exact wRet fun w b ⟨h, _⟩ => ⟨_, rfl, ⟨_, _, _, _, rfl, h⟩, b⟩
def SpOk (s r : ByteArray) : Prop := RatOk s ∧ RatOk r ∧ ratVal s ≤ ratVal r
theorem sparseY (s r : ByteArray) (w : World) (hs : s.size ≤ 9223372036854775807) (hr : r.size ≤ 9223372036854775807) (h : SpOk s r) :
    Calls Tryz.prog 54 #[.agg #[.string s, .string r]] w fun e w' => ∃ v', e = .returned (.tuple #[v', .int .i64 0]) ∧ SpB w' v' (ratVal s) (ratVal r) 500 ∧ Below w.heap.size w w' := by
  refine go (fun _ => True) [[.string s, .string r]] [some 2] (tr := (.em (.call 36 [.s (.c 0 0)] [some 4, none]) (.em (.pr (.binOp .neq 70 (.tmp 0) (.const (.int .i64 0)) 70) 4 [.s (.c 1 4), .s (.k (.int .i64 0))]) (.cond (.c 2 0) (.ret (.t [.g [.k (.bool false), .k (.slice none 0 0), .k (.bool false), .k (.slice none 0 0), .k (.bool false), .k (.slice none 0 0), .k (.bool false), .k (.slice none 0 0)], .s (.c 1 4)])) (.em (.call 36 [.s (.c 0 1)] [some 4, none]) (.em (.pr (.binOp .neq 70 (.tmp 0) (.const (.int .i64 0)) 70) 4 [.s (.c 3 4), .s (.k (.int .i64 0))]) (.cond (.c 4 0) (.ret (.t [.g [.k (.bool false), .k (.slice none 0 0), .k (.bool false), .k (.slice none 0 0), .k (.bool false), .k (.slice none 0 0), .k (.bool false), .k (.slice none 0 0)], .s (.c 3 4)])) (.em (.call 51 [.g [.c 1 0, .c 1 1, .c 1 2, .c 1 3], .g [.c 3 0, .c 3 1, .c 3 2, .c 3 3]] [none]) (.em (.pr (.binOp .gtr 3 (.tmp 0) (.const (.int .i64 0)) 3) 4 [.s (.c 5 0), .s (.k (.int .i64 0))]) (.cond (.c 6 0) (.ret (.t [.g [.k (.bool false), .k (.slice none 0 0), .k (.bool false), .k (.slice none 0 0), .k (.bool false), .k (.slice none 0 0), .k (.bool false), .k (.slice none 0 0)], .s (.k (.int .i64 1))])) (.ret (.t [.g [.c 1 0, .c 1 1, .c 1 2, .c 1 3, .c 3 0, .c 3 1, .c 3 2, .c 3 3], .s (.k (.int .i64 0))])))))))))))) (by kernel_rfl) (by kernel_rfl) (by kernel_rfl) Mono.true trivial ⟨rfl, trivial⟩ ?_
  refine wRatV (fun w b _ => qparse_ok s w hs h.1) rfl (fun _ _ _ _ => ?_)
  refine wPr (prNe rfl rfl) rfl ?_
  refine wFalse rfl ?_
  refine wRatV (fun w b _ => qparse_ok r w hr h.2.1) rfl (fun _ _ _ _ => ?_)
  refine wPr (prNe rfl rfl) rfl ?_
  refine wFalse rfl ?_
  refine wVal (fun w b ⟨h2, h1, _⟩ => qcmp_any _ _ _ _ 500 500 w ⟨_, _, _, _, rfl, h1⟩ ⟨_, _, _, _, rfl, h2⟩ (by decide) (by decide)) rfl ?_
  refine wPr (prGt rfl rfl) rfl ?_
  refine wFalse (by show Value.bool (decide _) = _; rw [v_gt, decide_eq_false (by have := h.2.2; grind)]) ?_
  exact wRet fun w b ⟨h2, h1, _⟩ => ⟨_, rfl, ⟨_, _, _, _, _, _, _, _, rfl, h1, h2⟩, b⟩
open Classical in
noncomputable def spCode (s r : ByteArray) : Int := if RatOk s ∧ RatOk r then (if ratVal s ≤ ratVal r then 0 else 1) else 2
theorem spCode_no {s r : ByteArray} (h : ¬ SpOk s r) : spCode s r = 1 ∨ spCode s r = 2 := by
  unfold spCode
  split
  · next h1 =>
    rw [if_neg (fun h2 => h ⟨h1.1, h1.2, h2⟩)]; exact .inl rfl
  · exact .inr rfl
def ZeroT : List Value := [.bool false, .slice none 0 0, .slice none 0 0, .bool false, .slice none 0 0, .slice none 0 0]
theorem dsparseY (s r : ByteArray) (w : World) (hs : s.size ≤ 9223372036854775807) (hr : r.size ≤ 9223372036854775807) (h : SpOk s r) :
    Calls Tryz.prog 53 #[.agg #[.string s, .string r]] w fun e w' => ∃ v', e = .returned (.tuple #[v', .int .i64 0]) ∧ DsB w' v' (ratVal s) (ratVal r) 500 ∧ Below w.heap.size w w' := by
  refine go (fun _ => True) [[.string s, .string r]] [some 2] (tr := (.em (.call 35 [.s (.c 0 0)] [some 3, none]) (.em (.call 35 [.s (.c 0 1)] [some 3, none]) (.em (.pr (.unOp .not 4 (.tmp 0)) 4 [.s (.c 1 3)]) (.cond (.c 3 0) (.ret (.t [.g [.k (.bool false), .k (.slice none 0 0), .k (.slice none 0 0), .k (.bool false), .k (.slice none 0 0), .k (.slice none 0 0)], .s (.k (.int .i64 2))])) (.em (.pr (.unOp .not 4 (.tmp 0)) 4 [.s (.c 2 3)]) (.cond (.c 4 0) (.ret (.t [.g [.k (.bool false), .k (.slice none 0 0), .k (.slice none 0 0), .k (.bool false), .k (.slice none 0 0), .k (.slice none 0 0)], .s (.k (.int .i64 2))])) (.em (.call 30 [.g [.c 1 0, .c 1 1, .c 1 2], .g [.c 2 0, .c 2 1, .c 2 2]] [none]) (.em (.pr (.binOp .gtr 3 (.tmp 0) (.const (.int .i64 0)) 3) 4 [.s (.c 5 0), .s (.k (.int .i64 0))]) (.cond (.c 6 0) (.ret (.t [.g [.k (.bool false), .k (.slice none 0 0), .k (.slice none 0 0), .k (.bool false), .k (.slice none 0 0), .k (.slice none 0 0)], .s (.k (.int .i64 1))])) (.ret (.t [.g [.c 1 0, .c 1 1, .c 1 2, .c 2 0, .c 2 1, .c 2 2], .s (.k (.int .i64 0))])))))))))))) (by kernel_rfl) (by kernel_rfl) (by kernel_rfl) Mono.true trivial ⟨rfl, trivial⟩ ?_
  refine wDQV (fun w b _ => dparseY s w hs h.1) rfl (fun _ _ _ => ?_)
  refine wDQV (fun w b _ => dparseY r w hr h.2.1) rfl (fun _ _ _ => ?_)
  refine wPr (prNot rfl) rfl ?_
  refine wFalse rfl ?_
  refine wPr (prNot rfl) rfl ?_
  refine wFalse rfl ?_
  refine wVal (fun w b ⟨h2, h1, _⟩ => dcmp_any _ _ _ _ 500 500 w ⟨_, _, _, rfl, h1⟩ ⟨_, _, _, rfl, h2⟩ (by decide) (by decide)) rfl ?_
  refine wPr (prGt rfl rfl) rfl ?_
  refine wFalse (by show Value.bool (decide _) = _; rw [v_gt, decide_eq_false (by have := h.2.2; grind)]) ?_
  exact wRet fun w b ⟨h2, h1, _⟩ => ⟨_, rfl, ⟨_, _, _, _, _, _, rfl, h1, h2⟩, b⟩
theorem wNo {w0 : World} {Post : Ending → World → Prop} {F : World → Prop} {L : LC} {E : Env} {tr : Tr} {ar : List V1} {D Z : TypeId → Bool} (s : ByteArray) (hs : s.size ≤ 9223372036854775807) (h : ¬ RatOk s)
    {E' : Value → Value → Value → Env} (hk : ∀ a b d, Wk Tryz.prog w0 D Z Post L F tr (E' a b d)) (ha : (ar.map (V1.den [] E)).toArray = #[.string s] := by rfl)
    (hE : ∀ a b d, E ++ [[a, b, d, .bool false]] = E' a b d := by intros; (simp only [List.cons_append, List.nil_append]) <;> exact rfl) : Wk Tryz.prog w0 D Z Post L F (.em (.call 35 ar [some 3, none]) tr) E := by
  intro hm u hF w e b
  rw [ha]
  refine (dparse_any s w hs).mono ?_
  rintro e1 w' (⟨h', _⟩ | ⟨_, a, b, d, rfl, hp, hb⟩)
  · exact absurd h' h
  · simp only [List.all_cons, List.all_nil, Bool.and_true, Bool.and_eq_true] at hp
    exact ⟨[a, b, d, .bool false], rfl, by simp only [List.all_cons, List.all_nil, Bool.and_true, Bool.and_eq_true]; exact ⟨hp.1, hp.2.1, hp.2.2, rfl⟩, hb, hE _ _ _ ▸ hk _ _ _ hm (u.more w w') (hm u.w w' (e.below hb).ext hF)⟩
theorem dsparseN (s r : ByteArray) (w : World) (hs : s.size ≤ 9223372036854775807) (hr : r.size ≤ 9223372036854775807) (h : ¬ SpOk s r) :
    Calls Tryz.prog 53 #[.agg #[.string s, .string r]] w fun e w' => e = .returned (.tuple #[.agg ZeroT.toArray, .int .i64 (spCode s r)]) ∧ Below w.heap.size w w' := by
  refine go (fun _ => True) [[.string s, .string r]] [some 2] (tr := (.em (.call 35 [.s (.c 0 0)] [some 3, none]) (.em (.call 35 [.s (.c 0 1)] [some 3, none]) (.em (.pr (.unOp .not 4 (.tmp 0)) 4 [.s (.c 1 3)]) (.cond (.c 3 0) (.ret (.t [.g [.k (.bool false), .k (.slice none 0 0), .k (.slice none 0 0), .k (.bool false), .k (.slice none 0 0), .k (.slice none 0 0)], .s (.k (.int .i64 2))])) (.em (.pr (.unOp .not 4 (.tmp 0)) 4 [.s (.c 2 3)]) (.cond (.c 4 0) (.ret (.t [.g [.k (.bool false), .k (.slice none 0 0), .k (.slice none 0 0), .k (.bool false), .k (.slice none 0 0), .k (.slice none 0 0)], .s (.k (.int .i64 2))])) (.em (.call 30 [.g [.c 1 0, .c 1 1, .c 1 2], .g [.c 2 0, .c 2 1, .c 2 2]] [none]) (.em (.pr (.binOp .gtr 3 (.tmp 0) (.const (.int .i64 0)) 3) 4 [.s (.c 5 0), .s (.k (.int .i64 0))]) (.cond (.c 6 0) (.ret (.t [.g [.k (.bool false), .k (.slice none 0 0), .k (.slice none 0 0), .k (.bool false), .k (.slice none 0 0), .k (.slice none 0 0)], .s (.k (.int .i64 1))])) (.ret (.t [.g [.c 1 0, .c 1 1, .c 1 2, .c 2 0, .c 2 1, .c 2 2], .s (.k (.int .i64 0))])))))))))))) (by kernel_rfl) (by kernel_rfl) (by kernel_rfl) Mono.true trivial ⟨rfl, trivial⟩ ?_
  unfold spCode
  by_cases h1 : RatOk s
  · refine wDQV (fun w b _ => dparseY s w hs h1) rfl (fun _ _ _ => ?_)
    by_cases h2 : RatOk r
    · refine wDQV (fun w b _ => dparseY r w hr h2) rfl (fun _ _ _ => ?_)
      refine wPr (prNot rfl) rfl ?_
      refine wFalse rfl ?_
      refine wPr (prNot rfl) rfl ?_
      refine wFalse rfl ?_
      refine wVal (fun w b ⟨h2, h1, _⟩ => dcmp_any _ _ _ _ 500 500 w ⟨_, _, _, rfl, h1⟩ ⟨_, _, _, rfl, h2⟩ (by decide) (by decide)) rfl ?_
      refine wPr (prGt rfl rfl) rfl ?_
      have h3 : ¬ ratVal s ≤ ratVal r := fun h3 => h ⟨h1, h2, h3⟩
      refine wTrue (by show Value.bool (decide _) = _; rw [v_gt, decide_eq_true (by grind)]) ?_
      exact wRet fun w b _ => ⟨by rw [if_pos ⟨h1, h2⟩, if_neg h3]; rfl, b⟩
    · refine wNo r hr h2 (fun _ _ _ => ?_)
      refine wPr (prNot rfl) rfl ?_
      refine wFalse rfl ?_
      refine wPr (prNot rfl) rfl ?_
      refine wTrue rfl ?_
      exact wRet fun w b _ => ⟨by rw [if_neg (fun h => h2 h.2)]; rfl, b⟩
  · refine wNo s hs h1 (fun _ _ _ => ?_)
    by_cases h2 : RatOk r
    · refine wDQV (fun w b _ => dparseY r w hr h2) rfl (fun _ _ _ => ?_)
      refine wPr (prNot rfl) rfl ?_
      refine wTrue rfl ?_
      exact wRet fun w b _ => ⟨by rw [if_neg (fun h => h1 h.1)]; rfl, b⟩
    · refine wNo r hr h2 (fun _ _ _ => ?_)
      refine wPr (prNot rfl) rfl ?_
      refine wTrue rfl ?_
      exact wRet fun w b _ => ⟨by rw [if_neg (fun h => h1 h.1)]; rfl, b⟩
theorem is5_any (v u : Value) (x y : Rat) (k j : Nat) (w : World) (h : SpB w v x y k) (h' : DsB w u x y j) (hk : k ≤ 200000) (hj : j ≤ 200000) (hT : TabsP w) :
    Calls Tryz.prog 39 #[v, u] w fun e w' => e = .returned (.bool true) ∧ Below w.heap.size w w' := by
  obtain ⟨a, b, c, d, a', b', c', d', rfl, h⟩ := h
  obtain ⟨p, q, r, p', q', r', rfl, h'⟩ := h'
  refine go (fun w => SpQ w a b c d a' b' c' d' x y k ∧ DsQ w p q r p' q' r' x y j) [[a, b, c, d, a', b', c', d'], [p, q, r, p', q', r']] [some 8, some 6] (tr := (.em (.call 73 [.g [.c 0 0, .c 0 1, .c 0 2, .c 0 3], .g [.c 1 0, .c 1 1, .c 1 2]] [none]) (.cond (.c 2 0) (.em (.call 73 [.g [.c 0 4, .c 0 5, .c 0 6, .c 0 7], .g [.c 1 3, .c 1 4, .c 1 5]] [none]) (.ret (.v (.s (.c 3 0))))) (.ret (.v (.s (.k (.bool false)))))))) (by kernel_rfl) (by kernel_rfl) (by kernel_rfl) ((mSp _ _ _ _ _ _ _ _ _ _ _).and (mDs _ _ _ _ _ _ _ _ _)) ⟨h, h'⟩ ⟨spl h, dspl h', trivial⟩ ?_
  refine wVal (fun w b ⟨h, h'⟩ => is_any _ _ x k j w ⟨_, _, _, _, rfl, h.1⟩ ⟨_, _, _, rfl, h'.1⟩ hk hj (hT.below b)) rfl ?_
  refine wTrue rfl ?_
  refine wVal (fun w b ⟨h, h'⟩ => is_any _ _ y k j w ⟨_, _, _, _, rfl, h.2⟩ ⟨_, _, _, rfl, h'.2⟩ hk hj (hT.below b)) rfl ?_
  exact wRet fun w b _ => ⟨rfl, b⟩
def OfOk (s r : ByteArray) : Prop := SpOk s r ∧ s.size ≤ 60 ∧ r.size ≤ 60
theorem ofOk_lt {s r : ByteArray} (h : OfOk s r) : (ratVal s).num.natAbs < pw 21 ∧ (ratVal s).den < pw 21 ∧ (ratVal r).num.natAbs < pw 21 ∧ (ratVal r).den < pw 21 := by
  obtain ⟨h1, h2⟩ := numQ_lt (s := s) ⟨h.1.1, by have := h.2.1; omega⟩
  obtain ⟨h3, h4⟩ := numQ_lt (s := r) ⟨h.1.2.1, by have := h.2.2; omega⟩
  exact ⟨h1, h2, h3, h4⟩
theorem ofY (s r : ByteArray) (w : World) (hs : s.size ≤ 9223372036854775807) (hr : r.size ≤ 9223372036854775807) (h : OfOk s r) :
    Calls Tryz.prog 27 #[.agg #[.string s, .string r]] w fun e w' => ∃ v u, e = .returned (.tuple #[v, u, .bool true]) ∧ SpB w' v (ratVal s) (ratVal r) 21 ∧ DsB w' u (ratVal s) (ratVal r) 21 ∧ Below w.heap.size w w' := by
  obtain ⟨l1, l2, l3, l4⟩ := ofOk_lt h
  have z1 := h.2.1
  have z2 := h.2.2
  refine go (fun _ => True) [[.string s, .string r]] [some 2] (tr := (.em (.call 53 [.g [.c 0 0, .c 0 1]] [some 6, none]) (.em (.pr (.binOp .neq 70 (.tmp 0) (.const (.int .i64 0)) 70) 4 [.s (.c 1 6), .s (.k (.int .i64 0))]) (.cond (.c 2 0) (.ret (.t [.g [.k (.bool false), .k (.slice none 0 0), .k (.bool false), .k (.slice none 0 0), .k (.bool false), .k (.slice none 0 0), .k (.bool false), .k (.slice none 0 0)], .g [.k (.bool false), .k (.slice none 0 0), .k (.slice none 0 0), .k (.bool false), .k (.slice none 0 0), .k (.slice none 0 0)], .s (.k (.bool false))])) (.em (.pr (.call (.mk (.builtin .len) #[.tmp 0] #[9])) 3 [.s (.c 0 0)]) (.em (.pr (.binOp .gtr 3 (.tmp 0) (.const (.int .i64 60)) 3) 4 [.s (.c 3 0), .s (.k (.int .i64 60))]) (.cond (.c 4 0) (.ret (.t [.g [.k (.bool false), .k (.slice none 0 0), .k (.bool false), .k (.slice none 0 0), .k (.bool false), .k (.slice none 0 0), .k (.bool false), .k (.slice none 0 0)], .g [.k (.bool false), .k (.slice none 0 0), .k (.slice none 0 0), .k (.bool false), .k (.slice none 0 0), .k (.slice none 0 0)], .s (.k (.bool false))])) (.em (.pr (.call (.mk (.builtin .len) #[.tmp 0] #[9])) 3 [.s (.c 0 1)]) (.em (.pr (.binOp .gtr 3 (.tmp 0) (.const (.int .i64 60)) 3) 4 [.s (.c 5 0), .s (.k (.int .i64 60))]) (.cond (.c 6 0) (.ret (.t [.g [.k (.bool false), .k (.slice none 0 0), .k (.bool false), .k (.slice none 0 0), .k (.bool false), .k (.slice none 0 0), .k (.bool false), .k (.slice none 0 0)], .g [.k (.bool false), .k (.slice none 0 0), .k (.slice none 0 0), .k (.bool false), .k (.slice none 0 0), .k (.slice none 0 0)], .s (.k (.bool false))])) (.em (.call 54 [.g [.c 0 0, .c 0 1]] [some 8, none]) (.ret (.t [.g [.c 7 0, .c 7 1, .c 7 2, .c 7 3, .c 7 4, .c 7 5, .c 7 6, .c 7 7], .g [.c 1 0, .c 1 1, .c 1 2, .c 1 3, .c 1 4, .c 1 5], .s (.k (.bool true))]))))))))))))) (by kernel_rfl) (by kernel_rfl) (by kernel_rfl) Mono.true trivial ⟨rfl, trivial⟩ ?_
  refine wDsV (fun w b _ => dsparseY s r w hs hr h.1) rfl (fun _ _ _ _ _ _ => ?_)
  refine wPr (prNe rfl rfl) rfl ?_
  refine wFalse rfl ?_
  refine wPr (prLenS hStrT rfl) rfl ?_
  refine wPr (prGt rfl rfl) rfl ?_
  refine wFalse (by show Value.bool (decide _) = _; rw [decide_eq_false (by omega)]) ?_
  refine wPr (prLenS hStrT rfl) rfl ?_
  refine wPr (prGt rfl rfl) rfl ?_
  refine wFalse (by show Value.bool (decide _) = _; rw [decide_eq_false (by omega)]) ?_
  refine wSpV (fun w b _ => sparseY s r w hs hr h.1) rfl (fun _ _ _ _ _ _ _ _ => ?_)
  exact wRet fun w b ⟨h1, h2, _⟩ => ⟨_, _, rfl, ⟨_, _, _, _, _, _, _, _, rfl, h1.1.cut l1 l2, h1.2.cut l3 l4⟩, ⟨_, _, _, _, _, _, rfl, h2.1.cut l1 l2, h2.2.cut l3 l4⟩, b⟩
theorem ofN (s r : ByteArray) (w : World) (hs : s.size ≤ 9223372036854775807) (hr : r.size ≤ 9223372036854775807) (h : ¬ OfOk s r) :
    Calls Tryz.prog 27 #[.agg #[.string s, .string r]] w fun e w' => e = .returned (.tuple #[.agg ZeroS.toArray, .agg ZeroT.toArray, .bool false]) ∧ Below w.heap.size w w' := by
  refine go (fun _ => True) [[.string s, .string r]] [some 2] (tr := (.em (.call 53 [.g [.c 0 0, .c 0 1]] [some 6, none]) (.em (.pr (.binOp .neq 70 (.tmp 0) (.const (.int .i64 0)) 70) 4 [.s (.c 1 6), .s (.k (.int .i64 0))]) (.cond (.c 2 0) (.ret (.t [.g [.k (.bool false), .k (.slice none 0 0), .k (.bool false), .k (.slice none 0 0), .k (.bool false), .k (.slice none 0 0), .k (.bool false), .k (.slice none 0 0)], .g [.k (.bool false), .k (.slice none 0 0), .k (.slice none 0 0), .k (.bool false), .k (.slice none 0 0), .k (.slice none 0 0)], .s (.k (.bool false))])) (.em (.pr (.call (.mk (.builtin .len) #[.tmp 0] #[9])) 3 [.s (.c 0 0)]) (.em (.pr (.binOp .gtr 3 (.tmp 0) (.const (.int .i64 60)) 3) 4 [.s (.c 3 0), .s (.k (.int .i64 60))]) (.cond (.c 4 0) (.ret (.t [.g [.k (.bool false), .k (.slice none 0 0), .k (.bool false), .k (.slice none 0 0), .k (.bool false), .k (.slice none 0 0), .k (.bool false), .k (.slice none 0 0)], .g [.k (.bool false), .k (.slice none 0 0), .k (.slice none 0 0), .k (.bool false), .k (.slice none 0 0), .k (.slice none 0 0)], .s (.k (.bool false))])) (.em (.pr (.call (.mk (.builtin .len) #[.tmp 0] #[9])) 3 [.s (.c 0 1)]) (.em (.pr (.binOp .gtr 3 (.tmp 0) (.const (.int .i64 60)) 3) 4 [.s (.c 5 0), .s (.k (.int .i64 60))]) (.cond (.c 6 0) (.ret (.t [.g [.k (.bool false), .k (.slice none 0 0), .k (.bool false), .k (.slice none 0 0), .k (.bool false), .k (.slice none 0 0), .k (.bool false), .k (.slice none 0 0)], .g [.k (.bool false), .k (.slice none 0 0), .k (.slice none 0 0), .k (.bool false), .k (.slice none 0 0), .k (.slice none 0 0)], .s (.k (.bool false))])) (.em (.call 54 [.g [.c 0 0, .c 0 1]] [some 8, none]) (.ret (.t [.g [.c 7 0, .c 7 1, .c 7 2, .c 7 3, .c 7 4, .c 7 5, .c 7 6, .c 7 7], .g [.c 1 0, .c 1 1, .c 1 2, .c 1 3, .c 1 4, .c 1 5], .s (.k (.bool true))]))))))))))))) (by kernel_rfl) (by kernel_rfl) (by kernel_rfl) Mono.true trivial ⟨rfl, trivial⟩ ?_
  by_cases h1 : SpOk s r
  · refine wDsV (fun w b _ => dsparseY s r w hs hr h1) rfl (fun _ _ _ _ _ _ => ?_)
    refine wPr (prNe rfl rfl) rfl ?_
    refine wFalse rfl ?_
    refine wPr (prLenS hStrT rfl) rfl ?_
    refine wPr (prGt rfl rfl) rfl ?_
    refine wIf _ rfl (fun e => ?_) (fun e => ?_)
    · exact wRet fun w b _ => ⟨rfl, b⟩
    have z1 : ¬ (60 : Int) < (s.size : Int) := by simpa using e
    refine wPr (prLenS hStrT rfl) rfl ?_
    refine wPr (prGt rfl rfl) rfl ?_
    refine wTrue (by show Value.bool (decide _) = _; rw [decide_eq_true]; have : ¬ r.size ≤ 60 := fun z2 => h ⟨h1, by omega, z2⟩; omega) ?_
    exact wRet fun w b _ => ⟨rfl, b⟩
  · refine wKnown (ZeroT ++ [.int .i64 (spCode s r)]) (fun w b _ => dsparseN s r w hs hr h1) rfl rfl ?_ (hE := rfl)
    refine wPr (prNe rfl rfl) rfl ?_
    refine wTrue (by show Value.bool (spCode s r != 0) = _; rcases spCode_no h1 with e | e <;> rw [e] <;> rfl) ?_
    exact wRet fun w b _ => ⟨rfl, b⟩
section prims
variable {P : Program} {t t2 ty : TypeId} {vs : List Value} {p q : Operand} {x y : Int}
end prims
end Go.Proofs.YtpmnakjllkidiaaGreatDoor
