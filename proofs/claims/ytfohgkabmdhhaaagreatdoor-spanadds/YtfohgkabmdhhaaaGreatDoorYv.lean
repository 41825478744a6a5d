/- Contracts of package span: questions, texts; what the laws of intervals have in common. -/
import Derived.Test.YtfohgkabmdhhaaaGreatDoorYu
import Derived.Test.YtfohgkabmdhhaaaGreatDoorYg
import Derived.Great.BuildSlice
import Derived.Maps.AppendAt
namespace Go.Proofs.YtfohgkabmdhhaaaGreatDoor
open Go.RowKit Cin
def SpOk (s r : ByteArray) : Prop := RatOk s ∧ RatOk r ∧ ratVal s ≤ ratVal r
theorem sparseY (s r : ByteArray) (w : World) (hs : s.size ≤ 9223372036854775807) (hr : r.size ≤ 9223372036854775807) (h : SpOk s r) :
    Calls Tryz.prog 13 #[.agg #[.string s, .string r]] w fun e w' => ∃ v', e = .returned (.tuple #[v', .int .i64 0]) ∧ SpB w' v' (ratVal s) (ratVal r) 500 ∧ Below w.heap.size w w' := by
  refine go (fun _ => True) [[.string s, .string r]] [some 2] (tr := (.em (.call 64 [.s (.c 0 0)] [some 4, none]) (.em (.pr (.binOp .neq 34 (.tmp 0) (.const (.int .i64 0)) 34) 4 [.s (.c 1 4), .s (.k (.int .i64 0))]) (.cond (.c 2 0) (.ret (.t [.g [.k (.bool false), .k (.slice none 0 0), .k (.bool false), .k (.slice none 0 0), .k (.bool false), .k (.slice none 0 0), .k (.bool false), .k (.slice none 0 0)], .s (.c 1 4)])) (.em (.call 64 [.s (.c 0 1)] [some 4, none]) (.em (.pr (.binOp .neq 34 (.tmp 0) (.const (.int .i64 0)) 34) 4 [.s (.c 3 4), .s (.k (.int .i64 0))]) (.cond (.c 4 0) (.ret (.t [.g [.k (.bool false), .k (.slice none 0 0), .k (.bool false), .k (.slice none 0 0), .k (.bool false), .k (.slice none 0 0), .k (.bool false), .k (.slice none 0 0)], .s (.c 3 4)])) (.em (.call 60 [.g [.c 1 0, .c 1 1, .c 1 2, .c 1 3], .g [.c 3 0, .c 3 1, .c 3 2, .c 3 3]] [none]) (.em (.pr (.binOp .gtr 3 (.tmp 0) (.const (.int .i64 0)) 3) 4 [.s (.c 5 0), .s (.k (.int .i64 0))]) (.cond (.c 6 0) (.ret (.t [.g [.k (.bool false), .k (.slice none 0 0), .k (.bool false), .k (.slice none 0 0), .k (.bool false), .k (.slice none 0 0), .k (.bool false), .k (.slice none 0 0)], .s (.k (.int .i64 1))])) (.ret (.t [.g [.c 1 0, .c 1 1, .c 1 2, .c 1 3, .c 3 0, .c 3 1, .c 3 2, .c 3 3], .s (.k (.int .i64 0))])))))))))))) (by kernel_rfl) (by kernel_rfl) (by kernel_rfl) Mono.true trivial ⟨rfl, trivial⟩ ?_
  refine wRatV (fun w b _ => qparse_ok s w hs h.1) rfl (fun _ _ _ _ => ?_)
  refine wPr (prNe rfl rfl) rfl ?_
  refine wFalse rfl ?_
  refine wRatV (fun w b _ => qparse_ok r w hr h.2.1) rfl (fun _ _ _ _ => ?_)
  refine wPr (prNe rfl rfl) rfl ?_
  refine wFalse rfl ?_
  refine wVal (fun w b ⟨h2, h1, _⟩ => qcmp_any _ _ _ _ 500 500 w ⟨_, _, _, _, rfl, h1⟩ ⟨_, _, _, _, rfl, h2⟩ (by decide) (by decide)) rfl ?_
  refine wPr (prGt rfl rfl) rfl ?_
  refine wFalse (by show Value.bool (decide _) = _; rw [v_gt, decide_eq_false (by have := h.2.2; grind)]) ?_
  exact wRet fun w b ⟨h2, h1, _⟩ => ⟨_, rfl, ⟨_, _, _, _, _, _, _, _, rfl, h1, h2⟩, b⟩
open Classical in
noncomputable def spCode (s r : ByteArray) : Int := if RatOk s ∧ RatOk r then (if ratVal s ≤ ratVal r then 0 else 1) else 2
theorem spCode_no {s r : ByteArray} (h : ¬ SpOk s r) : spCode s r = 1 ∨ spCode s r = 2 := by
  unfold spCode
  split
  · next h1 =>
    rw [if_neg (fun h2 => h ⟨h1.1, h1.2, h2⟩)]; exact .inl rfl
  · exact .inr rfl
def ZeroT : List Value := [.bool false, .slice none 0 0, .slice none 0 0, .bool false, .slice none 0 0, .slice none 0 0]
theorem dsparseY (s r : ByteArray) (w : World) (hs : s.size ≤ 9223372036854775807) (hr : r.size ≤ 9223372036854775807) (h : SpOk s r) :
    Calls Tryz.prog 14 #[.agg #[.string s, .string r]] w fun e w' => ∃ v', e = .returned (.tuple #[v', .int .i64 0]) ∧ DsB w' v' (ratVal s) (ratVal r) 500 ∧ Below w.heap.size w w' := by
  refine go (fun _ => True) [[.string s, .string r]] [some 2] (tr := (.em (.call 65 [.s (.c 0 0)] [some 3, none]) (.em (.call 65 [.s (.c 0 1)] [some 3, none]) (.em (.pr (.unOp .not 4 (.tmp 0)) 4 [.s (.c 1 3)]) (.cond (.c 3 0) (.ret (.t [.g [.k (.bool false), .k (.slice none 0 0), .k (.slice none 0 0), .k (.bool false), .k (.slice none 0 0), .k (.slice none 0 0)], .s (.k (.int .i64 2))])) (.em (.pr (.unOp .not 4 (.tmp 0)) 4 [.s (.c 2 3)]) (.cond (.c 4 0) (.ret (.t [.g [.k (.bool false), .k (.slice none 0 0), .k (.slice none 0 0), .k (.bool false), .k (.slice none 0 0), .k (.slice none 0 0)], .s (.k (.int .i64 2))])) (.em (.call 17 [.g [.c 1 0, .c 1 1, .c 1 2], .g [.c 2 0, .c 2 1, .c 2 2]] [none]) (.em (.pr (.binOp .gtr 3 (.tmp 0) (.const (.int .i64 0)) 3) 4 [.s (.c 5 0), .s (.k (.int .i64 0))]) (.cond (.c 6 0) (.ret (.t [.g [.k (.bool false), .k (.slice none 0 0), .k (.slice none 0 0), .k (.bool false), .k (.slice none 0 0), .k (.slice none 0 0)], .s (.k (.int .i64 1))])) (.ret (.t [.g [.c 1 0, .c 1 1, .c 1 2, .c 2 0, .c 2 1, .c 2 2], .s (.k (.int .i64 0))])))))))))))) (by kernel_rfl) (by kernel_rfl) (by kernel_rfl) Mono.true trivial ⟨rfl, trivial⟩ ?_
  refine wDQV (fun w b _ => dparseY s w hs h.1) rfl (fun _ _ _ => ?_)
  refine wDQV (fun w b _ => dparseY r w hr h.2.1) rfl (fun _ _ _ => ?_)
  refine wPr (prNot rfl) rfl ?_
  refine wFalse rfl ?_
  refine wPr (prNot rfl) rfl ?_
  refine wFalse rfl ?_
  refine wVal (fun w b ⟨h2, h1, _⟩ => dcmp_any _ _ _ _ 500 500 w ⟨_, _, _, rfl, h1⟩ ⟨_, _, _, rfl, h2⟩ (by decide) (by decide)) rfl ?_
  refine wPr (prGt rfl rfl) rfl ?_
  refine wFalse (by show Value.bool (decide _) = _; rw [v_gt, decide_eq_false (by have := h.2.2; grind)]) ?_
  exact wRet fun w b ⟨h2, h1, _⟩ => ⟨_, rfl, ⟨_, _, _, _, _, _, rfl, h1, h2⟩, b⟩
theorem wNo {w0 : World} {Post : Ending → World → Prop} {F : World → Prop} {L : LC} {E : Env} {tr : Tr} {ar : List V1} {D Z : TypeId → Bool} (s : ByteArray) (hs : s.size ≤ 9223372036854775807) (h : ¬ RatOk s)
    {E' : Value → Value → Value → Env} (hk : ∀ a b d, Wk Tryz.prog w0 D Z Post L F tr (E' a b d)) (ha : (ar.map (V1.den [] E)).toArray = #[.string s] := by rfl)
    (hE : ∀ a b d, E ++ [[a, b, d, .bool false]] = E' a b d := by intros; (simp only [List.cons_append, List.nil_append]) <;> exact rfl) : Wk Tryz.prog w0 D Z Post L F (.em (.call 65 ar [some 3, none]) tr) E := by
  intro hm u hF w e b
  rw [ha]
  refine (dparse_any s w hs).mono ?_
  rintro e1 w' (⟨h', _⟩ | ⟨_, a, b, d, rfl, hp, hb⟩)
  · exact absurd h' h
  · simp only [List.all_cons, List.all_nil, Bool.and_true, Bool.and_eq_true] at hp
    exact ⟨[a, b, d, .bool false], rfl, by simp only [List.all_cons, List.all_nil, Bool.and_true, Bool.and_eq_true]; exact ⟨hp.1, hp.2.1, hp.2.2, rfl⟩, hb, hE _ _ _ ▸ hk _ _ _ hm w' (hm u w' (e.below hb) hF)⟩
theorem dsparseN (s r : ByteArray) (w : World) (hs : s.size ≤ 9223372036854775807) (hr : r.size ≤ 9223372036854775807) (h : ¬ SpOk s r) :
    Calls Tryz.prog 14 #[.agg #[.string s, .string r]] w fun e w' => e = .returned (.tuple #[.agg ZeroT.toArray, .int .i64 (spCode s r)]) ∧ Below w.heap.size w w' := by
  refine go (fun _ => True) [[.string s, .string r]] [some 2] (tr := (.em (.call 65 [.s (.c 0 0)] [some 3, none]) (.em (.call 65 [.s (.c 0 1)] [some 3, none]) (.em (.pr (.unOp .not 4 (.tmp 0)) 4 [.s (.c 1 3)]) (.cond (.c 3 0) (.ret (.t [.g [.k (.bool false), .k (.slice none 0 0), .k (.slice none 0 0), .k (.bool false), .k (.slice none 0 0), .k (.slice none 0 0)], .s (.k (.int .i64 2))])) (.em (.pr (.unOp .not 4 (.tmp 0)) 4 [.s (.c 2 3)]) (.cond (.c 4 0) (.ret (.t [.g [.k (.bool false), .k (.slice none 0 0), .k (.slice none 0 0), .k (.bool false), .k (.slice none 0 0), .k (.slice none 0 0)], .s (.k (.int .i64 2))])) (.em (.call 17 [.g [.c 1 0, .c 1 1, .c 1 2], .g [.c 2 0, .c 2 1, .c 2 2]] [none]) (.em (.pr (.binOp .gtr 3 (.tmp 0) (.const (.int .i64 0)) 3) 4 [.s (.c 5 0), .s (.k (.int .i64 0))]) (.cond (.c 6 0) (.ret (.t [.g [.k (.bool false), .k (.slice none 0 0), .k (.slice none 0 0), .k (.bool false), .k (.slice none 0 0), .k (.slice none 0 0)], .s (.k (.int .i64 1))])) (.ret (.t [.g [.c 1 0, .c 1 1, .c 1 2, .c 2 0, .c 2 1, .c 2 2], .s (.k (.int .i64 0))])))))))))))) (by kernel_rfl) (by kernel_rfl) (by kernel_rfl) Mono.true trivial ⟨rfl, trivial⟩ ?_
  unfold spCode
  by_cases h1 : RatOk s
  · refine wDQV (fun w b _ => dparseY s w hs h1) rfl (fun _ _ _ => ?_)
    by_cases h2 : RatOk r
    · refine wDQV (fun w b _ => dparseY r w hr h2) rfl (fun _ _ _ => ?_)
      refine wPr (prNot rfl) rfl ?_
      refine wFalse rfl ?_
      refine wPr (prNot rfl) rfl ?_
      refine wFalse rfl ?_
      refine wVal (fun w b ⟨h2, h1, _⟩ => dcmp_any _ _ _ _ 500 500 w ⟨_, _, _, rfl, h1⟩ ⟨_, _, _, rfl, h2⟩ (by decide) (by decide)) rfl ?_
      refine wPr (prGt rfl rfl) rfl ?_
      have h3 : ¬ ratVal s ≤ ratVal r := fun h3 => h ⟨h1, h2, h3⟩
      refine wTrue (by show Value.bool (decide _) = _; rw [v_gt, decide_eq_true (by grind)]) ?_
      exact wRet fun w b _ => ⟨by rw [if_pos ⟨h1, h2⟩, if_neg h3]; rfl, b⟩
    · refine wNo r hr h2 (fun _ _ _ => ?_)
      refine wPr (prNot rfl) rfl ?_
      refine wFalse rfl ?_
      refine wPr (prNot rfl) rfl ?_
      refine wTrue rfl ?_
      exact wRet fun w b _ => ⟨by rw [if_neg (fun h => h2 h.2)]; rfl, b⟩
  · refine wNo s hs h1 (fun _ _ _ => ?_)
    by_cases h2 : RatOk r
    · refine wDQV (fun w b _ => dparseY r w hr h2) rfl (fun _ _ _ => ?_)
      refine wPr (prNot rfl) rfl ?_
      refine wTrue rfl ?_
      exact wRet fun w b _ => ⟨by rw [if_neg (fun h => h1 h.1)]; rfl, b⟩
    · refine wNo r hr h2 (fun _ _ _ => ?_)
      refine wPr (prNot rfl) rfl ?_
      refine wTrue rfl ?_
      exact wRet fun w b _ => ⟨by rw [if_neg (fun h => h1 h.1)]; rfl, b⟩
theorem point_any (v : Value) (x : Rat) (k : Nat) (w : World) (h : DRatB w v x k) :
    Calls Tryz.prog 21 #[v] w fun e w' => ∃ v', e = .returned v' ∧ DsB w' v' x x k ∧ Below w.heap.size w w' := by
  obtain ⟨a, b, d, rfl, h⟩ := h
  refine go (fun w => DQ w a b d x k) [[a, b, d]] [some 3] (tr := (.ret (.v (.g [.c 0 0, .c 0 1, .c 0 2, .c 0 0, .c 0 1, .c 0 2])))) (by kernel_rfl) (by kernel_rfl) (by kernel_rfl) (mD _ _ _ _ _) h ⟨dpl h, trivial⟩ ?_
  exact wRet fun w b h => ⟨_, rfl, ⟨_, _, _, _, _, _, rfl, h, h⟩, b⟩
theorem is5_any (v u : Value) (x y : Rat) (k j : Nat) (w : World) (h : SpB w v x y k) (h' : DsB w u x y j) (hk : k ≤ 200000) (hj : j ≤ 200000) (hT : Tabs w) :
    Calls Tryz.prog 15 #[v, u] w fun e w' => e = .returned (.bool true) ∧ Below w.heap.size w w' := by
  obtain ⟨a, b, c, d, a', b', c', d', rfl, h⟩ := h
  obtain ⟨p, q, r, p', q', r', rfl, h'⟩ := h'
  refine go (fun w => SpQ w a b c d a' b' c' d' x y k ∧ DsQ w p q r p' q' r' x y j) [[a, b, c, d, a', b', c', d'], [p, q, r, p', q', r']] [some 8, some 6] (tr := (.em (.call 45 [.g [.c 0 0, .c 0 1, .c 0 2, .c 0 3], .g [.c 1 0, .c 1 1, .c 1 2]] [none]) (.cond (.c 2 0) (.em (.call 45 [.g [.c 0 4, .c 0 5, .c 0 6, .c 0 7], .g [.c 1 3, .c 1 4, .c 1 5]] [none]) (.ret (.v (.s (.c 3 0))))) (.ret (.v (.s (.k (.bool false)))))))) (by kernel_rfl) (by kernel_rfl) (by kernel_rfl) ((mSp _ _ _ _ _ _ _ _ _ _ _).and (mDs _ _ _ _ _ _ _ _ _)) ⟨h, h'⟩ ⟨spl h, dspl h', trivial⟩ ?_
  refine wVal (fun w b ⟨h, h'⟩ => is_any _ _ x k j w ⟨_, _, _, _, rfl, h.1⟩ ⟨_, _, _, rfl, h'.1⟩ hk hj (hT.below b)) rfl ?_
  refine wTrue rfl ?_
  refine wVal (fun w b ⟨h, h'⟩ => is_any _ _ y k j w ⟨_, _, _, _, rfl, h.2⟩ ⟨_, _, _, rfl, h'.2⟩ hk hj (hT.below b)) rfl ?_
  exact wRet fun w b _ => ⟨rfl, b⟩
def OfOk (s r : ByteArray) : Prop := SpOk s r ∧ s.size ≤ 60 ∧ r.size ≤ 60
theorem ofOk_lt {s r : ByteArray} (h : OfOk s r) : (ratVal s).num.natAbs < pw 21 ∧ (ratVal s).den < pw 21 ∧ (ratVal r).num.natAbs < pw 21 ∧ (ratVal r).den < pw 21 := by
  obtain ⟨h1, h2⟩ := numQ_lt (s := s) ⟨h.1.1, by have := h.2.1; omega⟩
  obtain ⟨h3, h4⟩ := numQ_lt (s := r) ⟨h.1.2.1, by have := h.2.2; omega⟩
  exact ⟨h1, h2, h3, h4⟩
theorem ofY (s r : ByteArray) (w : World) (hs : s.size ≤ 9223372036854775807) (hr : r.size ≤ 9223372036854775807) (h : OfOk s r) :
    Calls Tryz.prog 22 #[.agg #[.string s, .string r]] w fun e w' => ∃ v u, e = .returned (.tuple #[v, u, .bool true]) ∧ SpB w' v (ratVal s) (ratVal r) 21 ∧ DsB w' u (ratVal s) (ratVal r) 21 ∧ Below w.heap.size w w' := by
  obtain ⟨l1, l2, l3, l4⟩ := ofOk_lt h
  have z1 := h.2.1
  have z2 := h.2.2
  refine go (fun _ => True) [[.string s, .string r]] [some 2] (tr := (.em (.call 14 [.g [.c 0 0, .c 0 1]] [some 6, none]) (.em (.pr (.binOp .neq 34 (.tmp 0) (.const (.int .i64 0)) 34) 4 [.s (.c 1 6), .s (.k (.int .i64 0))]) (.cond (.c 2 0) (.ret (.t [.g [.k (.bool false), .k (.slice none 0 0), .k (.bool false), .k (.slice none 0 0), .k (.bool false), .k (.slice none 0 0), .k (.bool false), .k (.slice none 0 0)], .g [.k (.bool false), .k (.slice none 0 0), .k (.slice none 0 0), .k (.bool false), .k (.slice none 0 0), .k (.slice none 0 0)], .s (.k (.bool false))])) (.em (.pr (.call (.mk (.builtin .len) #[.tmp 0] #[9])) 3 [.s (.c 0 0)]) (.em (.pr (.binOp .gtr 3 (.tmp 0) (.const (.int .i64 60)) 3) 4 [.s (.c 3 0), .s (.k (.int .i64 60))]) (.cond (.c 4 0) (.ret (.t [.g [.k (.bool false), .k (.slice none 0 0), .k (.bool false), .k (.slice none 0 0), .k (.bool false), .k (.slice none 0 0), .k (.bool false), .k (.slice none 0 0)], .g [.k (.bool false), .k (.slice none 0 0), .k (.slice none 0 0), .k (.bool false), .k (.slice none 0 0), .k (.slice none 0 0)], .s (.k (.bool false))])) (.em (.pr (.call (.mk (.builtin .len) #[.tmp 0] #[9])) 3 [.s (.c 0 1)]) (.em (.pr (.binOp .gtr 3 (.tmp 0) (.const (.int .i64 60)) 3) 4 [.s (.c 5 0), .s (.k (.int .i64 60))]) (.cond (.c 6 0) (.ret (.t [.g [.k (.bool false), .k (.slice none 0 0), .k (.bool false), .k (.slice none 0 0), .k (.bool false), .k (.slice none 0 0), .k (.bool false), .k (.slice none 0 0)], .g [.k (.bool false), .k (.slice none 0 0), .k (.slice none 0 0), .k (.bool false), .k (.slice none 0 0), .k (.slice none 0 0)], .s (.k (.bool false))])) (.em (.call 13 [.g [.c 0 0, .c 0 1]] [some 8, none]) (.ret (.t [.g [.c 7 0, .c 7 1, .c 7 2, .c 7 3, .c 7 4, .c 7 5, .c 7 6, .c 7 7], .g [.c 1 0, .c 1 1, .c 1 2, .c 1 3, .c 1 4, .c 1 5], .s (.k (.bool true))]))))))))))))) (by kernel_rfl) (by kernel_rfl) (by kernel_rfl) Mono.true trivial ⟨rfl, trivial⟩ ?_
  refine wDsV (fun w b _ => dsparseY s r w hs hr h.1) rfl (fun _ _ _ _ _ _ => ?_)
  refine wPr (prNe rfl rfl) rfl ?_
  refine wFalse rfl ?_
  refine wPr (prLenS hStrT rfl) rfl ?_
  refine wPr (prGt rfl rfl) rfl ?_
  refine wFalse (by show Value.bool (decide _) = _; rw [decide_eq_false (by omega)]) ?_
  refine wPr (prLenS hStrT rfl) rfl ?_
  refine wPr (prGt rfl rfl) rfl ?_
  refine wFalse (by show Value.bool (decide _) = _; rw [decide_eq_false (by omega)]) ?_
  refine wSpV (fun w b _ => sparseY s r w hs hr h.1) rfl (fun _ _ _ _ _ _ _ _ => ?_)
  exact wRet fun w b ⟨h1, h2, _⟩ => ⟨_, _, rfl, ⟨_, _, _, _, _, _, _, _, rfl, h1.1.cut l1 l2, h1.2.cut l3 l4⟩, ⟨_, _, _, _, _, _, rfl, h2.1.cut l1 l2, h2.2.cut l3 l4⟩, b⟩
def ZeroO : List Value := [.bool false, .slice none 0 0, .bool false, .slice none 0 0, .bool false, .slice none 0 0, .bool false, .slice none 0 0, .bool false, .slice none 0 0, .slice none 0 0, .bool false, .slice none 0 0, .slice none 0 0, .bool false]
theorem ofN (s r : ByteArray) (w : World) (hs : s.size ≤ 9223372036854775807) (hr : r.size ≤ 9223372036854775807) (h : ¬ OfOk s r) :
    Calls Tryz.prog 22 #[.agg #[.string s, .string r]] w fun e w' => e = .returned (.tuple #[.agg ZeroS.toArray, .agg ZeroT.toArray, .bool false]) ∧ Below w.heap.size w w' := by
  refine go (fun _ => True) [[.string s, .string r]] [some 2] (tr := (.em (.call 14 [.g [.c 0 0, .c 0 1]] [some 6, none]) (.em (.pr (.binOp .neq 34 (.tmp 0) (.const (.int .i64 0)) 34) 4 [.s (.c 1 6), .s (.k (.int .i64 0))]) (.cond (.c 2 0) (.ret (.t [.g [.k (.bool false), .k (.slice none 0 0), .k (.bool false), .k (.slice none 0 0), .k (.bool false), .k (.slice none 0 0), .k (.bool false), .k (.slice none 0 0)], .g [.k (.bool false), .k (.slice none 0 0), .k (.slice none 0 0), .k (.bool false), .k (.slice none 0 0), .k (.slice none 0 0)], .s (.k (.bool false))])) (.em (.pr (.call (.mk (.builtin .len) #[.tmp 0] #[9])) 3 [.s (.c 0 0)]) (.em (.pr (.binOp .gtr 3 (.tmp 0) (.const (.int .i64 60)) 3) 4 [.s (.c 3 0), .s (.k (.int .i64 60))]) (.cond (.c 4 0) (.ret (.t [.g [.k (.bool false), .k (.slice none 0 0), .k (.bool false), .k (.slice none 0 0), .k (.bool false), .k (.slice none 0 0), .k (.bool false), .k (.slice none 0 0)], .g [.k (.bool false), .k (.slice none 0 0), .k (.slice none 0 0), .k (.bool false), .k (.slice none 0 0), .k (.slice none 0 0)], .s (.k (.bool false))])) (.em (.pr (.call (.mk (.builtin .len) #[.tmp 0] #[9])) 3 [.s (.c 0 1)]) (.em (.pr (.binOp .gtr 3 (.tmp 0) (.const (.int .i64 60)) 3) 4 [.s (.c 5 0), .s (.k (.int .i64 60))]) (.cond (.c 6 0) (.ret (.t [.g [.k (.bool false), .k (.slice none 0 0), .k (.bool false), .k (.slice none 0 0), .k (.bool false), .k (.slice none 0 0), .k (.bool false), .k (.slice none 0 0)], .g [.k (.bool false), .k (.slice none 0 0), .k (.slice none 0 0), .k (.bool false), .k (.slice none 0 0), .k (.slice none 0 0)], .s (.k (.bool false))])) (.em (.call 13 [.g [.c 0 0, .c 0 1]] [some 8, none]) (.ret (.t [.g [.c 7 0, .c 7 1, .c 7 2, .c 7 3, .c 7 4, .c 7 5, .c 7 6, .c 7 7], .g [.c 1 0, .c 1 1, .c 1 2, .c 1 3, .c 1 4, .c 1 5], .s (.k (.bool true))]))))))))))))) (by kernel_rfl) (by kernel_rfl) (by kernel_rfl) Mono.true trivial ⟨rfl, trivial⟩ ?_
  by_cases h1 : SpOk s r
  · refine wDsV (fun w b _ => dsparseY s r w hs hr h1) rfl (fun _ _ _ _ _ _ => ?_)
    refine wPr (prNe rfl rfl) rfl ?_
    refine wFalse rfl ?_
    refine wPr (prLenS hStrT rfl) rfl ?_
    refine wPr (prGt rfl rfl) rfl ?_
    refine wIf _ rfl (fun e => ?_) (fun e => ?_)
    · exact wRet fun w b _ => ⟨rfl, b⟩
    have z1 : ¬ (60 : Int) < (s.size : Int) := by simpa using e
    refine wPr (prLenS hStrT rfl) rfl ?_
    refine wPr (prGt rfl rfl) rfl ?_
    refine wTrue (by show Value.bool (decide _) = _; rw [decide_eq_true]; have : ¬ r.size ≤ 60 := fun z2 => h ⟨h1, by omega, z2⟩; omega) ?_
    exact wRet fun w b _ => ⟨rfl, b⟩
  · refine wKnown (ZeroT ++ [.int .i64 (spCode s r)]) (fun w b _ => dsparseN s r w hs hr h1) rfl rfl ?_ (hE := rfl)
    refine wPr (prNe rfl rfl) rfl ?_
    refine wTrue (by show Value.bool (spCode s r != 0) = _; rcases spCode_no h1 with e | e <;> rw [e] <;> rfl) ?_
    exact wRet fun w b _ => ⟨rfl, b⟩
set_option maxHeartbeats 800000 in
theorem rnatOf_four (w : World) : Calls Tryz.prog 92 #[.int .u64 4] w fun e w' => ∃ v', e = .returned v' ∧ RefB w' v' 4 1 ∧ Below w.heap.size w w' := by
  have hand : bits BinOp.and IntKind.u64 4 4294967295 = 4 := and_mask32 (t := 4) (by decide)
  go_enter Tryz.func92, Tryz.ntmps92
  go_wp2_with fail
  have hblk := Blk.new w 146 .u32 [4, 0]
  refine (rtrim_any _ [4, 0] _ (Sl.of_blk hblk) (Ok.cons (by decide) (Ok.cons (by decide) Ok.nil)) (by decide)).mono ?_
  rintro e w1 ⟨v1, rfl, hr, rfl⟩
  have HR := Lib.hid hr
  clear hr hblk hand
  go_wp2
  go_ret
  exact ⟨_, rfl, ⟨HR.out, by decide⟩, bel_alloc _ _⟩
set_option maxHeartbeats 800000 in
theorem rintOf_four (w : World) : Calls Tryz.prog 105 #[.int .i64 4] w fun e w' => ∃ v', e = .returned v' ∧ IntB 146 w' v' 4 1 ∧ Below w.heap.size w w' := by
  go_enter Tryz.func105, Tryz.ntmps105
  go_wp2_with fail
  refine (rnatOf_four _).mono ?_
  rintro e w1 ⟨v1, rfl, hn1, hb1⟩
  obtain ⟨ad1, l1, c1, xs1, rfl, _⟩ := hn1.1.shape
  have hI : IntB 146 w1 (.agg #[.bool false, .slice ad1 l1 c1]) 4 1 := intB_of (b := false) (n := 4) hn1.1 hn1.2 rfl
  have HSL := Lib.hid (Slot.of (n := 2) ((heldN1 (w := w)).below hb1).1 rfl)
  have HRR := Lib.hid (fin_int hI HSL.out (by decide) (bel_on (bel_alloc _ _) hb1) (Nat.le_refl _))
  obtain ⟨xR, yR, hxR, hyR, hfxR, hfyR⟩ := HSL.out.two
  clear hn1 hb1 hI
  go_wp2
  refine bodyPost_ret (v := .agg #[.bool false, .slice ad1 l1 c1]) (by simp [results, Tryz.results105, go_sem, HRR.out.2.2.1, HRR.out.2.2.2]) rfl ⟨_, rfl, HRR.out.1, HRR.out.2.1⟩
theorem dofFour_any (w : World) : Calls Tryz.prog 63 #[.int .i64 4] w fun e w' => ∃ v', e = .returned v' ∧ DRatB w' v' 4 1 ∧ Below w.heap.size w w' := by
  refine go (fun _ => True) [[.int .i64 4]] [none] (tr := (.em (.call 105 [.s (.c 0 0)] [some 2]) (.em (.call 92 [.s (.k (.int .u64 1))] [none]) (.ret (.v (.g [.c 1 0, .c 1 1, .c 2 0])))))) (by kernel_rfl) (by kernel_rfl) (by kernel_rfl) Mono.true trivial ⟨rfl, trivial⟩ ?_
  refine wInt hU (fun w b _ => rintOf_four w) (fun x1 y1 => ?_)
  refine wRef hU (fun w b _ => rnatOf_one w) (fun x2 => ?_)
  exact wRet fun w b ⟨h2, h1, _⟩ => ⟨_, rfl, ⟨_, _, _, rfl, h1, ⟨1, h2.1, .inl rfl⟩, h2.2⟩, b⟩
theorem alive_lo : pLo ((-1 : Int) : Rat) ((2 : Int) : Rat) (cut255 2) = 0 := by
  have e : cut255 2 = 2 := by decide
  unfold pLo
  rw [e, if_pos ⟨by decide, by decide, by decide, by decide⟩]
theorem alive_hi : pHi ((-1 : Int) : Rat) ((2 : Int) : Rat) (cut255 2) = 4 := by
  have e : cut255 2 = 2 := by decide
  unfold pHi
  rw [e, show ((-1 : Int) : Rat) = -1 from rfl, show ((2 : Int) : Rat) = 2 from rfl, mx_of (by grind)]
  grind
theorem alive5_any (w : World) (hT : Tabs w) : Calls Tryz.prog 12 #[] w fun e w' => e = .returned (.bool true) ∧ Below w.heap.size w w' := by
  refine go (fun _ => True) [] [] (tr := (.em (.call 62 [.s (.k (.int .i64 (Int.negSucc 0)))] [some 4]) (.em (.call 62 [.s (.k (.int .i64 2))] [some 4]) (.em (.call 16 [.g [.c 0 0, .c 0 1, .c 0 2, .c 0 3], .g [.c 1 0, .c 1 1, .c 1 2, .c 1 3]] [some 8, none]) (.cond (.c 2 8) (.em (.call 33 [.g [.c 2 0, .c 2 1, .c 2 2, .c 2 3, .c 2 4, .c 2 5, .c 2 6, .c 2 7], .s (.k (.int .i64 2))] [some 8]) (.em (.call 63 [.s (.k (.int .i64 0))] [some 3]) (.em (.call 63 [.s (.k (.int .i64 4))] [some 3]) (.em (.call 15 [.g [.c 3 0, .c 3 1, .c 3 2, .c 3 3, .c 3 4, .c 3 5, .c 3 6, .c 3 7], .g [.c 4 0, .c 4 1, .c 4 2, .c 5 0, .c 5 1, .c 5 2]] [none]) (.ret (.v (.s (.c 6 0)))))))) (.ret (.v (.s (.k (.bool false)))))))))) (by kernel_rfl) (by kernel_rfl) (by kernel_rfl) Mono.true trivial trivial ?_
  refine wRat (fun w b _ => qof_any (-1) w (by decide) (by decide)) (fun _ _ _ _ => ?_)
  refine wRat (fun w b _ => qof_any 2 w (by decide) (by decide)) (fun _ _ _ _ => ?_)
  refine wSpV (fun w b ⟨h2, h1, _⟩ => snewY _ _ _ _ 2 w ⟨_, _, _, _, rfl, h1⟩ ⟨_, _, _, _, rfl, h2⟩ (by decide) (by decide)) rfl (fun _ _ _ _ _ _ _ _ => ?_)
  refine wTrue rfl ?_
  refine wSp (x := 0) (y := 4) (fun w b ⟨h, _⟩ => by rw [← alive_lo, ← alive_hi]; exact spow_any _ _ _ 2 2 w ⟨_, _, _, _, _, _, _, _, rfl, h⟩ (by decide) (by decide) (by decide)) (fun _ _ _ _ _ _ _ _ => ?_)
  refine wDQ (fun w b _ => dofZero_any w) (fun _ _ _ => ?_)
  refine wDQ (fun w b _ => dofFour_any w) (fun _ _ _ => ?_)
  refine wVal (fun w b ⟨h4, h0, h, _⟩ => is5_any _ _ 0 4 _ 1 w ⟨_, _, _, _, _, _, _, _, rfl, h⟩ ⟨_, _, _, _, _, _, rfl, h0, h4⟩ (by decide) (by decide) (hT.below b)) rfl ?_
  exact wRet fun w b _ => ⟨rfl, b⟩
section prims
variable {P : Program} {t t2 ty : TypeId} {vs : List Value} {p q : Operand} {x y : Int}
end prims
end Go.Proofs.YtfohgkabmdhhaaaGreatDoor

namespace Cin
open Go Go.RowKit
def RowO (B : Nat) (t : TypeId) (n : Nat) (w : World) (v : Value) (xs : List (List Value)) : Prop := (∀ x ∈ xs, x.length = n) ∧ w.ownsRow B t n v xs.length xs.flatten
section
variable {D Z : TypeId → Bool} {B n : Nat} {t : TypeId} {u w : World} {v : Value} {xs : List (List Value)}
theorem RowO.weak {B' : Nat} (h : RowO B t n w v xs) (hB : B' ≤ B) : RowO B' t n w v xs := by
  refine ⟨h.1, h.2.1, ?_⟩
  rcases h.2.2 with h' | ⟨g, cap, cur, e, hb, r⟩
  · exact .inl h'
  · exact .inr ⟨g, cap, cur, e, by omega, r⟩
theorem RowO.ext (h : RowO B t n u v xs) (e : Ext D u w) (ht : D t = true) : RowO B t n w v xs := by
  refine ⟨h.1, h.2.1, ?_⟩
  rcases h.2.2 with h' | ⟨g, cap, cur, e1, hb, hg, r⟩
  · exact .inl h'
  · exact .inr ⟨g, cap, cur, e1, hb, e.block g _ _ _ hg ht, r⟩
theorem monoRow (ht : D t = true) (B n : Nat) (v : Value) (xs : List (List Value)) : Mono D fun w => RowO B t n w v xs := fun _ _ e h => h.ext e ht
theorem RowO.below {w' : World} (h : RowO B t n w v xs) (hb : Below w.heap.size w w') : RowO B t n w' v xs := h.ext (D := fun _ => true) (Ext.of_below hb) rfl
theorem RowO.shape (h : RowO B t n w v xs) (hx : xs ≠ []) : ∃ g cap, v = .slice (some ⟨g, 0, none⟩) xs.length cap := by
  rcases h.2.2 with ⟨_, h0⟩ | ⟨g, cap, cur, rfl, _⟩
  · exact absurd (List.eq_nil_of_length_eq_zero h0) hx
  · exact ⟨g, cap, rfl⟩
theorem flat_at : ∀ {xs : List (List Value)} {i j : Nat} {x : List Value} {y : Value}, (∀ x ∈ xs, x.length = n) → xs[i]? = some x → x[j]? = some y → xs.flatten[i * n + j]? = some y
  | [], i, _, _, _, _, h, _ => by cases i <;> simp at h
  | a :: r, 0, j, x, y, hl, h, hy => by
    simp only [List.getElem?_cons_zero, Option.some.injEq] at h
    subst h
    have := (List.getElem?_eq_some_iff.1 hy).1
    rw [List.flatten_cons, Nat.zero_mul, Nat.zero_add, List.getElem?_append_left this]; exact hy
  | a :: r, i + 1, j, x, y, hl, h, hy => by
    have ha := hl a List.mem_cons_self
    rw [List.flatten_cons, List.getElem?_append_right (by rw [ha, Nat.succ_mul]; omega), ha, show (i + 1) * n + j - n = i * n + j by rw [Nat.succ_mul]; omega]
    exact flat_at (fun x hx => hl x (List.mem_cons_of_mem _ hx)) (by simpa using h) hy
theorem RowO.at {g cap len i : Nat} {x : List Value} (h : RowO B t n w (.slice (some ⟨g, 0, none⟩) len cap) xs) (hx : xs[i]? = some x) : w.rangeAt g (i * n) x := by
  intro j y hy
  have hf := flat_at h.1 hx hy
  rcases h.2.2 with ⟨h0, _⟩ | ⟨g', cap', cur, e, hb, hg, h1, h2, h3, h4⟩
  · cases h0
  · injection e with e1 e2 e3
    injection e1 with e1
    injection e1 with e1
    subst e1
    have : cur[i * n + j]? = some y := by
      rw [← Array.getElem?_toList]
      rw [← h4] at hf
      rw [List.getElem?_take] at hf
      split at hf
      · exact hf
      · cases hf
    simp [World.cell?, hg, this]
theorem RowO.len {g cap len : Nat} (h : RowO B t n w (.slice (some ⟨g, 0, none⟩) len cap) xs) : len = xs.length := by
  rcases h.2.2 with ⟨h0, _⟩ | ⟨g', cap', cur, e, _⟩
  · cases h0
  · injection e
end
section prims
variable {P : Program} {T e ty : TypeId} {vs : List Value} {p q : Operand} {κ : IntKind} {i : Int}
theorem prIdxA {g len cap n : Nat} {ie : TypeInfo} (hu : P.underlying T = some (.slice e)) (hi : P.info? e = some ie) (hn : ie.size = n) (hp : pe vs p = .slice (some ⟨g, 0, none⟩) len cap) (hq : pe vs q = .int κ i) (h0 : 0 ≤ i) (h1 : i < len) :
    PrimOk P (.indexAddr T p q) ty vs (.pointer (some ⟨g, i.toNat * n, none⟩)) := fun w => by
  simp only [execOp, hp, hq]
  simp [Instr.indexAt, asIntOf, run_underlying hu, h0, h1, Go.sizeOf, typeInfo, hi, hn, Addr.add_mid]
theorem ldRow {t : TypeId} {g o : Nat} {cs : List Value} {d : TypeDesc} {w : World} (hp : pe vs p = .pointer (some ⟨g, o, none⟩)) (hc : w.rangeAt g o cs) (hu : P.underlying t = some d) (hd : d.isRow = true) (hi : (P.info? t).map (·.size) = some cs.length) :
    (execOp (pe vs) ⟨none, .load t p, ty, "", #[], none⟩).run P w = .ok (.value (.agg cs.toArray)) w := by
  simp only [execOp, hp]
  simp [run_loadAt_mid w g o t cs d hc hu hd hi]
end prims
section rules
variable {P : Program} {w0 : World} {D Z : TypeId → Bool} {Post : Ending → World → Prop} {F : World → Prop} {E : Env} {k : Tr} {L : LC}
theorem wEx {tr : Tr} (h : ∀ u, F u → ∃ G : World → Prop, Mono D G ∧ G u ∧ Wk P w0 D Z Post L G tr E) : Wk P w0 D Z Post L F tr E := fun hm u hF => let ⟨_, hG, hg, hk⟩ := h u hF; hk hG u hg
theorem wBuild {T e ty : TypeId} {len n : Nat} {parts : Array (Nat × Operand)} {ar : List V1} {ie : TypeInfo} {z : Value} (xs : List (List Value)) (hT : P.underlying T = some (.slice e)) (hi : P.info? e = some ie) (hz : ie.zero = some z) (hn : ie.size = n) (hD : D e = true)
    (hf : Instr.fill (fun i => some (i * n, n)) ((Array.range (len * n)).map (z.cells[· % z.cells.size]!)) (parts.map fun (i, x) => (i, pe (ar.map (V1.den [] E)) x)).toList = some xs.flatten.toArray)
    (hl : xs.length = len) (hx : ∀ x ∈ xs, x.length = n) (h0 : 0 < len * n) (h1 : len * n ≤ 2 ^ 24) (h2 : len ≤ maxLen)
    {E' : Nat → Env} (hk : ∀ g, Wk P w0 D Z Post L (fun w => RowO w0.heap.size e n w (.slice (some ⟨g, 0, none⟩) len len) xs ∧ F w) k (E' g))
    (hE : ∀ g, E ++ [[.slice (some ⟨g, 0, none⟩) len len]] = E' g := by intros; (simp only [List.cons_append, List.nil_append]) <;> exact rfl) : Wk P w0 D Z Post L F (.em (.wx (.buildSlice T len parts) ty ar (some none)) k) E := by
  intro hm u hF w e1 b
  subst hn
  have hr := run_buildSlice (P := P) w T e len (parts.map fun (i, x) => (i, pe (ar.map (V1.den [] E)) x)) xs.flatten.toArray ie z hT hi hz (by omega) (by omega) hf
  refine ⟨[.slice (some ⟨w.heap.size, 0, none⟩) len len], w.alloc (.cells xs.flatten.toArray e), ?_, rfl, Chg.of_below (bel_alloc _ _), bel_on b (bel_alloc _ _), hE _ ▸ hk w.heap.size ((monoRow hD _ _ _ _).and hm) _ ⟨?_, hm u _ (e1.below (bel_alloc _ _)) hF⟩⟩
  · show (execOp _ _).run P w = .ok (.value (.slice (some ⟨w.heap.size, 0, none⟩) len len)) _
    simp only [execOp]
    simp [hr]
  · have hfl : xs.flatten.length = len * ie.size := by
      rw [List.length_flatten, ← hl]
      clear hf hr hk hE h0 h1 h2 hl
      induction xs with
      | nil => simp
      | cons a r ih =>
        rw [List.map_cons, List.sum_cons, hx a List.mem_cons_self, ih (fun x h => hx x (List.mem_cons_of_mem _ h)), List.length_cons, Nat.succ_mul]; omega
    refine ⟨hx, by rw [hl]; exact hfl, .inr ⟨w.heap.size, len, xs.flatten.toArray, by rw [hl], b.size, heap_alloc_new w _, by omega, h2, by rw [List.size_toArray]; exact hfl, ?_⟩⟩
    rw [hl, List.take_of_length_le (by rw [← hfl]; exact Nat.le_refl _)]
end rules
end Cin

namespace Go.Proofs.YtfohgkabmdhhaaaGreatDoor
open Go.RowKit Cin
def D2 : TypeId → Bool := fun t => t == 146 || t == 41
theorem hU2 : D2 146 = true := rfl
theorem hR2 : D2 41 = true := rfl
theorem go2 {f : FuncId} {tr : Tr} {args : List Value} {w : World} {Post : Ending → World → Prop} (Z : TypeId → Bool) (hZ : ∀ t, Z t = true → D2 t = true) (F : World → Prop) (E : Env) (sh : List (Option Nat)) (hr : rowOf Tryz.prog D2 f = some tr)
    (hq : (eqsOf Tryz.prog D2 f).map (·.1) = (eqsOf Tryz.prog D2 f).map (·.2)) (hsh : ((Tryz.prog.funcs[f]?).map fun fn => fn.params.toList.mapM (shapeOf Tryz.prog)) = some (some sh))
    (hF : Mono D2 F) (h0 : F w) (hpl : AllPl E) (hk : Wk Tryz.prog w D2 Z Post (fun _ _ _ => False) F tr E) (hE : E.length = sh.length := by rfl) (hargs : args = sh.zipIdx.map (fun (s, i) => (v1of i 0 s).den [] E) := by rfl) : Calls Tryz.prog f args.toArray w Post :=
  rx hZ hMix hr hq sh hsh hE hargs (allPl hpl) _ (hk hF w h0)
theorem info_rr : (Tryz.prog.info? 41).map (fun i => (i.zero, i.size, i.bytes)) = some (some (.agg #[.bool false, .slice none 0 0, .slice none 0 0]), 3, 56) := by kernel_rfl
theorem rr_info : ∃ ie, Tryz.prog.info? 41 = some ie ∧ ie.zero = some (.agg #[.bool false, .slice none 0 0, .slice none 0 0]) ∧ ie.size = 3 ∧ ie.bytes = 56 := by
  have h := info_rr
  cases hi : Tryz.prog.info? 41 with
  | none => rw [hi] at h; cases h
  | some ie =>
    rw [hi] at h
    simp only [Option.map_some, Option.some.injEq, Prod.mk.injEq] at h
    exact ⟨ie, rfl, h⟩
theorem hSlR : Tryz.prog.underlying 72 = some (.slice 41) := by kernel_rfl
theorem hRowR : (Tryz.prog.underlying 41).map TypeDesc.isRow = some true := by kernel_rfl
theorem rr_row : ∃ d, Tryz.prog.underlying 41 = some d ∧ d.isRow = true := by
  have h := hRowR
  cases hd : Tryz.prog.underlying 41 with
  | none => rw [hd] at h; cases h
  | some d => rw [hd] at h; exact ⟨d, rfl, by simpa using h⟩
theorem DQ.mono {w : World} {a b d : Value} {q : Rat} {k j : Nat} (h : DQ w a b d q k) (hj : k ≤ j) : DQ w a b d q j := ⟨h.1.mono hj, h.2.1, lt_pw_mono h.2.2 hj⟩
def ListD (w : World) (k : Nat) : List (List Value) → List Rat → Prop
  | [], [] => True
  | x :: xs, q :: qs => (∃ a b d, x = [a, b, d] ∧ DQ w a b d q k) ∧ ListD w k xs qs
  | _, _ => False
theorem ListD.len {w : World} {k : Nat} : ∀ {xs : List (List Value)} {qs : List Rat}, ListD w k xs qs → xs.length = qs.length
  | [], [], _ => rfl
  | _ :: _, _ :: _, h => by simp [h.2.len]
theorem ListD.at {w : World} {k : Nat} : ∀ {xs : List (List Value)} {qs : List Rat} {i : Nat}, ListD w k xs qs → i < qs.length → ∃ q a b d, qs[i]? = some q ∧ xs[i]? = some [a, b, d] ∧ DQ w a b d q k
  | [], [], _, _, hi => absurd hi (Nat.not_lt_zero _)
  | [], _ :: _, _, h, _ => h.elim
  | _ :: _, [], _, h, _ => h.elim
  | x :: xs, q :: qs, 0, h, _ => by obtain ⟨⟨a, b, d, rfl, hq⟩, _⟩ := h; exact ⟨q, a, b, d, rfl, rfl, hq⟩
  | x :: xs, q :: qs, i + 1, h, hi => by
    obtain ⟨q', a, b, d, h1, h2, h3⟩ := h.2.at (i := i) (by simpa using hi)
    exact ⟨q', a, b, d, by simpa using h1, by simpa using h2, h3⟩
theorem ListD.get {w : World} {k : Nat} {xs : List (List Value)} {qs : List Rat} {i : Nat} {q : Rat} {a b d : Value} (h : ListD w k xs qs) (h1 : qs[i]? = some q) (h2 : xs[i]? = some [a, b, d]) : DQ w a b d q k := by
  obtain ⟨q', a', b', d', e1, e2, e3⟩ := h.at (List.getElem?_eq_some_iff.1 h1).1
  rw [h1] at e1
  rw [h2] at e2
  injection e1 with e1
  injection e2 with e2
  injection e2 with e2 e4
  injection e4 with e4 e5
  injection e5 with e5 _
  subst e1 e2 e4 e5
  exact e3
theorem mList {D : TypeId → Bool} (k : Nat) (hD : D 146 = true := by rfl) : ∀ (xs : List (List Value)) (qs : List Rat), Mono D fun w => ListD w k xs qs
  | [], [], _, _, _, h => h
  | _ :: xs, _ :: qs, u, w, e, ⟨⟨a, b, d, h1, h2⟩, h3⟩ => ⟨⟨a, b, d, h1, mD _ _ _ _ _ hD u w e h2⟩, mList k hD xs qs u w e h3⟩
  | [], _ :: _, _, _, _, h => h
  | _ :: _, [], _, _, _, h => h
def Linv (k : Nat) (qs : List Rat) (cs : List Value) (w : World) : Prop := ∃ (i : Nat) (a b d a' b' d' : Value) (l h : Rat), cs = [.int .i64 i, a, b, d, a', b', d'] ∧ 1 ≤ i ∧ i ≤ qs.length ∧ DQ w a b d l k ∧ DQ w a' b' d' h k ∧ l ∈ qs ∧ h ∈ qs ∧ ∀ j q, j < i → qs[j]? = some q → l ≤ q ∧ q ≤ h
theorem mLinv {D : TypeId → Bool} (k : Nat) (qs : List Rat) (cs : List Value) (hD : D 146 = true := by rfl) : Mono D (Linv k qs cs) := fun u w e ⟨i, a, b, d, a', b', d', l, h, h1, h2, h3, h4, h5, h6⟩ => ⟨i, a, b, d, a', b', d', l, h, h1, h2, h3, mD _ _ _ _ _ hD u w e h4, mD _ _ _ _ _ hD u w e h5, h6⟩
def Lmu (n : Nat) : List Value → Nat
  | .int _ i :: _ => n - i.toNat
  | _ => 0
set_option maxHeartbeats 4000000 in
theorem least_any (v : Value) (xs : List (List Value)) (qs : List Rat) (lo hi : Rat) (k : Nat) (w : World) (hr : RowO 0 41 3 w v xs) (hq : ListD w k xs qs) (hk : k ≤ 3000) (hlen : qs.length ≤ 1000000) (h1 : ∀ q ∈ qs, lo ≤ q ∧ q ≤ hi) (h2 : lo ∈ qs) (h3 : hi ∈ qs) :
    Calls Tryz.prog 37 #[v] w fun e w' => ∃ v', e = .returned v' ∧ DsB w' v' lo hi k ∧ Below w.heap.size w w' := by
  have hl := hq.len
  have hpos : 0 < qs.length := List.length_pos_of_mem h2
  obtain ⟨g, cap, rfl⟩ := hr.shape (fun h => by rw [h] at hl; simp at hl; omega)
  obtain ⟨ie, hie, _, hsz, _⟩ := rr_info
  obtain ⟨dd, hd, hdr⟩ := rr_row
  obtain ⟨q0, a0, b0, d0, e1, e2, hq0⟩ := hq.at hpos
  have p0 := dpl hq0
  refine go2 D2 (fun _ h => h) (fun w => RowO 0 41 3 w (.slice (some ⟨g, 0, none⟩) xs.length cap) xs ∧ ListD w k xs qs) [[.slice (some ⟨g, 0, none⟩) xs.length cap]] [none] (tr := (.em (.pr (.indexAddr 72 (.tmp 0) (.const (.int .i64 0))) 0 [.s (.c 0 0), .s (.k (.int .i64 0))]) (.em (.pr (.indexAddr 72 (.tmp 0) (.const (.int .i64 0))) 0 [.s (.c 0 0), .s (.k (.int .i64 0))]) (.em (.ld (.load 41 (.tmp 0)) 41 [.s (.c 1 0)] (some 3)) (.em (.ld (.load 41 (.tmp 0)) 41 [.s (.c 2 0)] (some 3)) (.loop 0 [.k (.int .i64 1), .c 3 0, .c 3 1, .c 3 2, .c 4 0, .c 4 1, .c 4 2] (.em (.pr (.call (.mk (.builtin .len) #[.tmp 0] #[72])) 3 [.s (.c 0 0)]) (.em (.pr (.binOp .lss 3 (.tmp 0) (.tmp 1) 3) 4 [.s (.c 5 0), .s (.c 6 0)]) (.cond (.c 7 0) (.em (.pr (.indexAddr 72 (.tmp 0) (.tmp 1)) 0 [.s (.c 0 0), .s (.c 5 0)]) (.em (.ld (.load 41 (.tmp 0)) 41 [.s (.c 8 0)] (some 3)) (.em (.call 17 [.g [.c 9 0, .c 9 1, .c 9 2], .g [.c 5 1, .c 5 2, .c 5 3]] [none]) (.em (.pr (.binOp .lss 3 (.tmp 0) (.const (.int .i64 0)) 3) 4 [.s (.c 10 0), .s (.k (.int .i64 0))]) (.cond (.c 11 0) (.em (.pr (.indexAddr 72 (.tmp 0) (.tmp 1)) 0 [.s (.c 0 0), .s (.c 5 0)]) (.em (.ld (.load 41 (.tmp 0)) 41 [.s (.c 12 0)] (some 3)) (.em (.pr (.indexAddr 72 (.tmp 0) (.tmp 1)) 0 [.s (.c 0 0), .s (.c 5 0)]) (.em (.ld (.load 41 (.tmp 0)) 41 [.s (.c 14 0)] (some 3)) (.em (.call 17 [.g [.c 15 0, .c 15 1, .c 15 2], .g [.c 5 4, .c 5 5, .c 5 6]] [none]) (.em (.pr (.binOp .gtr 3 (.tmp 0) (.const (.int .i64 0)) 3) 4 [.s (.c 16 0), .s (.k (.int .i64 0))]) (.cond (.c 17 0) (.em (.pr (.indexAddr 72 (.tmp 0) (.tmp 1)) 0 [.s (.c 0 0), .s (.c 5 0)]) (.em (.ld (.load 41 (.tmp 0)) 41 [.s (.c 18 0)] (some 3)) (.em (.pr (.binOp .add 3 (.tmp 0) (.const (.int .i64 1)) 3) 3 [.s (.c 5 0), .s (.k (.int .i64 1))]) (.back 0 [.c 20 0, .c 13 0, .c 13 1, .c 13 2, .c 19 0, .c 19 1, .c 19 2])))) (.em (.pr (.binOp .add 3 (.tmp 0) (.const (.int .i64 1)) 3) 3 [.s (.c 5 0), .s (.k (.int .i64 1))]) (.back 0 [.c 18 0, .c 13 0, .c 13 1, .c 13 2, .c 5 4, .c 5 5, .c 5 6]))))))))) (.em (.pr (.indexAddr 72 (.tmp 0) (.tmp 1)) 0 [.s (.c 0 0), .s (.c 5 0)]) (.em (.ld (.load 41 (.tmp 0)) 41 [.s (.c 12 0)] (some 3)) (.em (.call 17 [.g [.c 13 0, .c 13 1, .c 13 2], .g [.c 5 4, .c 5 5, .c 5 6]] [none]) (.em (.pr (.binOp .gtr 3 (.tmp 0) (.const (.int .i64 0)) 3) 4 [.s (.c 14 0), .s (.k (.int .i64 0))]) (.cond (.c 15 0) (.em (.pr (.indexAddr 72 (.tmp 0) (.tmp 1)) 0 [.s (.c 0 0), .s (.c 5 0)]) (.em (.ld (.load 41 (.tmp 0)) 41 [.s (.c 16 0)] (some 3)) (.em (.pr (.binOp .add 3 (.tmp 0) (.const (.int .i64 1)) 3) 3 [.s (.c 5 0), .s (.k (.int .i64 1))]) (.back 0 [.c 18 0, .c 5 1, .c 5 2, .c 5 3, .c 17 0, .c 17 1, .c 17 2])))) (.em (.pr (.binOp .add 3 (.tmp 0) (.const (.int .i64 1)) 3) 3 [.s (.c 5 0), .s (.k (.int .i64 1))]) (.back 0 [.c 16 0, .c 5 1, .c 5 2, .c 5 3, .c 5 4, .c 5 5, .c 5 6])))))))))))) (.ret (.v (.g [.c 5 1, .c 5 2, .c 5 3, .c 5 4, .c 5 5, .c 5 6])))))))))))) (by kernel_rfl) (by kernel_rfl) (by kernel_rfl) ((monoRow hR2 _ _ _ _).and (mList _ hU2 _ _)) ⟨hr, hq⟩ ⟨rfl, trivial⟩ ?_
  refine wPr (prIdxA hSlR hie hsz rfl rfl (by omega) (by omega)) rfl ?_
  refine wPr (prIdxA hSlR hie hsz rfl rfl (by omega) (by omega)) rfl ?_
  refine wLd [a0, b0, d0] p0 (fun w b h => ldRow rfl (h.1.at e2) hd hdr (by rw [hie, Option.map_some, hsz]; rfl)) ?_
  refine wLd [a0, b0, d0] p0 (fun w b h => ldRow rfl (h.1.at e2) hd hdr (by rw [hie, Option.map_some, hsz]; rfl)) ?_
  have hb0 : ∀ j q, j < 1 → qs[j]? = some q → q0 ≤ q ∧ q ≤ q0 := by
    intro j q hj hq
    have hj0 : j = 0 := by omega
    subst hj0
    rw [e1] at hq
    cases hq
    exact ⟨Rat.le_refl, Rat.le_refl⟩
  refine wLoop (fun cs w => Linv k qs cs w) (fun cs => mLinv k qs cs hU2) (Lmu qs.length) (fun w h => ⟨1, a0, b0, d0, a0, b0, d0, q0, q0, rfl, Nat.le_refl _, hpos, h.2.get e1 e2, h.2.get e1 e2, List.mem_of_getElem? e1, List.mem_of_getElem? e1, hb0⟩) (fun cs _ => ?_)
  clear hq0 p0 hb0 e1 e2
  refine wEx fun u ⟨⟨i, a, b, d, a', b', d', l, h, he, hi1, hi2, hl1, hl2, hm1, hm2, hall⟩, hr1, hq1⟩ => ⟨fun w => DQ w a b d l k ∧ DQ w a' b' d' h k ∧ RowO 0 41 3 w (.slice (some ⟨g, 0, none⟩) xs.length cap) xs ∧ ListD w k xs qs, (mD _ _ _ _ _ hU2).and ((mD _ _ _ _ _ hU2).and ((monoRow hR2 _ _ _ _).and (mList _ hU2 _ _))), ⟨hl1, hl2, hr1, hq1⟩, ?_⟩
  subst he
  clear hl1 hl2 hr1 hq1
  refine wPr (prLen hSlR rfl) rfl ?_
  refine wPr (prLt rfl rfl) rfl ?_
  refine wIf _ rfl (fun e => ?_) (fun e => ?_)
  · skip
    obtain ⟨q, a2, b2, d2, e1, e2, hqi⟩ := hq.at (i := i) (by have : (i : Int) < (xs.length : Int) := (by simpa using e); omega)
    have pi := dpl hqi
    have hix : i < xs.length := (by have : (i : Int) < (xs.length : Int) := (by simpa using e); omega)
    refine wPr (prIdxA hSlR hie hsz rfl rfl (by omega) (by omega)) rfl ?_
    refine wLd [a2, b2, d2] pi (fun w b h => ldRow rfl (h.2.2.1.at e2) hd hdr (by rw [hie, Option.map_some, hsz]; rfl)) ?_
    refine wVal (fun w b h0 => dcmp_any _ _ q l k k w ⟨_, _, _, rfl, h0.2.2.2.get e1 e2⟩ ⟨_, _, _, rfl, h0.1⟩ (by omega) (by omega)) rfl ?_
    refine wPr (prLt rfl rfl) rfl ?_
    refine wIf _ rfl (fun f1 => ?_) (fun f1 => ?_)
    · skip
      have g1 := cT_lt f1
      refine wPr (prIdxA hSlR hie hsz rfl rfl (by omega) (by omega)) rfl ?_
      refine wLd [a2, b2, d2] pi (fun w b h => ldRow rfl (h.2.2.1.at e2) hd hdr (by rw [hie, Option.map_some, hsz]; rfl)) ?_
      refine wPr (prIdxA hSlR hie hsz rfl rfl (by omega) (by omega)) rfl ?_
      refine wLd [a2, b2, d2] pi (fun w b h => ldRow rfl (h.2.2.1.at e2) hd hdr (by rw [hie, Option.map_some, hsz]; rfl)) ?_
      refine wVal (fun w b h0 => dcmp_any _ _ q h k k w ⟨_, _, _, rfl, h0.2.2.2.get e1 e2⟩ ⟨_, _, _, rfl, h0.2.1⟩ (by omega) (by omega)) rfl ?_
      refine wPr (prGt rfl rfl) rfl ?_
      refine wIf _ rfl (fun f2 => ?_) (fun f2 => ?_)
      · skip
        have g2 := cT_gt f2
        refine wPr (prIdxA hSlR hie hsz rfl rfl (by omega) (by omega)) rfl ?_
        refine wLd [a2, b2, d2] pi (fun w b h => ldRow rfl (h.2.2.1.at e2) hd hdr (by rw [hie, Option.map_some, hsz]; rfl)) ?_
        refine wPr (prAdd rfl rfl) rfl ?_
        rw [wrap_small (by omega) (by omega)]
        refine wBack fun w h0 => ⟨⟨i + 1, a2, b2, d2, a2, b2, d2, q, q, rfl, by omega, by omega, h0.2.2.2.get e1 e2, h0.2.2.2.get e1 e2, List.mem_of_getElem? e1, List.mem_of_getElem? e1, ?_⟩, ?_⟩
        · intro j q1 hj hq1
          by_cases hji : j = i
          · subst hji; rw [e1] at hq1; cases hq1; grind
          · have := hall j q1 (by omega) hq1; grind
        · show qs.length - ((i : Int) + 1).toNat < qs.length - (i : Int).toNat
          omega
      · skip
        have g2 := cF_gt f2
        refine wPr (prAdd rfl rfl) rfl ?_
        rw [wrap_small (by omega) (by omega)]
        refine wBack fun w h0 => ⟨⟨i + 1, a2, b2, d2, a', b', d', q, h, rfl, by omega, by omega, h0.2.2.2.get e1 e2, h0.2.1, List.mem_of_getElem? e1, hm2, ?_⟩, ?_⟩
        · intro j q1 hj hq1
          by_cases hji : j = i
          · subst hji; rw [e1] at hq1; cases hq1; grind
          · have := hall j q1 (by omega) hq1; grind
        · show qs.length - ((i : Int) + 1).toNat < qs.length - (i : Int).toNat
          omega
    · skip
      have g1 := cF_lt f1
      refine wPr (prIdxA hSlR hie hsz rfl rfl (by omega) (by omega)) rfl ?_
      refine wLd [a2, b2, d2] pi (fun w b h => ldRow rfl (h.2.2.1.at e2) hd hdr (by rw [hie, Option.map_some, hsz]; rfl)) ?_
      refine wVal (fun w b h0 => dcmp_any _ _ q h k k w ⟨_, _, _, rfl, h0.2.2.2.get e1 e2⟩ ⟨_, _, _, rfl, h0.2.1⟩ (by omega) (by omega)) rfl ?_
      refine wPr (prGt rfl rfl) rfl ?_
      refine wIf _ rfl (fun f2 => ?_) (fun f2 => ?_)
      · skip
        have g2 := cT_gt f2
        refine wPr (prIdxA hSlR hie hsz rfl rfl (by omega) (by omega)) rfl ?_
        refine wLd [a2, b2, d2] pi (fun w b h => ldRow rfl (h.2.2.1.at e2) hd hdr (by rw [hie, Option.map_some, hsz]; rfl)) ?_
        refine wPr (prAdd rfl rfl) rfl ?_
        rw [wrap_small (by omega) (by omega)]
        refine wBack fun w h0 => ⟨⟨i + 1, a, b, d, a2, b2, d2, l, q, rfl, by omega, by omega, h0.1, h0.2.2.2.get e1 e2, hm1, List.mem_of_getElem? e1, ?_⟩, ?_⟩
        · intro j q1 hj hq1
          by_cases hji : j = i
          · subst hji; rw [e1] at hq1; cases hq1; grind
          · have := hall j q1 (by omega) hq1; grind
        · show qs.length - ((i : Int) + 1).toNat < qs.length - (i : Int).toNat
          omega
      · skip
        have g2 := cF_gt f2
        refine wPr (prAdd rfl rfl) rfl ?_
        rw [wrap_small (by omega) (by omega)]
        refine wBack fun w h0 => ⟨⟨i + 1, a, b, d, a', b', d', l, h, rfl, by omega, by omega, h0.1, h0.2.1, hm1, hm2, ?_⟩, ?_⟩
        · intro j q1 hj hq1
          by_cases hji : j = i
          · subst hji; rw [e1] at hq1; cases hq1; grind
          · have := hall j q1 (by omega) hq1; grind
        · show qs.length - ((i : Int) + 1).toNat < qs.length - (i : Int).toNat
          omega
  · have hge : i = qs.length := by have : ¬ (i : Int) < (xs.length : Int) := (by simpa using e); omega
    have el : l = lo := by
      have := (h1 l hm1).1
      obtain ⟨j, hj, hj2⟩ := List.getElem_of_mem h2
      have := (hall j lo (by omega) (by rw [List.getElem?_eq_getElem hj, hj2])).1
      grind
    have eh : h = hi := by
      have := (h1 h hm2).2
      obtain ⟨j, hj, hj2⟩ := List.getElem_of_mem h3
      have := (hall j hi (by omega) (by rw [List.getElem?_eq_getElem hj, hj2])).2
      grind
    subst el eh
    exact wRet fun w b ⟨h1, h2, _⟩ => ⟨_, rfl, ⟨_, _, _, _, _, _, rfl, h1, h2⟩, b⟩
end Go.Proofs.YtfohgkabmdhhaaaGreatDoor

namespace Go.Proofs.YtfohgkabmdhhaaaGreatDoor
open Go.RowKit Cin
theorem mul_list (x y x' y' : Rat) : (∀ q ∈ [x * x', x * y', y * x', y * y'], mLo x y x' y' ≤ q ∧ q ≤ mHi x y x' y') ∧ mLo x y x' y' ∈ [x * x', x * y', y * x', y * y'] ∧ mHi x y x' y' ∈ [x * x', x * y', y * x', y * y'] := by
  have g1 := mn4_le (x * x') (x * y') (y * x') (y * y')
  have g2 := mx4_ge (x * x') (x * y') (y * x') (y * y')
  have o1 := mn4_or (x * x') (x * y') (y * x') (y * y')
  have o2 := mx4_or (x * x') (x * y') (y * x') (y * y')
  unfold mLo mHi
  refine ⟨?_, ?_, ?_⟩
  · intro q hq
    simp only [List.mem_cons, List.not_mem_nil, or_false] at hq
    rcases hq with rfl | rfl | rfl | rfl
    · exact ⟨g1.1, g2.1⟩
    · exact ⟨g1.2.1, g2.2.1⟩
    · exact ⟨g1.2.2.1, g2.2.2.1⟩
    · exact ⟨g1.2.2.2, g2.2.2.2⟩
  · simp only [List.mem_cons, List.not_mem_nil, or_false]; exact o1
  · simp only [List.mem_cons, List.not_mem_nil, or_false]; exact o2
theorem dsadd_any (v u : Value) (x y x' y' : Rat) (k j : Nat) (w : World) (h : DsB w v x y k) (h' : DsB w u x' y' j) (hk : k ≤ 1000) (hj : j ≤ 1000) :
    Calls Tryz.prog 25 #[v, u] w fun e w' => ∃ v', e = .returned v' ∧ DsB w' v' (x + x') (y + y') (k + j + (j + k) + 1) ∧ Below w.heap.size w w' := by
  obtain ⟨a, b, d, a', b', d', rfl, h⟩ := h
  obtain ⟨p, q, r, p', q', r', rfl, h'⟩ := h'
  refine go (fun w => DsQ w a b d a' b' d' x y k ∧ DsQ w p q r p' q' r' x' y' j) [[a, b, d, a', b', d'], [p, q, r, p', q', r']] [some 6, some 6] (tr := (.em (.call 72 [.g [.c 0 0, .c 0 1, .c 0 2], .g [.c 1 0, .c 1 1, .c 1 2]] [some 3]) (.em (.call 72 [.g [.c 0 3, .c 0 4, .c 0 5], .g [.c 1 3, .c 1 4, .c 1 5]] [some 3]) (.ret (.v (.g [.c 2 0, .c 2 1, .c 2 2, .c 3 0, .c 3 1, .c 3 2])))))) (by kernel_rfl) (by kernel_rfl) (by kernel_rfl) ((mDs _ _ _ _ _ _ _ _ _).and (mDs _ _ _ _ _ _ _ _ _)) ⟨h, h'⟩ ⟨dspl h, dspl h', trivial⟩ ?_
  refine wDQ (fun w b h => dadd_any _ _ x x' k j w ⟨_, _, _, rfl, h.1.1⟩ ⟨_, _, _, rfl, h.2.1⟩ hk hj) (fun _ _ _ => ?_)
  refine wDQ (fun w b ⟨_, h⟩ => dadd_any _ _ y y' k j w ⟨_, _, _, rfl, h.1.2⟩ ⟨_, _, _, rfl, h.2.2⟩ hk hj) (fun _ _ _ => ?_)
  exact wRet fun w b ⟨h2, h1, _⟩ => ⟨_, rfl, ⟨_, _, _, _, _, _, rfl, h1, h2⟩, b⟩
theorem dssub_any (v u : Value) (x y x' y' : Rat) (k j : Nat) (w : World) (h : DsB w v x y k) (h' : DsB w u x' y' j) (hk : k ≤ 1000) (hj : j ≤ 1000) :
    Calls Tryz.prog 27 #[v, u] w fun e w' => ∃ v', e = .returned v' ∧ DsB w' v' (x - y') (y - x') (k + j + (j + k) + 1) ∧ Below w.heap.size w w' := by
  obtain ⟨a, b, d, a', b', d', rfl, h⟩ := h
  obtain ⟨p, q, r, p', q', r', rfl, h'⟩ := h'
  refine go (fun w => DsQ w a b d a' b' d' x y k ∧ DsQ w p q r p' q' r' x' y' j) [[a, b, d, a', b', d'], [p, q, r, p', q', r']] [some 6, some 6] (tr := (.em (.call 73 [.g [.c 0 0, .c 0 1, .c 0 2], .g [.c 1 3, .c 1 4, .c 1 5]] [some 3]) (.em (.call 73 [.g [.c 0 3, .c 0 4, .c 0 5], .g [.c 1 0, .c 1 1, .c 1 2]] [some 3]) (.ret (.v (.g [.c 2 0, .c 2 1, .c 2 2, .c 3 0, .c 3 1, .c 3 2])))))) (by kernel_rfl) (by kernel_rfl) (by kernel_rfl) ((mDs _ _ _ _ _ _ _ _ _).and (mDs _ _ _ _ _ _ _ _ _)) ⟨h, h'⟩ ⟨dspl h, dspl h', trivial⟩ ?_
  refine wDQ (fun w b h => dsub_any _ _ x y' k j w ⟨_, _, _, rfl, h.1.1⟩ ⟨_, _, _, rfl, h.2.2⟩ hk hj) (fun _ _ _ => ?_)
  refine wDQ (fun w b ⟨_, h⟩ => dsub_any _ _ y x' k j w ⟨_, _, _, rfl, h.1.2⟩ ⟨_, _, _, rfl, h.2.1⟩ hk hj) (fun _ _ _ => ?_)
  exact wRet fun w b ⟨h2, h1, _⟩ => ⟨_, rfl, ⟨_, _, _, _, _, _, rfl, h1, h2⟩, b⟩
set_option maxHeartbeats 1000000 in
theorem dsmul_any (v u : Value) (x y x' y' : Rat) (k j : Nat) (w : World) (h : DsB w v x y k) (h' : DsB w u x' y' j) (hk : k ≤ 1000) (hj : j ≤ 1000) (hk1 : 1 ≤ k) :
    Calls Tryz.prog 29 #[v, u] w fun e w' => ∃ v', e = .returned v' ∧ DsB w' v' (mLo x y x' y') (mHi x y x' y') (k + j) ∧ Below w.heap.size w w' := by
  obtain ⟨ie, hie, hz, hsz, _⟩ := rr_info
  obtain ⟨g1, g2, g3⟩ := mul_list x y x' y'
  obtain ⟨a, b, d, a', b', d', rfl, h⟩ := h
  obtain ⟨p, q, r, p', q', r', rfl, h'⟩ := h'
  refine go2 D2 (fun _ h => h) (fun w => DsQ w a b d a' b' d' x y k ∧ DsQ w p q r p' q' r' x' y' j) [[a, b, d, a', b', d'], [p, q, r, p', q', r']] [some 6, some 6] (tr := (.em (.call 78 [.g [.c 0 0, .c 0 1, .c 0 2], .g [.c 1 0, .c 1 1, .c 1 2]] [some 3]) (.em (.call 78 [.g [.c 0 0, .c 0 1, .c 0 2], .g [.c 1 3, .c 1 4, .c 1 5]] [some 3]) (.em (.call 78 [.g [.c 0 3, .c 0 4, .c 0 5], .g [.c 1 0, .c 1 1, .c 1 2]] [some 3]) (.em (.call 78 [.g [.c 0 3, .c 0 4, .c 0 5], .g [.c 1 3, .c 1 4, .c 1 5]] [some 3]) (.em (.wx (.buildSlice 72 4 #[(0, .tmp 0), (1, .tmp 1), (2, .tmp 2), (3, .tmp 3)]) 72 [.g [.c 2 0, .c 2 1, .c 2 2], .g [.c 3 0, .c 3 1, .c 3 2], .g [.c 4 0, .c 4 1, .c 4 2], .g [.c 5 0, .c 5 1, .c 5 2]] (some none)) (.em (.call 37 [.s (.c 6 0)] [some 6]) (.ret (.v (.g [.c 7 0, .c 7 1, .c 7 2, .c 7 3, .c 7 4, .c 7 5])))))))))) (by kernel_rfl) (by kernel_rfl) (by kernel_rfl) ((mDs _ _ _ _ _ _ _ _ _ hU2).and (mDs _ _ _ _ _ _ _ _ _ hU2)) ⟨h, h'⟩ ⟨dspl h, dspl h', trivial⟩ ?_
  refine wDQ (fun w b h => dmul_any _ _ x x' k j w ⟨_, _, _, rfl, h.1.1⟩ ⟨_, _, _, rfl, h.2.1⟩ (by omega) (by omega) hk1) (fun a1 b1 d1 => ?_)
  refine wDQ (fun w b ⟨_, h⟩ => dmul_any _ _ x y' k j w ⟨_, _, _, rfl, h.1.1⟩ ⟨_, _, _, rfl, h.2.2⟩ (by omega) (by omega) hk1) (fun a2 b2 d2 => ?_)
  refine wDQ (fun w b ⟨_, _, h⟩ => dmul_any _ _ y x' k j w ⟨_, _, _, rfl, h.1.2⟩ ⟨_, _, _, rfl, h.2.1⟩ (by omega) (by omega) hk1) (fun a3 b3 d3 => ?_)
  refine wDQ (fun w b ⟨_, _, _, h⟩ => dmul_any _ _ y y' k j w ⟨_, _, _, rfl, h.1.2⟩ ⟨_, _, _, rfl, h.2.2⟩ (by omega) (by omega) hk1) (fun a4 b4 d4 => ?_)
  refine wBuild [[a1, b1, d1], [a2, b2, d2], [a3, b3, d3], [a4, b4, d4]] hSlR hie hz hsz hR2 (by kernel_rfl) rfl (by simp) (by omega) (by omega) (by decide) (fun g => ?_)
  refine wDs (fun w b ⟨hr, h4, h3, h2, h1, _⟩ => least_any _ _ [x * x', x * y', y * x', y * y'] _ _ (k + j) w (hr.weak (Nat.zero_le _)) ⟨⟨_, _, _, rfl, h1⟩, ⟨_, _, _, rfl, h2⟩, ⟨_, _, _, rfl, h3⟩, ⟨_, _, _, rfl, h4⟩, trivial⟩ (by omega) (by simp) g1 g2 g3) (fun _ _ _ _ _ _ => ?_)
  exact wRet fun w b ⟨h, _⟩ => ⟨_, rfl, ⟨_, _, _, _, _, _, rfl, h.1, h.2⟩, b⟩
theorem dsscale_any (v u : Value) (x y z : Rat) (k j : Nat) (w : World) (h : DsB w v x y k) (h' : DRatB w u z j) (hk : k ≤ 1000) (hj : j ≤ 1000) (hk1 : 1 ≤ k) :
    Calls Tryz.prog 31 #[v, u] w fun e w' => ∃ v', e = .returned v' ∧ DsB w' v' (mLo x y z z) (mHi x y z z) (k + j) ∧ Below w.heap.size w w' := by
  obtain ⟨a, b, d, a', b', d', rfl, h⟩ := h
  obtain ⟨p, q, r, rfl, h'⟩ := h'
  refine go (fun w => DsQ w a b d a' b' d' x y k ∧ DQ w p q r z j) [[a, b, d, a', b', d'], [p, q, r]] [some 6, some 3] (tr := (.em (.call 21 [.g [.c 1 0, .c 1 1, .c 1 2]] [some 6]) (.em (.call 29 [.g [.c 0 0, .c 0 1, .c 0 2, .c 0 3, .c 0 4, .c 0 5], .g [.c 2 0, .c 2 1, .c 2 2, .c 2 3, .c 2 4, .c 2 5]] [some 6]) (.ret (.v (.g [.c 3 0, .c 3 1, .c 3 2, .c 3 3, .c 3 4, .c 3 5])))))) (by kernel_rfl) (by kernel_rfl) (by kernel_rfl) ((mDs _ _ _ _ _ _ _ _ _).and (mD _ _ _ _ _)) ⟨h, h'⟩ ⟨dspl h, dpl h', trivial⟩ ?_
  refine wDs (fun w b h => point_any _ z j w ⟨_, _, _, rfl, h.2⟩) (fun _ _ _ _ _ _ => ?_)
  refine wDs (fun w b ⟨h', h⟩ => dsmul_any _ _ x y z z k j w ⟨_, _, _, _, _, _, rfl, h.1.1, h.1.2⟩ ⟨_, _, _, _, _, _, rfl, h'.1, h'.2⟩ hk hj hk1) (fun _ _ _ _ _ _ => ?_)
  exact wRet fun w b ⟨h, _⟩ => ⟨_, rfl, ⟨_, _, _, _, _, _, rfl, h.1, h.2⟩, b⟩
end Go.Proofs.YtfohgkabmdhhaaaGreatDoor
