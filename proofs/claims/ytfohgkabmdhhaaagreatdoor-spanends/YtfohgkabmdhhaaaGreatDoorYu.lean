/- Contracts of package span: questions, texts; what the laws of intervals have in common. -/
import Derived.Test.YtfohgkabmdhhaaaGreatDoorYt
import Derived.Test.YtfohgkabmdhhaaaGreatDoorYg
import Derived.Great.BuildSlice
import Derived.Maps.AppendAt
import Derived.Laws.CopyOwn
namespace Go.Proofs.YtfohgkabmdhhaaaGreatDoor
open Go.RowKit Cin
def SpOk (s r : ByteArray) : Prop := RatOk s ∧ RatOk r ∧ ratVal s ≤ ratVal r
theorem sparseY (s r : ByteArray) (w : World) (hs : s.size ≤ 9223372036854775807) (hr : r.size ≤ 9223372036854775807) (h : SpOk s r) :
    Calls Tryz.prog 13 #[.agg #[.string s, .string r]] w fun e w' => ∃ v', e = .returned (.tuple #[v', .int .i64 0]) ∧ SpB w' v' (ratVal s) (ratVal r) 500 ∧ Below w.heap.size w w' := by
  refine go (fun _ => True) [[.string s, .string r]] [some 2] (tr := (.em (.call 64 [.s (.c 0 0)] [some 4, none]) (.em (.pr (.binOp .neq 34 (.tmp 0) (.const (.int .i64 0)) 34) 4 [.s (.c 1 4), .s (.k (.int .i64 0))]) (.cond (.c 2 0) (.ret (.t [.g [.k (.bool false), .k (.slice none 0 0), .k (.bool false), .k (.slice none 0 0), .k (.bool false), .k (.slice none 0 0), .k (.bool false), .k (.slice none 0 0)], .s (.c 1 4)])) (.em (.call 64 [.s (.c 0 1)] [some 4, none]) (.em (.pr (.binOp .neq 34 (.tmp 0) (.const (.int .i64 0)) 34) 4 [.s (.c 3 4), .s (.k (.int .i64 0))]) (.cond (.c 4 0) (.ret (.t [.g [.k (.bool false), .k (.slice none 0 0), .k (.bool false), .k (.slice none 0 0), .k (.bool false), .k (.slice none 0 0), .k (.bool false), .k (.slice none 0 0)], .s (.c 3 4)])) (.em (.call 60 [.g [.c 1 0, .c 1 1, .c 1 2, .c 1 3], .g [.c 3 0, .c 3 1, .c 3 2, .c 3 3]] [none]) (.em (.pr (.binOp .gtr 3 (.tmp 0) (.const (.int .i64 0)) 3) 4 [.s (.c 5 0), .s (.k (.int .i64 0))]) (.cond (.c 6 0) (.ret (.t [.g [.k (.bool false), .k (.slice none 0 0), .k (.bool false), .k (.slice none 0 0), .k (.bool false), .k (.slice none 0 0), .k (.bool false), .k (.slice none 0 0)], .s (.k (.int .i64 1))])) (.ret (.t [.g [.c 1 0, .c 1 1, .c 1 2, .c 1 3, .c 3 0, .c 3 1, .c 3 2, .c 3 3], .s (.k (.int .i64 0))])))))))))))) (by kernel_rfl) (by kernel_rfl) (by kernel_rfl) Mono.true trivial ⟨rfl, trivial⟩ ?_
  refine wRatV (fun w b _ => qparse_ok s w hs h.1) rfl (fun _ _ _ _ => ?_)
  refine wPr (prNe rfl rfl) rfl ?_
  refine wFalse rfl ?_
  refine wRatV (fun w b _ => qparse_ok r w hr h.2.1) rfl (fun _ _ _ _ => ?_)
  refine wPr (prNe rfl rfl) rfl ?_
  refine wFalse rfl ?_
  refine wVal (fun w b ⟨h2, h1, _⟩ => qcmp_any _ _ _ _ 500 500 w ⟨_, _, _, _, rfl, h1⟩ ⟨_, _, _, _, rfl, h2⟩ (by decide) (by decide)) rfl ?_
  refine wPr (prGt rfl rfl) rfl ?_
  refine wFalse (by show Value.bool (decide _) = _; rw [v_gt, decide_eq_false (by have := h.2.2; grind)]) ?_
  exact wRet fun w b ⟨h2, h1, _⟩ => ⟨_, rfl, ⟨_, _, _, _, _, _, _, _, rfl, h1, h2⟩, b⟩
open Classical in
noncomputable def spCode (s r : ByteArray) : Int := if RatOk s ∧ RatOk r then (if ratVal s ≤ ratVal r then 0 else 1) else 2
theorem spCode_no {s r : ByteArray} (h : ¬ SpOk s r) : spCode s r = 1 ∨ spCode s r = 2 := by
  unfold spCode
  split
  · next h1 =>
    rw [if_neg (fun h2 => h ⟨h1.1, h1.2, h2⟩)]; exact .inl rfl
  · exact .inr rfl
def ZeroT : List Value := [.bool false, .slice none 0 0, .slice none 0 0, .bool false, .slice none 0 0, .slice none 0 0]
theorem dsparseY (s r : ByteArray) (w : World) (hs : s.size ≤ 9223372036854775807) (hr : r.size ≤ 9223372036854775807) (h : SpOk s r) :
    Calls Tryz.prog 14 #[.agg #[.string s, .string r]] w fun e w' => ∃ v', e = .returned (.tuple #[v', .int .i64 0]) ∧ DsB w' v' (ratVal s) (ratVal r) 500 ∧ Below w.heap.size w w' := by
  refine go (fun _ => True) [[.string s, .string r]] [some 2] (tr := (.em (.call 65 [.s (.c 0 0)] [some 3, none]) (.em (.call 65 [.s (.c 0 1)] [some 3, none]) (.em (.pr (.unOp .not 4 (.tmp 0)) 4 [.s (.c 1 3)]) (.cond (.c 3 0) (.ret (.t [.g [.k (.bool false), .k (.slice none 0 0), .k (.slice none 0 0), .k (.bool false), .k (.slice none 0 0), .k (.slice none 0 0)], .s (.k (.int .i64 2))])) (.em (.pr (.unOp .not 4 (.tmp 0)) 4 [.s (.c 2 3)]) (.cond (.c 4 0) (.ret (.t [.g [.k (.bool false), .k (.slice none 0 0), .k (.slice none 0 0), .k (.bool false), .k (.slice none 0 0), .k (.slice none 0 0)], .s (.k (.int .i64 2))])) (.em (.call 17 [.g [.c 1 0, .c 1 1, .c 1 2], .g [.c 2 0, .c 2 1, .c 2 2]] [none]) (.em (.pr (.binOp .gtr 3 (.tmp 0) (.const (.int .i64 0)) 3) 4 [.s (.c 5 0), .s (.k (.int .i64 0))]) (.cond (.c 6 0) (.ret (.t [.g [.k (.bool false), .k (.slice none 0 0), .k (.slice none 0 0), .k (.bool false), .k (.slice none 0 0), .k (.slice none 0 0)], .s (.k (.int .i64 1))])) (.ret (.t [.g [.c 1 0, .c 1 1, .c 1 2, .c 2 0, .c 2 1, .c 2 2], .s (.k (.int .i64 0))])))))))))))) (by kernel_rfl) (by kernel_rfl) (by kernel_rfl) Mono.true trivial ⟨rfl, trivial⟩ ?_
  refine wDQV (fun w b _ => dparseY s w hs h.1) rfl (fun _ _ _ => ?_)
  refine wDQV (fun w b _ => dparseY r w hr h.2.1) rfl (fun _ _ _ => ?_)
  refine wPr (prNot rfl) rfl ?_
  refine wFalse rfl ?_
  refine wPr (prNot rfl) rfl ?_
  refine wFalse rfl ?_
  refine wVal (fun w b ⟨h2, h1, _⟩ => dcmp_any _ _ _ _ 500 500 w ⟨_, _, _, rfl, h1⟩ ⟨_, _, _, rfl, h2⟩ (by decide) (by decide)) rfl ?_
  refine wPr (prGt rfl rfl) rfl ?_
  refine wFalse (by show Value.bool (decide _) = _; rw [v_gt, decide_eq_false (by have := h.2.2; grind)]) ?_
  exact wRet fun w b ⟨h2, h1, _⟩ => ⟨_, rfl, ⟨_, _, _, _, _, _, rfl, h1, h2⟩, b⟩
theorem wNo {w0 : World} {Post : Ending → World → Prop} {F : World → Prop} {L : LC} {E : Env} {tr : Tr} {ar : List V1} {D Z : TypeId → Bool} (s : ByteArray) (hs : s.size ≤ 9223372036854775807) (h : ¬ RatOk s)
    {E' : Value → Value → Value → Env} (hk : ∀ a b d, Wk Tryz.prog w0 D Z Post L F tr (E' a b d)) (ha : (ar.map (V1.den [] E)).toArray = #[.string s] := by rfl)
    (hE : ∀ a b d, E ++ [[a, b, d, .bool false]] = E' a b d := by intros; (simp only [List.cons_append, List.nil_append]) <;> exact rfl) : Wk Tryz.prog w0 D Z Post L F (.em (.call 65 ar [some 3, none]) tr) E := by
  intro hm u hF w e b
  rw [ha]
  refine (dparse_any s w hs).mono ?_
  rintro e1 w' (⟨h', _⟩ | ⟨_, a, b, d, rfl, hp, hb⟩)
  · exact absurd h' h
  · simp only [List.all_cons, List.all_nil, Bool.and_true, Bool.and_eq_true] at hp
    exact ⟨[a, b, d, .bool false], rfl, by simp only [List.all_cons, List.all_nil, Bool.and_true, Bool.and_eq_true]; exact ⟨hp.1, hp.2.1, hp.2.2, rfl⟩, hb, hE _ _ _ ▸ hk _ _ _ hm w' (hm u w' (e.below hb) hF)⟩
theorem dsparseN (s r : ByteArray) (w : World) (hs : s.size ≤ 9223372036854775807) (hr : r.size ≤ 9223372036854775807) (h : ¬ SpOk s r) :
    Calls Tryz.prog 14 #[.agg #[.string s, .string r]] w fun e w' => e = .returned (.tuple #[.agg ZeroT.toArray, .int .i64 (spCode s r)]) ∧ Below w.heap.size w w' := by
  refine go (fun _ => True) [[.string s, .string r]] [some 2] (tr := (.em (.call 65 [.s (.c 0 0)] [some 3, none]) (.em (.call 65 [.s (.c 0 1)] [some 3, none]) (.em (.pr (.unOp .not 4 (.tmp 0)) 4 [.s (.c 1 3)]) (.cond (.c 3 0) (.ret (.t [.g [.k (.bool false), .k (.slice none 0 0), .k (.slice none 0 0), .k (.bool false), .k (.slice none 0 0), .k (.slice none 0 0)], .s (.k (.int .i64 2))])) (.em (.pr (.unOp .not 4 (.tmp 0)) 4 [.s (.c 2 3)]) (.cond (.c 4 0) (.ret (.t [.g [.k (.bool false), .k (.slice none 0 0), .k (.slice none 0 0), .k (.bool false), .k (.slice none 0 0), .k (.slice none 0 0)], .s (.k (.int .i64 2))])) (.em (.call 17 [.g [.c 1 0, .c 1 1, .c 1 2], .g [.c 2 0, .c 2 1, .c 2 2]] [none]) (.em (.pr (.binOp .gtr 3 (.tmp 0) (.const (.int .i64 0)) 3) 4 [.s (.c 5 0), .s (.k (.int .i64 0))]) (.cond (.c 6 0) (.ret (.t [.g [.k (.bool false), .k (.slice none 0 0), .k (.slice none 0 0), .k (.bool false), .k (.slice none 0 0), .k (.slice none 0 0)], .s (.k (.int .i64 1))])) (.ret (.t [.g [.c 1 0, .c 1 1, .c 1 2, .c 2 0, .c 2 1, .c 2 2], .s (.k (.int .i64 0))])))))))))))) (by kernel_rfl) (by kernel_rfl) (by kernel_rfl) Mono.true trivial ⟨rfl, trivial⟩ ?_
  unfold spCode
  by_cases h1 : RatOk s
  · refine wDQV (fun w b _ => dparseY s w hs h1) rfl (fun _ _ _ => ?_)
    by_cases h2 : RatOk r
    · refine wDQV (fun w b _ => dparseY r w hr h2) rfl (fun _ _ _ => ?_)
      refine wPr (prNot rfl) rfl ?_
      refine wFalse rfl ?_
      refine wPr (prNot rfl) rfl ?_
      refine wFalse rfl ?_
      refine wVal (fun w b ⟨h2, h1, _⟩ => dcmp_any _ _ _ _ 500 500 w ⟨_, _, _, rfl, h1⟩ ⟨_, _, _, rfl, h2⟩ (by decide) (by decide)) rfl ?_
      refine wPr (prGt rfl rfl) rfl ?_
      have h3 : ¬ ratVal s ≤ ratVal r := fun h3 => h ⟨h1, h2, h3⟩
      refine wTrue (by show Value.bool (decide _) = _; rw [v_gt, decide_eq_true (by grind)]) ?_
      exact wRet fun w b _ => ⟨by rw [if_pos ⟨h1, h2⟩, if_neg h3]; rfl, b⟩
    · refine wNo r hr h2 (fun _ _ _ => ?_)
      refine wPr (prNot rfl) rfl ?_
      refine wFalse rfl ?_
      refine wPr (prNot rfl) rfl ?_
      refine wTrue rfl ?_
      exact wRet fun w b _ => ⟨by rw [if_neg (fun h => h2 h.2)]; rfl, b⟩
  · refine wNo s hs h1 (fun _ _ _ => ?_)
    by_cases h2 : RatOk r
    · refine wDQV (fun w b _ => dparseY r w hr h2) rfl (fun _ _ _ => ?_)
      refine wPr (prNot rfl) rfl ?_
      refine wTrue rfl ?_
      exact wRet fun w b _ => ⟨by rw [if_neg (fun h => h1 h.1)]; rfl, b⟩
    · refine wNo r hr h2 (fun _ _ _ => ?_)
      refine wPr (prNot rfl) rfl ?_
      refine wTrue rfl ?_
      exact wRet fun w b _ => ⟨by rw [if_neg (fun h => h1 h.1)]; rfl, b⟩
theorem is5_any (v u : Value) (x y : Rat) (k j : Nat) (w : World) (h : SpB w v x y k) (h' : DsB w u x y j) (hk : k ≤ 200000) (hj : j ≤ 200000) (hT : Tabs w) :
    Calls Tryz.prog 15 #[v, u] w fun e w' => e = .returned (.bool true) ∧ Below w.heap.size w w' := by
  obtain ⟨a, b, c, d, a', b', c', d', rfl, h⟩ := h
  obtain ⟨p, q, r, p', q', r', rfl, h'⟩ := h'
  refine go (fun w => SpQ w a b c d a' b' c' d' x y k ∧ DsQ w p q r p' q' r' x y j) [[a, b, c, d, a', b', c', d'], [p, q, r, p', q', r']] [some 8, some 6] (tr := (.em (.call 45 [.g [.c 0 0, .c 0 1, .c 0 2, .c 0 3], .g [.c 1 0, .c 1 1, .c 1 2]] [none]) (.cond (.c 2 0) (.em (.call 45 [.g [.c 0 4, .c 0 5, .c 0 6, .c 0 7], .g [.c 1 3, .c 1 4, .c 1 5]] [none]) (.ret (.v (.s (.c 3 0))))) (.ret (.v (.s (.k (.bool false)))))))) (by kernel_rfl) (by kernel_rfl) (by kernel_rfl) ((mSp _ _ _ _ _ _ _ _ _ _ _).and (mDs _ _ _ _ _ _ _ _ _)) ⟨h, h'⟩ ⟨spl h, dspl h', trivial⟩ ?_
  refine wVal (fun w b ⟨h, h'⟩ => is_any _ _ x k j w ⟨_, _, _, _, rfl, h.1⟩ ⟨_, _, _, rfl, h'.1⟩ hk hj (hT.below b)) rfl ?_
  refine wTrue rfl ?_
  refine wVal (fun w b ⟨h, h'⟩ => is_any _ _ y k j w ⟨_, _, _, _, rfl, h.2⟩ ⟨_, _, _, rfl, h'.2⟩ hk hj (hT.below b)) rfl ?_
  exact wRet fun w b _ => ⟨rfl, b⟩
def OfOk (s r : ByteArray) : Prop := SpOk s r ∧ s.size ≤ 60 ∧ r.size ≤ 60
theorem ofOk_lt {s r : ByteArray} (h : OfOk s r) : (ratVal s).num.natAbs < pw 21 ∧ (ratVal s).den < pw 21 ∧ (ratVal r).num.natAbs < pw 21 ∧ (ratVal r).den < pw 21 := by
  obtain ⟨h1, h2⟩ := numQ_lt (s := s) ⟨h.1.1, by have := h.2.1; omega⟩
  obtain ⟨h3, h4⟩ := numQ_lt (s := r) ⟨h.1.2.1, by have := h.2.2; omega⟩
  exact ⟨h1, h2, h3, h4⟩
theorem ofY (s r : ByteArray) (w : World) (hs : s.size ≤ 9223372036854775807) (hr : r.size ≤ 9223372036854775807) (h : OfOk s r) :
    Calls Tryz.prog 22 #[.agg #[.string s, .string r]] w fun e w' => ∃ v u, e = .returned (.tuple #[v, u, .bool true]) ∧ SpB w' v (ratVal s) (ratVal r) 21 ∧ DsB w' u (ratVal s) (ratVal r) 21 ∧ Below w.heap.size w w' := by
  obtain ⟨l1, l2, l3, l4⟩ := ofOk_lt h
  have z1 := h.2.1
  have z2 := h.2.2
  refine go (fun _ => True) [[.string s, .string r]] [some 2] (tr := (.em (.call 14 [.g [.c 0 0, .c 0 1]] [some 6, none]) (.em (.pr (.binOp .neq 34 (.tmp 0) (.const (.int .i64 0)) 34) 4 [.s (.c 1 6), .s (.k (.int .i64 0))]) (.cond (.c 2 0) (.ret (.t [.g [.k (.bool false), .k (.slice none 0 0), .k (.bool false), .k (.slice none 0 0), .k (.bool false), .k (.slice none 0 0), .k (.bool false), .k (.slice none 0 0)], .g [.k (.bool false), .k (.slice none 0 0), .k (.slice none 0 0), .k (.bool false), .k (.slice none 0 0), .k (.slice none 0 0)], .s (.k (.bool false))])) (.em (.pr (.call (.mk (.builtin .len) #[.tmp 0] #[9])) 3 [.s (.c 0 0)]) (.em (.pr (.binOp .gtr 3 (.tmp 0) (.const (.int .i64 60)) 3) 4 [.s (.c 3 0), .s (.k (.int .i64 60))]) (.cond (.c 4 0) (.ret (.t [.g [.k (.bool false), .k (.slice none 0 0), .k (.bool false), .k (.slice none 0 0), .k (.bool false), .k (.slice none 0 0), .k (.bool false), .k (.slice none 0 0)], .g [.k (.bool false), .k (.slice none 0 0), .k (.slice none 0 0), .k (.bool false), .k (.slice none 0 0), .k (.slice none 0 0)], .s (.k (.bool false))])) (.em (.pr (.call (.mk (.builtin .len) #[.tmp 0] #[9])) 3 [.s (.c 0 1)]) (.em (.pr (.binOp .gtr 3 (.tmp 0) (.const (.int .i64 60)) 3) 4 [.s (.c 5 0), .s (.k (.int .i64 60))]) (.cond (.c 6 0) (.ret (.t [.g [.k (.bool false), .k (.slice none 0 0), .k (.bool false), .k (.slice none 0 0), .k (.bool false), .k (.slice none 0 0), .k (.bool false), .k (.slice none 0 0)], .g [.k (.bool false), .k (.slice none 0 0), .k (.slice none 0 0), .k (.bool false), .k (.slice none 0 0), .k (.slice none 0 0)], .s (.k (.bool false))])) (.em (.call 13 [.g [.c 0 0, .c 0 1]] [some 8, none]) (.ret (.t [.g [.c 7 0, .c 7 1, .c 7 2, .c 7 3, .c 7 4, .c 7 5, .c 7 6, .c 7 7], .g [.c 1 0, .c 1 1, .c 1 2, .c 1 3, .c 1 4, .c 1 5], .s (.k (.bool true))]))))))))))))) (by kernel_rfl) (by kernel_rfl) (by kernel_rfl) Mono.true trivial ⟨rfl, trivial⟩ ?_
  refine wDsV (fun w b _ => dsparseY s r w hs hr h.1) rfl (fun _ _ _ _ _ _ => ?_)
  refine wPr (prNe rfl rfl) rfl ?_
  refine wFalse rfl ?_
  refine wPr (prLenS hStrT rfl) rfl ?_
  refine wPr (prGt rfl rfl) rfl ?_
  refine wFalse (by show Value.bool (decide _) = _; rw [decide_eq_false (by omega)]) ?_
  refine wPr (prLenS hStrT rfl) rfl ?_
  refine wPr (prGt rfl rfl) rfl ?_
  refine wFalse (by show Value.bool (decide _) = _; rw [decide_eq_false (by omega)]) ?_
  refine wSpV (fun w b _ => sparseY s r w hs hr h.1) rfl (fun _ _ _ _ _ _ _ _ => ?_)
  exact wRet fun w b ⟨h1, h2, _⟩ => ⟨_, _, rfl, ⟨_, _, _, _, _, _, _, _, rfl, h1.1.cut l1 l2, h1.2.cut l3 l4⟩, ⟨_, _, _, _, _, _, rfl, h2.1.cut l1 l2, h2.2.cut l3 l4⟩, b⟩
def ZeroO : List Value := [.bool false, .slice none 0 0, .bool false, .slice none 0 0, .bool false, .slice none 0 0, .bool false, .slice none 0 0, .bool false, .slice none 0 0, .slice none 0 0, .bool false, .slice none 0 0, .slice none 0 0, .bool false]
theorem ofN (s r : ByteArray) (w : World) (hs : s.size ≤ 9223372036854775807) (hr : r.size ≤ 9223372036854775807) (h : ¬ OfOk s r) :
    Calls Tryz.prog 22 #[.agg #[.string s, .string r]] w fun e w' => e = .returned (.tuple #[.agg ZeroS.toArray, .agg ZeroT.toArray, .bool false]) ∧ Below w.heap.size w w' := by
  refine go (fun _ => True) [[.string s, .string r]] [some 2] (tr := (.em (.call 14 [.g [.c 0 0, .c 0 1]] [some 6, none]) (.em (.pr (.binOp .neq 34 (.tmp 0) (.const (.int .i64 0)) 34) 4 [.s (.c 1 6), .s (.k (.int .i64 0))]) (.cond (.c 2 0) (.ret (.t [.g [.k (.bool false), .k (.slice none 0 0), .k (.bool false), .k (.slice none 0 0), .k (.bool false), .k (.slice none 0 0), .k (.bool false), .k (.slice none 0 0)], .g [.k (.bool false), .k (.slice none 0 0), .k (.slice none 0 0), .k (.bool false), .k (.slice none 0 0), .k (.slice none 0 0)], .s (.k (.bool false))])) (.em (.pr (.call (.mk (.builtin .len) #[.tmp 0] #[9])) 3 [.s (.c 0 0)]) (.em (.pr (.binOp .gtr 3 (.tmp 0) (.const (.int .i64 60)) 3) 4 [.s (.c 3 0), .s (.k (.int .i64 60))]) (.cond (.c 4 0) (.ret (.t [.g [.k (.bool false), .k (.slice none 0 0), .k (.bool false), .k (.slice none 0 0), .k (.bool false), .k (.slice none 0 0), .k (.bool false), .k (.slice none 0 0)], .g [.k (.bool false), .k (.slice none 0 0), .k (.slice none 0 0), .k (.bool false), .k (.slice none 0 0), .k (.slice none 0 0)], .s (.k (.bool false))])) (.em (.pr (.call (.mk (.builtin .len) #[.tmp 0] #[9])) 3 [.s (.c 0 1)]) (.em (.pr (.binOp .gtr 3 (.tmp 0) (.const (.int .i64 60)) 3) 4 [.s (.c 5 0), .s (.k (.int .i64 60))]) (.cond (.c 6 0) (.ret (.t [.g [.k (.bool false), .k (.slice none 0 0), .k (.bool false), .k (.slice none 0 0), .k (.bool false), .k (.slice none 0 0), .k (.bool false), .k (.slice none 0 0)], .g [.k (.bool false), .k (.slice none 0 0), .k (.slice none 0 0), .k (.bool false), .k (.slice none 0 0), .k (.slice none 0 0)], .s (.k (.bool false))])) (.em (.call 13 [.g [.c 0 0, .c 0 1]] [some 8, none]) (.ret (.t [.g [.c 7 0, .c 7 1, .c 7 2, .c 7 3, .c 7 4, .c 7 5, .c 7 6, .c 7 7], .g [.c 1 0, .c 1 1, .c 1 2, .c 1 3, .c 1 4, .c 1 5], .s (.k (.bool true))]))))))))))))) (by kernel_rfl) (by kernel_rfl) (by kernel_rfl) Mono.true trivial ⟨rfl, trivial⟩ ?_
  by_cases h1 : SpOk s r
  · refine wDsV (fun w b _ => dsparseY s r w hs hr h1) rfl (fun _ _ _ _ _ _ => ?_)
    refine wPr (prNe rfl rfl) rfl ?_
    refine wFalse rfl ?_
    refine wPr (prLenS hStrT rfl) rfl ?_
    refine wPr (prGt rfl rfl) rfl ?_
    refine wIf _ rfl (fun e => ?_) (fun e => ?_)
    · exact wRet fun w b _ => ⟨rfl, b⟩
    have z1 : ¬ (60 : Int) < (s.size : Int) := by simpa using e
    refine wPr (prLenS hStrT rfl) rfl ?_
    refine wPr (prGt rfl rfl) rfl ?_
    refine wTrue (by show Value.bool (decide _) = _; rw [decide_eq_true]; have : ¬ r.size ≤ 60 := fun z2 => h ⟨h1, by omega, z2⟩; omega) ?_
    exact wRet fun w b _ => ⟨rfl, b⟩
  · refine wKnown (ZeroT ++ [.int .i64 (spCode s r)]) (fun w b _ => dsparseN s r w hs hr h1) rfl rfl ?_ (hE := rfl)
    refine wPr (prNe rfl rfl) rfl ?_
    refine wTrue (by show Value.bool (spCode s r != 0) = _; rcases spCode_no h1 with e | e <;> rw [e] <;> rfl) ?_
    exact wRet fun w b _ => ⟨rfl, b⟩
set_option maxHeartbeats 800000 in
theorem rnatOf_four (w : World) : Calls Tryz.prog 92 #[.int .u64 4] w fun e w' => ∃ v', e = .returned v' ∧ RefB w' v' 4 1 ∧ Below w.heap.size w w' := by
  have hand : bits BinOp.and IntKind.u64 4 4294967295 = 4 := and_mask32 (t := 4) (by decide)
  go_enter Tryz.func92, Tryz.ntmps92
  go_wp2_with fail
  have hblk := Blk.new w 146 .u32 [4, 0]
  refine (rtrim_any _ [4, 0] _ (Sl.of_blk hblk) (Ok.cons (by decide) (Ok.cons (by decide) Ok.nil)) (by decide)).mono ?_
  rintro e w1 ⟨v1, rfl, hr, rfl⟩
  have HR := Lib.hid hr
  clear hr hblk hand
  go_wp2
  go_ret
  exact ⟨_, rfl, ⟨HR.out, by decide⟩, bel_alloc _ _⟩
set_option maxHeartbeats 800000 in
theorem rintOf_four (w : World) : Calls Tryz.prog 105 #[.int .i64 4] w fun e w' => ∃ v', e = .returned v' ∧ IntB 146 w' v' 4 1 ∧ Below w.heap.size w w' := by
  go_enter Tryz.func105, Tryz.ntmps105
  go_wp2_with fail
  refine (rnatOf_four _).mono ?_
  rintro e w1 ⟨v1, rfl, hn1, hb1⟩
  obtain ⟨ad1, l1, c1, xs1, rfl, _⟩ := hn1.1.shape
  have hI : IntB 146 w1 (.agg #[.bool false, .slice ad1 l1 c1]) 4 1 := intB_of (b := false) (n := 4) hn1.1 hn1.2 rfl
  have HSL := Lib.hid (Slot.of (n := 2) ((heldN1 (w := w)).below hb1).1 rfl)
  have HRR := Lib.hid (fin_int hI HSL.out (by decide) (bel_on (bel_alloc _ _) hb1) (Nat.le_refl _))
  obtain ⟨xR, yR, hxR, hyR, hfxR, hfyR⟩ := HSL.out.two
  clear hn1 hb1 hI
  go_wp2
  refine bodyPost_ret (v := .agg #[.bool false, .slice ad1 l1 c1]) (by simp [results, Tryz.results105, go_sem, HRR.out.2.2.1, HRR.out.2.2.2]) rfl ⟨_, rfl, HRR.out.1, HRR.out.2.1⟩
theorem dofFour_any (w : World) : Calls Tryz.prog 63 #[.int .i64 4] w fun e w' => ∃ v', e = .returned v' ∧ DRatB w' v' 4 1 ∧ Below w.heap.size w w' := by
  refine go (fun _ => True) [[.int .i64 4]] [none] (tr := (.em (.call 105 [.s (.c 0 0)] [some 2]) (.em (.call 92 [.s (.k (.int .u64 1))] [none]) (.ret (.v (.g [.c 1 0, .c 1 1, .c 2 0])))))) (by kernel_rfl) (by kernel_rfl) (by kernel_rfl) Mono.true trivial ⟨rfl, trivial⟩ ?_
  refine wInt hU (fun w b _ => rintOf_four w) (fun x1 y1 => ?_)
  refine wRef hU (fun w b _ => rnatOf_one w) (fun x2 => ?_)
  exact wRet fun w b ⟨h2, h1, _⟩ => ⟨_, rfl, ⟨_, _, _, rfl, h1, ⟨1, h2.1, .inl rfl⟩, h2.2⟩, b⟩
theorem alive_lo : pLo ((-1 : Int) : Rat) ((2 : Int) : Rat) (cut255 2) = 0 := by
  have e : cut255 2 = 2 := by decide
  unfold pLo
  rw [e, if_pos ⟨by decide, by decide, by decide, by decide⟩]
theorem alive_hi : pHi ((-1 : Int) : Rat) ((2 : Int) : Rat) (cut255 2) = 4 := by
  have e : cut255 2 = 2 := by decide
  unfold pHi
  rw [e, show ((-1 : Int) : Rat) = -1 from rfl, show ((2 : Int) : Rat) = 2 from rfl, mx_of (by grind)]
  grind
theorem alive5_any (w : World) (hT : Tabs w) : Calls Tryz.prog 12 #[] w fun e w' => e = .returned (.bool true) ∧ Below w.heap.size w w' := by
  refine go (fun _ => True) [] [] (tr := (.em (.call 62 [.s (.k (.int .i64 (Int.negSucc 0)))] [some 4]) (.em (.call 62 [.s (.k (.int .i64 2))] [some 4]) (.em (.call 16 [.g [.c 0 0, .c 0 1, .c 0 2, .c 0 3], .g [.c 1 0, .c 1 1, .c 1 2, .c 1 3]] [some 8, none]) (.cond (.c 2 8) (.em (.call 33 [.g [.c 2 0, .c 2 1, .c 2 2, .c 2 3, .c 2 4, .c 2 5, .c 2 6, .c 2 7], .s (.k (.int .i64 2))] [some 8]) (.em (.call 63 [.s (.k (.int .i64 0))] [some 3]) (.em (.call 63 [.s (.k (.int .i64 4))] [some 3]) (.em (.call 15 [.g [.c 3 0, .c 3 1, .c 3 2, .c 3 3, .c 3 4, .c 3 5, .c 3 6, .c 3 7], .g [.c 4 0, .c 4 1, .c 4 2, .c 5 0, .c 5 1, .c 5 2]] [none]) (.ret (.v (.s (.c 6 0)))))))) (.ret (.v (.s (.k (.bool false)))))))))) (by kernel_rfl) (by kernel_rfl) (by kernel_rfl) Mono.true trivial trivial ?_
  refine wRat (fun w b _ => qof_any (-1) w (by decide) (by decide)) (fun _ _ _ _ => ?_)
  refine wRat (fun w b _ => qof_any 2 w (by decide) (by decide)) (fun _ _ _ _ => ?_)
  refine wSpV (fun w b ⟨h2, h1, _⟩ => snewY _ _ _ _ 2 w ⟨_, _, _, _, rfl, h1⟩ ⟨_, _, _, _, rfl, h2⟩ (by decide) (by decide)) rfl (fun _ _ _ _ _ _ _ _ => ?_)
  refine wTrue rfl ?_
  refine wSp (x := 0) (y := 4) (fun w b ⟨h, _⟩ => by rw [← alive_lo, ← alive_hi]; exact spow_any _ _ _ 2 2 w ⟨_, _, _, _, _, _, _, _, rfl, h⟩ (by decide) (by decide) (by decide)) (fun _ _ _ _ _ _ _ _ => ?_)
  refine wDQ (fun w b _ => dofZero_any w) (fun _ _ _ => ?_)
  refine wDQ (fun w b _ => dofFour_any w) (fun _ _ _ => ?_)
  refine wVal (fun w b ⟨h4, h0, h, _⟩ => is5_any _ _ 0 4 _ 1 w ⟨_, _, _, _, _, _, _, _, rfl, h⟩ ⟨_, _, _, _, _, _, rfl, h0, h4⟩ (by decide) (by decide) (hT.below b)) rfl ?_
  exact wRet fun w b _ => ⟨rfl, b⟩
section prims
variable {P : Program} {t t2 ty : TypeId} {vs : List Value} {p q : Operand} {x y : Int}
theorem prAddF {z : Int} (hp : pe vs p = .int .i64 x) (hq : pe vs q = .int .i64 y) (h : x + y = z) (h0 : -9223372036854775808 ≤ z) (h1 : z ≤ 9223372036854775807) : PrimOk P (.binOp .add t p q t2) ty vs (.int .i64 z) := by subst h; exact prAddI hp hq h0 h1
end prims
theorem tmod_em (i : Int) {n : Int} (h : 0 < n) : i.tmod n < n ∧ -n < i.tmod n ∧ (i.tmod n < 0 → i.tmod n + n = i % n) ∧ (¬ i.tmod n < 0 → i.tmod n = i % n) := by
  have h1 := Int.tmod_lt_of_pos i h
  have h2 := Int.lt_tmod_of_pos i h
  have e : i % n = i.tmod n % n := by
    have := Int.tmod_add_mul_tdiv i n
    generalize i.tmod n = r at *
    generalize i.tdiv n = q at *
    rw [← this, Int.add_mul_emod_self_left]
  refine ⟨h1, h2, fun h3 => ?_, fun h3 => ?_⟩
  · rw [e, ← Int.add_emod_right, Int.emod_eq_of_lt (by omega) (by omega)]
  · rw [e, Int.emod_eq_of_lt (by omega) (by omega)]
def wi (i lo hi : Int) : Int := lo + i % (hi - lo + 1)
theorem wi_lim (i : Int) {lo hi : Int} (h : lo ≤ hi) : lo ≤ wi i lo hi ∧ wi i lo hi ≤ hi := by
  unfold wi
  have h1 := Int.emod_nonneg i (b := hi - lo + 1) (by omega)
  have h2 := Int.emod_lt_of_pos i (b := hi - lo + 1) (by omega)
  omega
theorem wi_any (i lo hi : Int) (w : World) (hl : lo ≤ hi) (h0 : -1000 ≤ lo) (h1 : hi ≤ 1000) : Calls Tryz.prog 32 #[.int .i64 i, .int .i64 lo, .int .i64 hi] w fun r w' => r = .returned (.int .i64 (wi i lo hi)) ∧ Below w.heap.size w w' := by
  obtain ⟨m1, m2, m3, m4⟩ := tmod_em i (n := hi - lo + 1) (by omega)
  have m5 := wi_lim i hl
  refine go (fun _ => True) [[.int .i64 i], [.int .i64 lo], [.int .i64 hi]] [none, none, none] (tr := (.em (.pr (.binOp .sub 3 (.tmp 0) (.tmp 1) 3) 3 [.s (.c 2 0), .s (.c 1 0)]) (.em (.pr (.binOp .add 3 (.tmp 0) (.const (.int .i64 1)) 3) 3 [.s (.c 3 0), .s (.k (.int .i64 1))]) (.em (.pr (.binOp .rem 3 (.tmp 0) (.tmp 1) 3) 3 [.s (.c 0 0), .s (.c 4 0)]) (.em (.pr (.binOp .lss 3 (.tmp 0) (.const (.int .i64 0)) 3) 4 [.s (.c 5 0), .s (.k (.int .i64 0))]) (.cond (.c 6 0) (.em (.pr (.binOp .sub 3 (.tmp 0) (.tmp 1) 3) 3 [.s (.c 2 0), .s (.c 1 0)]) (.em (.pr (.binOp .add 3 (.tmp 0) (.const (.int .i64 1)) 3) 3 [.s (.c 7 0), .s (.k (.int .i64 1))]) (.em (.pr (.binOp .add 3 (.tmp 0) (.tmp 1) 3) 3 [.s (.c 5 0), .s (.c 8 0)]) (.em (.pr (.binOp .add 3 (.tmp 0) (.tmp 1) 3) 3 [.s (.c 1 0), .s (.c 9 0)]) (.ret (.v (.s (.c 10 0)))))))) (.em (.pr (.binOp .add 3 (.tmp 0) (.tmp 1) 3) 3 [.s (.c 1 0), .s (.c 5 0)]) (.ret (.v (.s (.c 7 0))))))))))) (by kernel_rfl) (by kernel_rfl) (by kernel_rfl) Mono.true trivial ⟨rfl, rfl, rfl, trivial⟩ ?_
  refine wPr (prSubI rfl rfl (by omega) (by omega)) rfl ?_
  refine wPr (prAddI rfl rfl (by omega) (by omega)) rfl ?_
  refine wPr (prRemI rfl rfl (by omega)) rfl ?_
  refine wPr (prLt rfl rfl) rfl ?_
  refine wIf _ rfl (fun e => ?_) (fun e => ?_)
  · have e1 : i.tmod (hi - lo + 1) < 0 := by simpa using e
    refine wPr (prSubI rfl rfl (by omega) (by omega)) rfl ?_
    refine wPr (prAddI rfl rfl (by omega) (by omega)) rfl ?_
    refine wPr (prAddI rfl rfl (by omega) (by omega)) rfl ?_
    refine wPr (prAddF (z := wi i lo hi) rfl rfl (by unfold wi; rw [m3 e1]) (by omega) (by omega)) rfl ?_
    exact wRet fun w b _ => ⟨rfl, b⟩
  · have e1 : ¬ i.tmod (hi - lo + 1) < 0 := by simpa using e
    refine wPr (prAddF (z := wi i lo hi) rfl rfl (by unfold wi; rw [m4 e1]) (by omega) (by omega)) rfl ?_
    exact wRet fun w b _ => ⟨rfl, b⟩
end Go.Proofs.YtfohgkabmdhhaaaGreatDoor

namespace Cin
open Go Go.RowKit
def RowO (B : Nat) (t : TypeId) (n : Nat) (w : World) (v : Value) (xs : List (List Value)) : Prop := (∀ x ∈ xs, x.length = n) ∧ w.ownsRow B t n v xs.length xs.flatten
section
variable {D Z : TypeId → Bool} {B n : Nat} {t : TypeId} {u w : World} {v : Value} {xs : List (List Value)}
theorem RowO.weak {B' : Nat} (h : RowO B t n w v xs) (hB : B' ≤ B) : RowO B' t n w v xs := by
  refine ⟨h.1, h.2.1, ?_⟩
  rcases h.2.2 with h' | ⟨g, cap, cur, e, hb, r⟩
  · exact .inl h'
  · exact .inr ⟨g, cap, cur, e, by omega, r⟩
theorem RowO.ext (h : RowO B t n u v xs) (e : Ext D u w) (ht : D t = true) : RowO B t n w v xs := by
  refine ⟨h.1, h.2.1, ?_⟩
  rcases h.2.2 with h' | ⟨g, cap, cur, e1, hb, hg, r⟩
  · exact .inl h'
  · exact .inr ⟨g, cap, cur, e1, hb, e.block g _ _ _ hg ht, r⟩
theorem monoRow (ht : D t = true) (B n : Nat) (v : Value) (xs : List (List Value)) : Mono D fun w => RowO B t n w v xs := fun _ _ e h => h.ext e ht
theorem RowO.below {w' : World} (h : RowO B t n w v xs) (hb : Below w.heap.size w w') : RowO B t n w' v xs := h.ext (D := fun _ => true) (Ext.of_below hb) rfl
theorem RowO.shape (h : RowO B t n w v xs) (hx : xs ≠ []) : ∃ g cap, v = .slice (some ⟨g, 0, none⟩) xs.length cap := by
  rcases h.2.2 with ⟨_, h0⟩ | ⟨g, cap, cur, rfl, _⟩
  · exact absurd (List.eq_nil_of_length_eq_zero h0) hx
  · exact ⟨g, cap, rfl⟩
theorem flat_at : ∀ {xs : List (List Value)} {i j : Nat} {x : List Value} {y : Value}, (∀ x ∈ xs, x.length = n) → xs[i]? = some x → x[j]? = some y → xs.flatten[i * n + j]? = some y
  | [], i, _, _, _, _, h, _ => by cases i <;> simp at h
  | a :: r, 0, j, x, y, hl, h, hy => by
    simp only [List.getElem?_cons_zero, Option.some.injEq] at h
    subst h
    have := (List.getElem?_eq_some_iff.1 hy).1
    rw [List.flatten_cons, Nat.zero_mul, Nat.zero_add, List.getElem?_append_left this]; exact hy
  | a :: r, i + 1, j, x, y, hl, h, hy => by
    have ha := hl a List.mem_cons_self
    rw [List.flatten_cons, List.getElem?_append_right (by rw [ha, Nat.succ_mul]; omega), ha, show (i + 1) * n + j - n = i * n + j by rw [Nat.succ_mul]; omega]
    exact flat_at (fun x hx => hl x (List.mem_cons_of_mem _ hx)) (by simpa using h) hy
theorem RowO.at {g cap len i : Nat} {x : List Value} (h : RowO B t n w (.slice (some ⟨g, 0, none⟩) len cap) xs) (hx : xs[i]? = some x) : w.rangeAt g (i * n) x := by
  intro j y hy
  have hf := flat_at h.1 hx hy
  rcases h.2.2 with ⟨h0, _⟩ | ⟨g', cap', cur, e, hb, hg, h1, h2, h3, h4⟩
  · cases h0
  · injection e with e1 e2 e3
    injection e1 with e1
    injection e1 with e1
    subst e1
    have : cur[i * n + j]? = some y := by
      rw [← Array.getElem?_toList]
      rw [← h4] at hf
      rw [List.getElem?_take] at hf
      split at hf
      · exact hf
      · cases hf
    simp [World.cell?, hg, this]
theorem RowO.len {g cap len : Nat} (h : RowO B t n w (.slice (some ⟨g, 0, none⟩) len cap) xs) : len = xs.length := by
  rcases h.2.2 with ⟨h0, _⟩ | ⟨g', cap', cur, e, _⟩
  · cases h0
  · injection e
end
section prims
variable {P : Program} {T e ty : TypeId} {vs : List Value} {p q : Operand} {κ : IntKind} {i : Int}
theorem prIdxA {g len cap n : Nat} {ie : TypeInfo} (hu : P.underlying T = some (.slice e)) (hi : P.info? e = some ie) (hn : ie.size = n) (hp : pe vs p = .slice (some ⟨g, 0, none⟩) len cap) (hq : pe vs q = .int κ i) (h0 : 0 ≤ i) (h1 : i < len) :
    PrimOk P (.indexAddr T p q) ty vs (.pointer (some ⟨g, i.toNat * n, none⟩)) := fun w => by
  simp only [execOp, hp, hq]
  simp [Instr.indexAt, asIntOf, run_underlying hu, h0, h1, Go.sizeOf, typeInfo, hi, hn, Addr.add_mid]
theorem ldRow {t : TypeId} {g o : Nat} {cs : List Value} {d : TypeDesc} {w : World} (hp : pe vs p = .pointer (some ⟨g, o, none⟩)) (hc : w.rangeAt g o cs) (hu : P.underlying t = some d) (hd : d.isRow = true) (hi : (P.info? t).map (·.size) = some cs.length) :
    (execOp (pe vs) ⟨none, .load t p, ty, "", #[], none⟩).run P w = .ok (.value (.agg cs.toArray)) w := by
  simp only [execOp, hp]
  simp [run_loadAt_mid w g o t cs d hc hu hd hi]
end prims
section rules
variable {P : Program} {w0 : World} {D Z : TypeId → Bool} {Post : Ending → World → Prop} {F : World → Prop} {E : Env} {k : Tr} {L : LC}
theorem wEx {tr : Tr} (h : ∀ u, F u → ∃ G : World → Prop, Mono D G ∧ G u ∧ Wk P w0 D Z Post L G tr E) : Wk P w0 D Z Post L F tr E := fun _ u hF => let ⟨_, hG, hg, hk⟩ := h u hF; hk hG u hg
def VarV (B : Nat) (t : TypeId) (w : World) (g : Nat) (cs : List Value) : Prop := B ≤ g ∧ w.heap[g]? = some (.cells cs.toArray t (0, 0))
theorem monoVar {t : TypeId} (ht : D t = true) (B g : Nat) (cs : List Value) : Mono D fun w => VarV B t w g cs := fun _ _ e h => ⟨h.1, e.block g _ _ _ h.2 ht⟩
theorem VarV.range {B g : Nat} {t : TypeId} {w : World} {cs : List Value} (h : VarV B t w g cs) : w.rangeAt g 0 cs := by
  intro j v hj
  simp [World.cell?, h.2, hj]
theorem wBuild {T e ty : TypeId} {len n : Nat} {parts : Array (Nat × Operand)} {ar : List V1} {ie : TypeInfo} {z : Value} (xs : List (List Value)) (hT : P.underlying T = some (.slice e)) (hi : P.info? e = some ie) (hz : ie.zero = some z) (hn : ie.size = n) (hD : D e = true)
    (hf : Instr.fill (fun i => some (i * n, n)) ((Array.range (len * n)).map (z.cells[· % z.cells.size]!)) (parts.map fun (i, x) => (i, pe (ar.map (V1.den [] E)) x)).toList = some xs.flatten.toArray)
    (hl : xs.length = len) (hx : ∀ x ∈ xs, x.length = n) (h0 : 0 < len * n) (h1 : len * n ≤ 2 ^ 24) (h2 : len ≤ maxLen)
    {E' : Nat → Env} (hk : ∀ g, Wk P w0 D Z Post L (fun w => RowO w0.heap.size e n w (.slice (some ⟨g, 0, none⟩) len len) xs ∧ F w) k (E' g))
    (hE : ∀ g, E ++ [[.slice (some ⟨g, 0, none⟩) len len]] = E' g := by intros; (simp only [List.cons_append, List.nil_append]) <;> exact rfl) : Wk P w0 D Z Post L F (.em (.wx (.buildSlice T len parts) ty ar (some none)) k) E := by
  intro hm u hF w e1 b
  subst hn
  have hr := run_buildSlice (P := P) w T e len (parts.map fun (i, x) => (i, pe (ar.map (V1.den [] E)) x)) xs.flatten.toArray ie z hT hi hz (by omega) (by omega) hf
  refine ⟨[.slice (some ⟨w.heap.size, 0, none⟩) len len], w.alloc (.cells xs.flatten.toArray e), ?_, rfl, Chg.of_below (bel_alloc _ _), bel_on b (bel_alloc _ _), hE _ ▸ hk w.heap.size ((monoRow hD _ _ _ _).and hm) _ ⟨?_, hm u _ (e1.below (bel_alloc _ _)) hF⟩⟩
  · show (execOp _ _).run P w = .ok (.value (.slice (some ⟨w.heap.size, 0, none⟩) len len)) _
    simp only [execOp]
    simp [hr]
  · have hfl : xs.flatten.length = len * ie.size := by
      rw [List.length_flatten, ← hl]
      clear hf hr hk hE h0 h1 h2 hl
      induction xs with
      | nil => simp
      | cons a r ih =>
        rw [List.map_cons, List.sum_cons, hx a List.mem_cons_self, ih (fun x h => hx x (List.mem_cons_of_mem _ h)), List.length_cons, Nat.succ_mul]; omega
    refine ⟨hx, by rw [hl]; exact hfl, .inr ⟨w.heap.size, len, xs.flatten.toArray, by rw [hl], b.size, heap_alloc_new w _, by omega, h2, by rw [List.size_toArray]; exact hfl, ?_⟩⟩
    rw [hl, List.take_of_length_le (by rw [← hfl]; exact Nat.le_refl _)]
end rules
end Cin

namespace Cin
open Go Go.RowKit
def Keeps (t : TypeId) (g : Nat) (G : World → Prop) : Prop := ∀ (w : World) (cs cs' : List Value), w.heap[g]? = some (.cells cs.toArray t (0, 0)) → G w → G (w.setRow g cs'.toArray)
section keeps
variable {Z : TypeId → Bool} {t t' : TypeId} {g g' B n len cap : Nat} {G H : World → Prop} {xs : List (List Value)} {ds : List Value}
theorem Keeps.and (h : Keeps t g G) (h' : Keeps t g H) : Keeps t g fun w => G w ∧ H w := fun w cs cs' hv ⟨a, b⟩ => ⟨h w cs cs' hv a, h' w cs cs' hv b⟩
theorem Keeps.mono (hG : Mono Z G) (hZ : Z t = false) : Keeps t g G := fun w cs cs' hv hg => hG w _ ⟨by simp, fun b c tt f hb ht => by
  by_cases hne : b = g
  · subst hne
    rw [hv] at hb
    injection hb with hb
    injection hb with _ h2 _
    subst h2
    rw [hZ] at ht; cases ht
  · rw [setRow_other w g b _ hne]; exact hb⟩ hg
theorem Keeps.var (h : g' ≠ g) : Keeps t g fun w => VarV B t' w g' ds := fun w _ cs' _ ⟨h1, h2⟩ => ⟨h1, by rw [setRow_other w g g' _ h]; exact h2⟩
theorem Keeps.row (h : g' ≠ g) : Keeps t g fun w => RowO B t' n w (.slice (some ⟨g', 0, none⟩) len cap) xs := fun w _ cs' _ ⟨h1, h2, h3⟩ => by
  refine ⟨h1, h2, ?_⟩
  rcases h3 with ⟨h0, _⟩ | ⟨k, cp, cur, e, hb, hg, r⟩
  · cases h0
  · have hk : k = g' := by
      injection e with e1 _ _
      injection e1 with e1
      injection e1 with e1
      exact e1.symm
    subst hk
    exact .inr ⟨k, cp, cur, e, hb, by rw [setRow_other w g k _ h]; exact hg, r⟩
theorem RowO.lt {w : World} (h : RowO B t n w (.slice (some ⟨g, 0, none⟩) len cap) xs) : g < w.heap.size := by
  rcases h.2.2 with ⟨h0, _⟩ | ⟨k, cp, cur, e, hb, hg, r⟩
  · cases h0
  · have hk : k = g := by
      injection e with e1 _ _
      injection e1 with e1
      injection e1 with e1
      exact e1.symm
    subst hk
    exact lt_of_heap hg
theorem VarV.lt {w : World} (h : VarV B t w g ds) : g < w.heap.size := lt_of_heap h.2
end keeps
section rules
variable {P : Program} {w0 : World} {D Z : TypeId → Bool} {Post : Ending → World → Prop} {F : World → Prop} {E : Env} {k : Tr} {L : LC}
theorem wAllocD {t ty : TypeId} {ie : TypeInfo} (cs : List Value) (Q : Nat → Prop) (hQ : ∀ w, F w → Q w.heap.size) (hi : P.info? t = some ie) (hz : ie.zero = some (.agg cs.toArray)) (hD : D t = true)
    {E' : Nat → Env} (hk : ∀ g, Q g → Wk P w0 D Z Post L (fun w => VarV w0.heap.size t w g cs ∧ F w) k (E' g))
    (hE : ∀ g, E ++ [[.pointer (some ⟨g, 0, none⟩)]] = E' g := by intros; (simp only [List.cons_append, List.nil_append]) <;> exact rfl) : Wk P w0 D Z Post L F (.em (.wx (.alloc t) ty [] (some none)) k) E := by
  intro hm u hF w e b
  refine ⟨[.pointer (some ⟨w.heap.size, 0, none⟩)], w.alloc (.cells cs.toArray t), ?_, rfl, Chg.of_below (bel_alloc _ _), bel_on b (bel_alloc _ _), hE _ ▸ hk w.heap.size (hQ w (hm u w e hF)) ((monoVar hD _ _ _).and hm) _ ⟨⟨b.size, heap_alloc_new w _⟩, hm u _ (e.below (bel_alloc _ _)) hF⟩⟩
  show (execOp _ _).run P w = .ok (.value (.pointer (some ⟨w.heap.size, 0, none⟩))) _
  simp [execOp, Instr.alloc, zeroValue, typeInfo, hi, hz, newVar, newRow, Value.cells]
theorem wStoreD {t ty : TypeId} {p q : Operand} {ar : List V1} {g : Nat} {cs cs' : List Value} (G : World → Prop) (hG : Keeps t g G) (hGD : Mono D G) (hD : D t = true) (hZ : Z t = false) (hi : (P.info? t).map (·.size) = some cs'.length) (hl : cs.length = cs'.length) (hc : cs'.all Value.oneCell' = true)
    (hp : pe (ar.map (V1.den [] E)) p = .pointer (some ⟨g, 0, none⟩)) (hq : pe (ar.map (V1.den [] E)) q = .agg cs'.toArray)
    (h1 : ∀ w, F w → VarV w0.heap.size t w g cs ∧ G w)
    {E' : Env} (hk : Wk P w0 D Z Post L (fun w => VarV w0.heap.size t w g cs' ∧ G w) k E') (hE : E ++ [[]] = E' := by intros; (simp only [List.cons_append, List.nil_append]) <;> exact rfl) :
    Wk P w0 D Z Post L F (.em (.wx (.store t p q) ty ar none) k) E := by
  intro hm u hF w e b
  obtain ⟨⟨hg, hv⟩, hGw⟩ := h1 w (hm u w e hF)
  have hrun := run_storeVar_row (P := P) w g t t cs.toArray cs'.toArray hv (by simpa using hi) (by simp [hl]) (by simpa using hc)
  have hchg : Chg D Z w (w.setRow g cs'.toArray) := ⟨by simp, fun bk cc tt ff hbk hor => by
    by_cases hne : bk = g
    · subst hne
      rw [hv] at hbk
      injection hbk with hbk
      injection hbk with _ h2 _
      subst h2
      rcases hor with h | h
      · rw [hD] at h; cases h
      · rw [hZ] at h; cases h
    · rw [setRow_other w g bk _ hne]; exact hbk⟩
  have hnew : VarV w0.heap.size t (w.setRow g cs'.toArray) g cs' := ⟨hg, setRow_heap w g _ _ t _ hv⟩
  refine ⟨[], w.setRow g cs'.toArray, ?_, rfl, hchg, below_setRow b hg _, hE ▸ hk ((monoVar hD _ _ _).and hGD) _ ⟨hnew, hG w cs cs' hv hGw⟩⟩
  show (execOp _ _).run P w = .ok .skip _
  simp [execOp, hp, hq, Instr.storeAt, Instr.sureAddr, hrun]
theorem wLoopY {d : Nat} {init : List A} {body : Tr} (I : List Value → World → Prop) (H : World → Prop) (hI : ∀ cs, Mono D (I cs)) (hH : Mono Z H) (hHD : Mono D H) (μ : List Value → Nat) (h0 : ∀ w, F w → I (init.map (A.den [] E)) w ∧ H w)
    {E' : List Value → Env} (hk : ∀ cs, cs.length = init.length → Wk P w0 D Z Post (updL L d fun cs' u => I cs' u ∧ μ cs' < μ cs) (fun w => I cs w ∧ H w) body (E' cs)) (hE : ∀ cs, E ++ [cs] = E' cs := by intros; (simp only [List.cons_append, List.nil_append]) <;> exact rfl) :
    Wk P w0 D Z Post L F (.loop d init body) E :=
  fun _ u hF => ⟨I, μ, (h0 u hF).1, fun cs u' hl _ he hi => hE cs ▸ hk cs hl ((hI cs).and hHD) u' ⟨hi, hH u u' he (h0 u hF).2⟩⟩
end rules
end Cin
