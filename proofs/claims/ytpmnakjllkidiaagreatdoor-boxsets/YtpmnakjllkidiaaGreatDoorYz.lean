/- A slice of pairs of texts as an argument. No program. -/
import Derived.Test.YtpmnakjllkidiaaGreatDoorYu
import Derived.ChangeSame
import Derived.ChangeMaps5
import Derived.Deep.SlicePairs
import Derived.Carry
import Derived.Test.YtpmnakjllkidiaaGreatDoorYy
import Derived.Deep.Slices
namespace Cin
open Go Go.ChangeShapes Go.WideShapes Go.RowKit Go.Deep
def pairRows (ps : List (ByteArray × ByteArray)) : List (List Value) := ps.map fun p => [.string p.1, .string p.2]
theorem pairRows_len (ps : List (ByteArray × ByteArray)) : ∀ x ∈ pairRows ps, x.length = 2 := fun x hx => by
  obtain ⟨p, _, rfl⟩ := List.mem_map.1 hx
  rfl
section
variable {H : Type} {enc : TypeId × Value → H} {P : Program} {w : World} {base : Nat} {held : Bool}
theorem open_pairs {r : Reach} {b0 : Nat} {t e s : TypeId} {f0 f1 : Field} {v : Value} {d : DataW H} {pl : List MemPlace} (ht : P.underlying t = some (.slice e)) (he : P.underlying e = some (.struct #[f0, f1])) (hs : P.underlying s = some .string) (hf : f0.type = s ∧ f1.type = s ∧ f0.offset = 0 ∧ f1.offset = 1) (ce : P.cellsOf e = 2) (cs : P.cellsOf s = 1)
    (hval : Value.okWide P w r b0 t v) (hd : DataW.Trod enc P w base (fun _ => true) held t v d pl) :
    ∃ ps : List (ByteArray × ByteArray), RowR 2 w v (pairRows ps) ∧ ∀ p ∈ ps, p.1.size ≤ maxLen ∧ p.2.size ≤ maxLen := by
  obtain ⟨t0, t1, o0, o1⟩ := hf
  obtain ⟨a0, ln, cp, rfl⟩ := okWide_slice ht hval
  obtain ⟨fuel, hf⟩ := hd
  simp only [Value.cells] at hf
  rcases open_slice_pairs ht he ce o0 o1 (by rw [t0]; exact cs) (by rw [t1]; exact cs) hf with ⟨hc, _⟩ | ⟨a, len, cap, m, k, V0, V1, D0, D1, P0, P1, hc, _, hl, hm, hmm, hx, hall⟩
  · simp only [List.cons.injEq, and_true] at hc
    injection hc with e1 e2 e3
    subst e1 e2 e3
    exact ⟨[], RowR.nil _ _ (fun _ => rfl), fun _ h => by cases h⟩
  · simp only [List.cons.injEq, and_true] at hc
    injection hc with e1 e2 e3
    subst e1 e2 e3
    simp only [if_true] at hmm
    subst hmm
    have hstr : ∀ i, i < m → ∃ q : ByteArray × ByteArray, V0 i = .string q.1 ∧ V1 i = .string q.2 ∧ q.1.size ≤ maxLen ∧ q.2.size ≤ maxLen := fun i hi => by
      have h0 := (hall i hi).2.2.1
      have h1 := (hall i hi).2.2.2
      rw [t0] at h0
      rw [t1] at h1
      obtain ⟨x, g0, _, l0⟩ := DataW.trod_string hs h0
      obtain ⟨y, g1, _, l1⟩ := DataW.trod_string hs h1
      simp only [List.cons.injEq, and_true] at g0 g1
      exact ⟨(x, y), g0, g1, l0, l1⟩
    obtain ⟨q, hq⟩ := choose_lt hstr
    refine ⟨(List.range ln).map q, ⟨pairRows_len _, ?_⟩, fun p hp => ?_⟩
    · cases hln : ln with
      | zero => exact .inl ⟨_, _, rfl, fun h => (by cases h), by simp [pairRows]⟩
      | succ l =>
        right
        obtain ⟨b, o, spot⟩ := a
        have hspot : spot = none := by simpa [Addr.add] using World.cell?_spot (hall 0 (by omega)).1
        subst hspot
        have hb : b < w.heap.size := by
          have := (hall 0 (by omega)).1
          simp only [Nat.zero_mul, Addr.add_mid, Nat.add_zero, World.cell?] at this
          cases hh : w.heap[b]? with
          | none => simp [hh] at this
          | some ob => exact lt_of_heap hh
        refine ⟨b, o, m, by simp [pairRows], hb, by simp [pairRows]; omega, fun i x hx j y hy => ?_⟩
        simp only [pairRows, List.map_map, List.getElem?_map] at hx
        cases hr : (List.range (l + 1))[i]? with
        | none => rw [hr] at hx; cases hx
        | some i' =>
          rw [hr] at hx
          simp only [Option.map_some, Option.some.injEq, Function.comp] at hx
          have hi := (List.getElem?_eq_some_iff.1 hr)
          obtain ⟨hi1, hi2⟩ := hi
          simp at hi1 hi2
          subst hi2
          subst hx
          obtain ⟨c0, c1, _, _⟩ := hall i (by omega)
          obtain ⟨g0, g1, _, _⟩ := hq i (by omega)
          rw [g0] at c0
          rw [g1] at c1
          simp only [Addr.add_mid] at c0 c1
          match j, hy with
          | 0, hy => simp at hy; subst hy; exact c0
          | 1, hy => simp at hy; subst hy; exact c1
    · obtain ⟨i, hi, rfl⟩ := List.mem_map.1 hp
      have := hq i (by have := List.mem_range.1 hi; omega)
      exact ⟨this.2.2.1, this.2.2.2⟩
end
end Cin

namespace Go.Proofs.YtpmnakjllkidiaaGreatDoor
open Go.RowKit Cin
theorem told_v {w0 : W0} {v : Value} {e : Ending} {w' : World} (h : TellsA w0 [none] (fun _ => [.ro false (pV v)]) e w') : e = .returned v ∧ Below w0.w.heap.size w0.w w' := by
  obtain ⟨cs, os, γ, rfl, _, ⟨c1, c2, o1, o2, rfl, _, ⟨h1, _⟩, h2⟩, hb⟩ := h
  obtain ⟨rfl, _⟩ := h1
  rw [h2.1]
  exact ⟨rfl, hb⟩
def at0 (W : World) : W0 := ⟨W, W.heap.size, Nat.le_refl _, fun _ => False, fun _ h => h.elim⟩
theorem rows_arg {W : World} {v : Value} {r : Rty} {xs : List (List Value)} {rows : List (List Pd)} (hn : 0 < r.n) (h : RowR r.n W v xs) (hl : rows.length = xs.length) (hr : ∀ (i : Nat) (x : List Value) (row : List Pd), xs[i]? = some x → rows[i]? = some row → r.Fit row ∧ RL ⟨W.heap.size, some W.heap.size, fun _ => False⟩ W row x) :
    RL ⟨W.heap.size, some W.heap.size, fun _ => False⟩ W [pRows r rows] [v] := by
  refine ⟨[v], [], by simp, ⟨fun row hm => ?_, ?_⟩, rfl⟩
  · obtain ⟨i, hi, rfl⟩ := List.getElem_of_mem hm
    exact (hr i xs[i] _ (List.getElem?_eq_getElem (by omega)) (List.getElem?_eq_getElem hi)).1
  · rcases h.2 with ⟨ad, cap, rfl, hc, rfl⟩ | ⟨b, o, cap, rfl, hb, hm, hat⟩
    · exact .inl ⟨ad, cap, rfl, hc, List.eq_nil_of_length_eq_zero hl⟩
    · cases hx : xs with
      | nil => subst hx; exact .inl ⟨_, cap, rfl, fun h => (by cases h), List.eq_nil_of_length_eq_zero hl⟩
      | cons x0 xr =>
        rw [← hx]
        obtain ⟨c, t, f, ho⟩ : ∃ c t f, W.heap[b]? = some (Obj.cells c t f) := by
          have h0 := hat 0 x0 (by rw [hx]; rfl)
          have hl0 := h.1 x0 (by rw [hx]; simp)
          have hc := h0 0 (x0[0]'(by omega)) (List.getElem?_eq_getElem (by omega))
          unfold World.cell? at hc
          split at hc
          · rename_i c t f ho; exact ⟨c, t, f, ho⟩
          · cases hc
        refine .inr ⟨b, o, cap, c, t, f, by rw [hl], ho, ⟨.inl hb, fun B hB => by cases hB; exact hb⟩, by rw [hl]; exact hm, fun i row hi => ?_⟩
        have hlt := (List.getElem?_eq_some_iff.1 hi).1
        have hxi := List.getElem?_eq_getElem (l := xs) (i := i) (by omega)
        refine ⟨xs[i]'(by omega), h.1 _ (List.getElem_mem _), (hr i _ row hxi hi).2, fun j y hy => ?_⟩
        have := hat i _ hxi j y hy
        simpa [World.cell?, ho] using this
theorem pairs_arg {W : World} {v : Value} {ts : List (ByteArray × ByteArray)} (h : RowR 2 W v (pairRows ts)) : RL ⟨W.heap.size, some W.heap.size, fun _ => False⟩ W [pTexts ts] [v] :=
  rows_arg (r := pairR) (rows := rowsT ts) (by decide) h (by simp [pairRows]) (fun i x row hx hr => by
    simp only [pairRows, List.getElem?_map] at hx hr
    cases hi : ts[i]? with
    | none => rw [hi] at hx; cases hx
    | some t =>
      rw [hi] at hx hr
      cases hx
      cases hr
      exact ⟨fit_of rfl, ⟨[.string t.1], [.string t.2], rfl, ⟨rfl, rfl⟩, [.string t.2], [], rfl, ⟨rfl, rfl⟩, rfl⟩⟩)
theorem fits_of {ts : List (ByteArray × ByteArray)} (h : ∀ p ∈ ts, p.1.size ≤ maxLen ∧ p.2.size ≤ maxLen) : Fits ts := fun t ht => ⟨len_le (h t ht).1, len_le (h t ht).2⟩
end Go.Proofs.YtpmnakjllkidiaaGreatDoor

namespace Cin
open Go Go.ChangeShapes Go.WideShapes Go.RowKit Go.Deep
def strRows (ps : List ByteArray) : List (List Value) := ps.map fun p => [.string p]
theorem strRows_len (ps : List ByteArray) : ∀ x ∈ strRows ps, x.length = 1 := fun x hx => by
  obtain ⟨p, _, rfl⟩ := List.mem_map.1 hx
  rfl
section
variable {H : Type} {enc : TypeId × Value → H} {P : Program} {w : World} {base : Nat} {held : Bool}
theorem open_strs {r : Reach} {b0 : Nat} {t s : TypeId} {v : Value} {d : DataW H} {pl : List MemPlace} (ht : P.underlying t = some (.slice s)) (hs : P.underlying s = some .string) (cs : P.cellsOf s = 1)
    (hval : Value.okWide P w r b0 t v) (hd : DataW.Trod enc P w base (fun _ => true) held t v d pl) :
    ∃ ps : List ByteArray, RowR 1 w v (strRows ps) ∧ ∀ p ∈ ps, p.size ≤ maxLen := by
  obtain ⟨a0, ln, cp, rfl⟩ := okWide_slice ht hval
  obtain ⟨fuel, hf⟩ := hd
  simp only [Value.cells] at hf
  rcases open_slice1 ht cs hf with ⟨hc, _⟩ | ⟨a, len, cap, m, k, V, D0, Pl, hc, _, hl, hm, hmm, hx, hall⟩
  · simp only [List.cons.injEq, and_true] at hc
    injection hc with e1 e2 e3
    subst e1 e2 e3
    exact ⟨[], RowR.nil _ _ (fun _ => rfl), fun _ h => by cases h⟩
  · simp only [List.cons.injEq, and_true] at hc
    injection hc with e1 e2 e3
    subst e1 e2 e3
    simp only [if_true] at hmm
    subst hmm
    have hstr : ∀ i, i < m → ∃ q : ByteArray, V i = .string q ∧ q.size ≤ maxLen := fun i hi => by
      obtain ⟨x, g0, _, l0⟩ := DataW.trod_string hs (hall i hi).2
      simp only [List.cons.injEq, and_true] at g0
      exact ⟨x, g0, l0⟩
    obtain ⟨q, hq⟩ := choose_lt hstr
    refine ⟨(List.range ln).map q, ⟨strRows_len _, ?_⟩, fun p hp => ?_⟩
    · cases hln : ln with
      | zero => exact .inl ⟨_, _, rfl, fun h => (by cases h), by simp [strRows]⟩
      | succ l =>
        right
        obtain ⟨b, o, spot⟩ := a
        have hspot : spot = none := by simpa [Addr.add] using World.cell?_spot (hall 0 (by omega)).1
        subst hspot
        have hb : b < w.heap.size := by
          have := (hall 0 (by omega)).1
          simp only [Addr.add_mid, Nat.add_zero, World.cell?] at this
          cases hh : w.heap[b]? with
          | none => simp [hh] at this
          | some ob => exact lt_of_heap hh
        refine ⟨b, o, m, by simp [strRows], hb, by simp [strRows]; omega, fun i x hx j y hy => ?_⟩
        simp only [strRows, List.map_map, List.getElem?_map] at hx
        cases hr : (List.range (l + 1))[i]? with
        | none => rw [hr] at hx; cases hx
        | some i' =>
          rw [hr] at hx
          simp only [Option.map_some, Option.some.injEq, Function.comp] at hx
          have hi := (List.getElem?_eq_some_iff.1 hr)
          obtain ⟨hi1, hi2⟩ := hi
          simp at hi1 hi2
          subst hi2
          subst hx
          have c0 := (hall i (by omega)).1
          rw [(hq i (by omega)).1] at c0
          simp only [Addr.add_mid] at c0
          match j, hy with
          | 0, hy => simp at hy; subst hy; simpa using c0
    · obtain ⟨i, hi, rfl⟩ := List.mem_map.1 hp
      exact (hq i (by have := List.mem_range.1 hi; omega)).2
end
end Cin

namespace Go.Proofs.YtpmnakjllkidiaaGreatDoor
open Go.RowKit Cin
def strR : Rty := ⟨9, 1, [], []⟩
abbrev pStrs (ps : List ByteArray) : Pd := pRows strR (ps.map fun s => [pV (.string s)])
open Classical in
noncomputable def ptsB (ps : List ByteArray) (n : Nat) : List Rat := ((ps.take n).filter fun s => decide (NumQ s)).map ratVal
theorem pts_yes {ps : List ByteArray} {i k : Nat} {s : ByteArray} (h : ps[i]? = some s) (ho : NumQ s) : rowsQ (ptsB ps i) k ++ [[pQ (ratVal s) k]] = rowsQ (ptsB ps (i + 1)) k ∧ rowsE (ptsB ps i) k ++ [[pD (ratVal s) k]] = rowsE (ptsB ps (i + 1)) k := by
  have hlt := (List.getElem?_eq_some_iff.1 h).1
  have e : ptsB ps (i + 1) = ptsB ps i ++ [ratVal s] := by
    unfold ptsB
    rw [← List.take_append_getElem hlt, List.filter_append, List.map_append, (List.getElem?_eq_some_iff.1 h).2]
    simp [ho]
  rw [e]
  exact ⟨by rw [rowsQ, rowsQ, List.map_append]; rfl, by rw [rowsE, rowsE, List.map_append]; rfl⟩
theorem pts_no {ps : List ByteArray} {i : Nat} {s : ByteArray} (h : ps[i]? = some s) (ho : ¬ NumQ s) : ptsB ps i = ptsB ps (i + 1) := by
  have hlt := (List.getElem?_eq_some_iff.1 h).1
  unfold ptsB
  rw [← List.take_append_getElem hlt, List.filter_append, List.map_append, (List.getElem?_eq_some_iff.1 h).2]
  simp [ho]
theorem pts_len (ps : List ByteArray) (n : Nat) : (ptsB ps n).length ≤ n := by
  unfold ptsB
  rw [List.length_map]
  exact Nat.le_trans (List.length_filter_le _ _) (by rw [List.length_take]; omega)
theorem right_side {ss : List (Rat × Rat)} {i : Nat} {s : Rat × Rat} (h : rightB ss = true) (hi : ss[i]? = some s) : s.1 < s.2 := by
  simp only [rightB, Bool.and_eq_true, List.all_eq_true, decide_eq_true_eq] at h
  exact h.2 s (List.mem_of_getElem? hi)
theorem hull_snoc {ss ts : List (Rat × Rat)} {i k : Nat} {s t : Rat × Rat} (h : ss[i]? = some s) (h' : ts[i]? = some t) : rowsD ((hullB ss ts).take i) k ++ [[pD (mn s.1 t.1) k, pD (mx s.2 t.2) k]] = rowsD ((hullB ss ts).take (i + 1)) k := by
  have h2 := hull_at h h'
  have hlt := (List.getElem?_eq_some_iff.1 h2).1
  rw [← List.take_append_getElem hlt, rowsD, rowsD, List.map_append, (List.getElem?_eq_some_iff.1 h2).2]
  rfl
theorem hull4 {s t : Rat × Rat} (k1 : s.1 < s.2) (k2 : t.1 < t.2) : ∀ q ∈ [s.1, s.2, t.1, t.2], mn s.1 t.1 ≤ q ∧ q ≤ mx s.2 t.2 := by
  have a := mn_l s.1 t.1
  have b := mn_r s.1 t.1
  have c := mx_l s.2 t.2
  have d := mx_r s.2 t.2
  intro q hq
  simp only [List.mem_cons, List.not_mem_nil, or_false] at hq
  rcases hq with rfl | rfl | rfl | rfl <;> constructor <;> grind
theorem hull4l (s t : Rat × Rat) : mn s.1 t.1 ∈ [s.1, s.2, t.1, t.2] := by rcases mn_or s.1 t.1 with h | h <;> rw [h] <;> simp
theorem hull4h (s t : Rat × Rat) : mx s.2 t.2 ∈ [s.1, s.2, t.1, t.2] := by rcases mx_or s.2 t.2 with h | h <;> rw [h] <;> simp
theorem boxSets_ct (ta tb : List (ByteArray × ByteArray)) (ps : List ByteArray) (hfa : Fits ta) (hfb : Fits tb) (hps : ∀ s ∈ ps, s.size ≤ 9223372036854775807) : Ct Tryz.prog JP 3 [none, none, none] [[pTexts ta], [pTexts tb], [pStrs ps]] [none] (fun _ => [.ro false (pV (.bool true))]) := by
  have hla := raw_len ta 5
  have hlb := raw_len tb 5
  refine aCt (D := DD) hMix (tr := (.em (.call 6 [] [none]) (.em (.pr (.unOp .not 4 (.tmp 0)) 4 [.s (.c 3 0)]) (.cond (.c 4 0) (.ret (.v (.s (.k (.bool false))))) (.em (.call 7 [.s (.c 0 0)] [none, none]) (.em (.call 7 [.s (.c 1 0)] [none, none]) (.em (.call 8 [.s (.c 5 0), .s (.c 6 0)] [none, none]) (.em (.call 9 [.s (.c 5 1)] [none]) (.cond (.c 8 0) (.em (.call 9 [.s (.c 6 1)] [none]) (.cond (.c 9 0) (.em (.pr (.call (.mk (.builtin .len) #[.tmp 0] #[27])) 3 [.s (.c 5 1)]) (.em (.pr (.call (.mk (.builtin .len) #[.tmp 0] #[27])) 3 [.s (.c 6 1)]) (.em (.pr (.binOp .eql 3 (.tmp 0) (.tmp 1) 3) 4 [.s (.c 10 0), .s (.c 11 0)]) (.em (.pr (.binOp .neq 4 (.tmp 0) (.tmp 1) 4) 4 [.s (.c 7 1), .s (.c 12 0)]) (.cond (.c 13 0) (.ret (.v (.s (.k (.bool false))))) (.em (.call 10 [.s (.c 5 0), .s (.c 6 0)] [none]) (.em (.call 11 [.s (.c 5 1), .s (.c 6 1)] [none]) (.em (.pr (.binOp .neq 4 (.tmp 0) (.tmp 1) 4) 4 [.s (.c 14 0), .s (.c 15 0)]) (.cond (.c 16 0) (.ret (.v (.s (.k (.bool false))))) (.em (.call 12 [.s (.c 5 0), .s (.c 6 0)] [none]) (.em (.call 13 [.s (.c 5 1), .s (.c 6 1)] [none]) (.em (.pr (.binOp .neq 4 (.tmp 0) (.tmp 1) 4) 4 [.s (.c 17 0), .s (.c 18 0)]) (.cond (.c 19 0) (.ret (.v (.s (.k (.bool false))))) (.loop 0 [.k (.slice none 0 0), .k (.slice none 0 0), .k (.int .i64 0)] (.em (.pr (.call (.mk (.builtin .len) #[.tmp 0] #[23])) 3 [.s (.c 2 0)]) (.em (.pr (.binOp .lss 3 (.tmp 0) (.tmp 1) 3) 4 [.s (.c 20 2), .s (.c 21 0)]) (.cond (.c 22 0) (.em (.pr (.binOp .lss 3 (.tmp 0) (.const (.int .i64 5)) 3) 4 [.s (.c 20 2), .s (.k (.int .i64 5))]) (.cond (.c 23 0) (.em (.pr (.indexAddr 23 (.tmp 0) (.tmp 1)) 0 [.s (.c 2 0), .s (.c 20 2)]) (.em (.ld (.load 9 (.tmp 0)) 9 [.s (.c 24 0)] none) (.em (.call 14 [.s (.c 25 0)] [some 4, some 3, none]) (.cond (.c 26 7) (.both (.em (.wx (.buildSlice 35 1 #[(0, .tmp 0)]) 35 [.g [.c 26 0, .c 26 1, .c 26 2, .c 26 3]] (some none)) (.both (.em (.wx (.call (.mk (.builtin .append) #[.tmp 0, .tmp 1] #[35, 35])) 35 [.s (.c 20 0), .s (.c 27 0)] (some none)) (.em (.wx (.buildSlice 36 1 #[(0, .tmp 0)]) 36 [.g [.c 26 4, .c 26 5, .c 26 6]] (some none)) (.em (.wx (.call (.mk (.builtin .append) #[.tmp 0, .tmp 1] #[36, 36])) 36 [.s (.c 20 1), .s (.c 29 0)] (some none)) (.em (.pr (.binOp .add 3 (.tmp 0) (.const (.int .i64 1)) 3) 3 [.s (.c 20 2), .s (.k (.int .i64 1))]) (.back 0 [.c 28 0, .c 30 0, .c 31 0]))))) (.em (.wx (.buildSlice 36 1 #[(0, .tmp 0)]) 36 [.g [.c 26 4, .c 26 5, .c 26 6]] (some none)) (.em (.wx (.call (.mk (.builtin .append) #[.tmp 0, .tmp 1] #[35, 35])) 35 [.s (.c 20 0), .s (.c 27 0)] (some none)) (.em (.wx (.call (.mk (.builtin .append) #[.tmp 0, .tmp 1] #[36, 36])) 36 [.s (.c 20 1), .s (.c 28 0)] (some none)) (.em (.pr (.binOp .add 3 (.tmp 0) (.const (.int .i64 1)) 3) 3 [.s (.c 20 2), .s (.k (.int .i64 1))]) (.back 0 [.c 29 0, .c 30 0, .c 31 0]))))))) (.em (.wx (.buildSlice 36 1 #[(0, .tmp 0)]) 36 [.g [.c 26 4, .c 26 5, .c 26 6]] (some none)) (.em (.wx (.buildSlice 35 1 #[(0, .tmp 0)]) 35 [.g [.c 26 0, .c 26 1, .c 26 2, .c 26 3]] (some none)) (.em (.wx (.call (.mk (.builtin .append) #[.tmp 0, .tmp 1] #[35, 35])) 35 [.s (.c 20 0), .s (.c 28 0)] (some none)) (.em (.wx (.call (.mk (.builtin .append) #[.tmp 0, .tmp 1] #[36, 36])) 36 [.s (.c 20 1), .s (.c 27 0)] (some none)) (.em (.pr (.binOp .add 3 (.tmp 0) (.const (.int .i64 1)) 3) 3 [.s (.c 20 2), .s (.k (.int .i64 1))]) (.back 0 [.c 29 0, .c 30 0, .c 31 0]))))))) (.em (.pr (.binOp .add 3 (.tmp 0) (.const (.int .i64 1)) 3) 3 [.s (.c 20 2), .s (.k (.int .i64 1))]) (.back 0 [.c 20 0, .c 20 1, .c 27 0])))))) (.em (.call 15 [.s (.c 5 0), .s (.c 20 0)] [none]) (.em (.call 16 [.s (.c 5 1), .s (.c 20 1)] [none]) (.em (.pr (.binOp .neq 4 (.tmp 0) (.tmp 1) 4) 4 [.s (.c 24 0), .s (.c 25 0)]) (.cond (.c 26 0) (.ret (.v (.s (.k (.bool false))))) (.em (.pr (.unOp .not 4 (.tmp 0)) 4 [.s (.c 12 0)]) (.cond (.c 27 0) (.em (.pr (.call (.mk (.builtin .len) #[.tmp 0] #[26])) 3 [.s (.c 7 0)]) (.em (.pr (.binOp .eql 3 (.tmp 0) (.const (.int .i64 0)) 3) 4 [.s (.c 28 0), .s (.k (.int .i64 0))]) (.ret (.v (.s (.c 29 0)))))) (.loop 0 [.k (.slice none 0 0), .k (.int .i64 0)] (.em (.pr (.call (.mk (.builtin .len) #[.tmp 0] #[27])) 3 [.s (.c 5 1)]) (.em (.pr (.binOp .lss 3 (.tmp 0) (.tmp 1) 3) 4 [.s (.c 28 1), .s (.c 29 0)]) (.cond (.c 30 0) (.em (.pr (.indexAddr 27 (.tmp 0) (.tmp 1)) 0 [.s (.c 5 1), .s (.c 28 1)]) (.em (.pr (.fieldAddr 54 (.tmp 0) 0) 0 [.s (.c 31 0)]) (.em (.pr (.indexAddr 27 (.tmp 0) (.tmp 1)) 0 [.s (.c 5 1), .s (.c 28 1)]) (.em (.pr (.fieldAddr 54 (.tmp 0) 1) 0 [.s (.c 33 0)]) (.em (.pr (.indexAddr 27 (.tmp 0) (.tmp 1)) 0 [.s (.c 6 1), .s (.c 28 1)]) (.em (.pr (.fieldAddr 54 (.tmp 0) 0) 0 [.s (.c 35 0)]) (.em (.pr (.indexAddr 27 (.tmp 0) (.tmp 1)) 0 [.s (.c 6 1), .s (.c 28 1)]) (.em (.pr (.fieldAddr 54 (.tmp 0) 1) 0 [.s (.c 37 0)]) (.em (.ld (.load 48 (.tmp 0)) 48 [.s (.c 32 0)] (some 3)) (.em (.ld (.load 48 (.tmp 0)) 48 [.s (.c 34 0)] (some 3)) (.em (.ld (.load 48 (.tmp 0)) 48 [.s (.c 36 0)] (some 3)) (.em (.ld (.load 48 (.tmp 0)) 48 [.s (.c 38 0)] (some 3)) (.em (.wx (.buildSlice 36 4 #[(0, .tmp 0), (1, .tmp 1), (2, .tmp 2), (3, .tmp 3)]) 36 [.g [.c 39 0, .c 39 1, .c 39 2], .g [.c 40 0, .c 40 1, .c 40 2], .g [.c 41 0, .c 41 1, .c 41 2], .g [.c 42 0, .c 42 1, .c 42 2]] (some none)) (.em (.call 17 [.s (.c 43 0)] [some 6]) (.em (.wx (.buildSlice 27 1 #[(0, .tmp 0)]) 27 [.g [.c 44 0, .c 44 1, .c 44 2, .c 44 3, .c 44 4, .c 44 5]] (some none)) (.em (.wx (.call (.mk (.builtin .append) #[.tmp 0, .tmp 1] #[27, 27])) 27 [.s (.c 28 0), .s (.c 45 0)] (some none)) (.em (.pr (.binOp .add 3 (.tmp 0) (.const (.int .i64 1)) 3) 3 [.s (.c 28 1), .s (.k (.int .i64 1))]) (.back 0 [.c 46 0, .c 47 0])))))))))))))))))) (.em (.call 18 [.s (.c 7 0), .s (.c 28 0)] [none]) (.ret (.v (.s (.c 31 0))))))))))))))))) (.em (.call 15 [.s (.c 5 0), .s (.c 20 0)] [none]) (.em (.call 16 [.s (.c 5 1), .s (.c 20 1)] [none]) (.em (.pr (.binOp .neq 4 (.tmp 0) (.tmp 1) 4) 4 [.s (.c 23 0), .s (.c 24 0)]) (.cond (.c 25 0) (.ret (.v (.s (.k (.bool false))))) (.em (.pr (.unOp .not 4 (.tmp 0)) 4 [.s (.c 12 0)]) (.cond (.c 26 0) (.em (.pr (.call (.mk (.builtin .len) #[.tmp 0] #[26])) 3 [.s (.c 7 0)]) (.em (.pr (.binOp .eql 3 (.tmp 0) (.const (.int .i64 0)) 3) 4 [.s (.c 27 0), .s (.k (.int .i64 0))]) (.ret (.v (.s (.c 28 0)))))) (.loop 0 [.k (.slice none 0 0), .k (.int .i64 0)] (.em (.pr (.call (.mk (.builtin .len) #[.tmp 0] #[27])) 3 [.s (.c 5 1)]) (.em (.pr (.binOp .lss 3 (.tmp 0) (.tmp 1) 3) 4 [.s (.c 27 1), .s (.c 28 0)]) (.cond (.c 29 0) (.em (.pr (.indexAddr 27 (.tmp 0) (.tmp 1)) 0 [.s (.c 5 1), .s (.c 27 1)]) (.em (.pr (.fieldAddr 54 (.tmp 0) 0) 0 [.s (.c 30 0)]) (.em (.pr (.indexAddr 27 (.tmp 0) (.tmp 1)) 0 [.s (.c 5 1), .s (.c 27 1)]) (.em (.pr (.fieldAddr 54 (.tmp 0) 1) 0 [.s (.c 32 0)]) (.em (.pr (.indexAddr 27 (.tmp 0) (.tmp 1)) 0 [.s (.c 6 1), .s (.c 27 1)]) (.em (.pr (.fieldAddr 54 (.tmp 0) 0) 0 [.s (.c 34 0)]) (.em (.pr (.indexAddr 27 (.tmp 0) (.tmp 1)) 0 [.s (.c 6 1), .s (.c 27 1)]) (.em (.pr (.fieldAddr 54 (.tmp 0) 1) 0 [.s (.c 36 0)]) (.em (.ld (.load 48 (.tmp 0)) 48 [.s (.c 31 0)] (some 3)) (.em (.ld (.load 48 (.tmp 0)) 48 [.s (.c 33 0)] (some 3)) (.em (.ld (.load 48 (.tmp 0)) 48 [.s (.c 35 0)] (some 3)) (.em (.ld (.load 48 (.tmp 0)) 48 [.s (.c 37 0)] (some 3)) (.em (.wx (.buildSlice 36 4 #[(0, .tmp 0), (1, .tmp 1), (2, .tmp 2), (3, .tmp 3)]) 36 [.g [.c 38 0, .c 38 1, .c 38 2], .g [.c 39 0, .c 39 1, .c 39 2], .g [.c 40 0, .c 40 1, .c 40 2], .g [.c 41 0, .c 41 1, .c 41 2]] (some none)) (.em (.call 17 [.s (.c 42 0)] [some 6]) (.em (.wx (.buildSlice 27 1 #[(0, .tmp 0)]) 27 [.g [.c 43 0, .c 43 1, .c 43 2, .c 43 3, .c 43 4, .c 43 5]] (some none)) (.em (.wx (.call (.mk (.builtin .append) #[.tmp 0, .tmp 1] #[27, 27])) 27 [.s (.c 27 0), .s (.c 44 0)] (some none)) (.em (.pr (.binOp .add 3 (.tmp 0) (.const (.int .i64 1)) 3) 3 [.s (.c 27 1), .s (.k (.int .i64 1))]) (.back 0 [.c 45 0, .c 46 0])))))))))))))))))) (.em (.call 18 [.s (.c 7 0), .s (.c 27 0)] [none]) (.ret (.v (.s (.c 30 0)))))))))))))))))))))))))))))))) (.em (.pr (.binOp .neq 4 (.tmp 0) (.tmp 1) 4) 4 [.s (.c 7 1), .s (.k (.bool false))]) (.cond (.c 10 0) (.ret (.v (.s (.k (.bool false))))) (.em (.call 10 [.s (.c 5 0), .s (.c 6 0)] [none]) (.em (.call 11 [.s (.c 5 1), .s (.c 6 1)] [none]) (.em (.pr (.binOp .neq 4 (.tmp 0) (.tmp 1) 4) 4 [.s (.c 11 0), .s (.c 12 0)]) (.cond (.c 13 0) (.ret (.v (.s (.k (.bool false))))) (.em (.call 12 [.s (.c 5 0), .s (.c 6 0)] [none]) (.em (.call 13 [.s (.c 5 1), .s (.c 6 1)] [none]) (.em (.pr (.binOp .neq 4 (.tmp 0) (.tmp 1) 4) 4 [.s (.c 14 0), .s (.c 15 0)]) (.cond (.c 16 0) (.ret (.v (.s (.k (.bool false))))) (.loop 0 [.k (.slice none 0 0), .k (.slice none 0 0), .k (.int .i64 0)] (.em (.pr (.call (.mk (.builtin .len) #[.tmp 0] #[23])) 3 [.s (.c 2 0)]) (.em (.pr (.binOp .lss 3 (.tmp 0) (.tmp 1) 3) 4 [.s (.c 17 2), .s (.c 18 0)]) (.cond (.c 19 0) (.em (.pr (.binOp .lss 3 (.tmp 0) (.const (.int .i64 5)) 3) 4 [.s (.c 17 2), .s (.k (.int .i64 5))]) (.cond (.c 20 0) (.em (.pr (.indexAddr 23 (.tmp 0) (.tmp 1)) 0 [.s (.c 2 0), .s (.c 17 2)]) (.em (.ld (.load 9 (.tmp 0)) 9 [.s (.c 21 0)] none) (.em (.call 14 [.s (.c 22 0)] [some 4, some 3, none]) (.cond (.c 23 7) (.both (.em (.wx (.buildSlice 35 1 #[(0, .tmp 0)]) 35 [.g [.c 23 0, .c 23 1, .c 23 2, .c 23 3]] (some none)) (.both (.em (.wx (.call (.mk (.builtin .append) #[.tmp 0, .tmp 1] #[35, 35])) 35 [.s (.c 17 0), .s (.c 24 0)] (some none)) (.em (.wx (.buildSlice 36 1 #[(0, .tmp 0)]) 36 [.g [.c 23 4, .c 23 5, .c 23 6]] (some none)) (.em (.wx (.call (.mk (.builtin .append) #[.tmp 0, .tmp 1] #[36, 36])) 36 [.s (.c 17 1), .s (.c 26 0)] (some none)) (.em (.pr (.binOp .add 3 (.tmp 0) (.const (.int .i64 1)) 3) 3 [.s (.c 17 2), .s (.k (.int .i64 1))]) (.back 0 [.c 25 0, .c 27 0, .c 28 0]))))) (.em (.wx (.buildSlice 36 1 #[(0, .tmp 0)]) 36 [.g [.c 23 4, .c 23 5, .c 23 6]] (some none)) (.em (.wx (.call (.mk (.builtin .append) #[.tmp 0, .tmp 1] #[35, 35])) 35 [.s (.c 17 0), .s (.c 24 0)] (some none)) (.em (.wx (.call (.mk (.builtin .append) #[.tmp 0, .tmp 1] #[36, 36])) 36 [.s (.c 17 1), .s (.c 25 0)] (some none)) (.em (.pr (.binOp .add 3 (.tmp 0) (.const (.int .i64 1)) 3) 3 [.s (.c 17 2), .s (.k (.int .i64 1))]) (.back 0 [.c 26 0, .c 27 0, .c 28 0]))))))) (.em (.wx (.buildSlice 36 1 #[(0, .tmp 0)]) 36 [.g [.c 23 4, .c 23 5, .c 23 6]] (some none)) (.em (.wx (.buildSlice 35 1 #[(0, .tmp 0)]) 35 [.g [.c 23 0, .c 23 1, .c 23 2, .c 23 3]] (some none)) (.em (.wx (.call (.mk (.builtin .append) #[.tmp 0, .tmp 1] #[35, 35])) 35 [.s (.c 17 0), .s (.c 25 0)] (some none)) (.em (.wx (.call (.mk (.builtin .append) #[.tmp 0, .tmp 1] #[36, 36])) 36 [.s (.c 17 1), .s (.c 24 0)] (some none)) (.em (.pr (.binOp .add 3 (.tmp 0) (.const (.int .i64 1)) 3) 3 [.s (.c 17 2), .s (.k (.int .i64 1))]) (.back 0 [.c 26 0, .c 27 0, .c 28 0]))))))) (.em (.pr (.binOp .add 3 (.tmp 0) (.const (.int .i64 1)) 3) 3 [.s (.c 17 2), .s (.k (.int .i64 1))]) (.back 0 [.c 17 0, .c 17 1, .c 24 0])))))) (.em (.call 15 [.s (.c 5 0), .s (.c 17 0)] [none]) (.em (.call 16 [.s (.c 5 1), .s (.c 17 1)] [none]) (.em (.pr (.binOp .neq 4 (.tmp 0) (.tmp 1) 4) 4 [.s (.c 21 0), .s (.c 22 0)]) (.cond (.c 23 0) (.ret (.v (.s (.k (.bool false))))) (.em (.pr (.call (.mk (.builtin .len) #[.tmp 0] #[26])) 3 [.s (.c 7 0)]) (.em (.pr (.binOp .eql 3 (.tmp 0) (.const (.int .i64 0)) 3) 4 [.s (.c 24 0), .s (.k (.int .i64 0))]) (.ret (.v (.s (.c 25 0)))))))))))) (.em (.call 15 [.s (.c 5 0), .s (.c 17 0)] [none]) (.em (.call 16 [.s (.c 5 1), .s (.c 17 1)] [none]) (.em (.pr (.binOp .neq 4 (.tmp 0) (.tmp 1) 4) 4 [.s (.c 20 0), .s (.c 21 0)]) (.cond (.c 22 0) (.ret (.v (.s (.k (.bool false))))) (.em (.pr (.call (.mk (.builtin .len) #[.tmp 0] #[26])) 3 [.s (.c 7 0)]) (.em (.pr (.binOp .eql 3 (.tmp 0) (.const (.int .i64 0)) 3) 4 [.s (.c 23 0), .s (.k (.int .i64 0))]) (.ret (.v (.s (.c 24 0)))))))))))))))))))))))))) (.em (.pr (.binOp .neq 4 (.tmp 0) (.tmp 1) 4) 4 [.s (.c 7 1), .s (.k (.bool false))]) (.cond (.c 9 0) (.ret (.v (.s (.k (.bool false))))) (.em (.call 10 [.s (.c 5 0), .s (.c 6 0)] [none]) (.em (.call 11 [.s (.c 5 1), .s (.c 6 1)] [none]) (.em (.pr (.binOp .neq 4 (.tmp 0) (.tmp 1) 4) 4 [.s (.c 10 0), .s (.c 11 0)]) (.cond (.c 12 0) (.ret (.v (.s (.k (.bool false))))) (.em (.call 12 [.s (.c 5 0), .s (.c 6 0)] [none]) (.em (.call 13 [.s (.c 5 1), .s (.c 6 1)] [none]) (.em (.pr (.binOp .neq 4 (.tmp 0) (.tmp 1) 4) 4 [.s (.c 13 0), .s (.c 14 0)]) (.cond (.c 15 0) (.ret (.v (.s (.k (.bool false))))) (.loop 0 [.k (.slice none 0 0), .k (.slice none 0 0), .k (.int .i64 0)] (.em (.pr (.call (.mk (.builtin .len) #[.tmp 0] #[23])) 3 [.s (.c 2 0)]) (.em (.pr (.binOp .lss 3 (.tmp 0) (.tmp 1) 3) 4 [.s (.c 16 2), .s (.c 17 0)]) (.cond (.c 18 0) (.em (.pr (.binOp .lss 3 (.tmp 0) (.const (.int .i64 5)) 3) 4 [.s (.c 16 2), .s (.k (.int .i64 5))]) (.cond (.c 19 0) (.em (.pr (.indexAddr 23 (.tmp 0) (.tmp 1)) 0 [.s (.c 2 0), .s (.c 16 2)]) (.em (.ld (.load 9 (.tmp 0)) 9 [.s (.c 20 0)] none) (.em (.call 14 [.s (.c 21 0)] [some 4, some 3, none]) (.cond (.c 22 7) (.both (.em (.wx (.buildSlice 35 1 #[(0, .tmp 0)]) 35 [.g [.c 22 0, .c 22 1, .c 22 2, .c 22 3]] (some none)) (.both (.em (.wx (.call (.mk (.builtin .append) #[.tmp 0, .tmp 1] #[35, 35])) 35 [.s (.c 16 0), .s (.c 23 0)] (some none)) (.em (.wx (.buildSlice 36 1 #[(0, .tmp 0)]) 36 [.g [.c 22 4, .c 22 5, .c 22 6]] (some none)) (.em (.wx (.call (.mk (.builtin .append) #[.tmp 0, .tmp 1] #[36, 36])) 36 [.s (.c 16 1), .s (.c 25 0)] (some none)) (.em (.pr (.binOp .add 3 (.tmp 0) (.const (.int .i64 1)) 3) 3 [.s (.c 16 2), .s (.k (.int .i64 1))]) (.back 0 [.c 24 0, .c 26 0, .c 27 0]))))) (.em (.wx (.buildSlice 36 1 #[(0, .tmp 0)]) 36 [.g [.c 22 4, .c 22 5, .c 22 6]] (some none)) (.em (.wx (.call (.mk (.builtin .append) #[.tmp 0, .tmp 1] #[35, 35])) 35 [.s (.c 16 0), .s (.c 23 0)] (some none)) (.em (.wx (.call (.mk (.builtin .append) #[.tmp 0, .tmp 1] #[36, 36])) 36 [.s (.c 16 1), .s (.c 24 0)] (some none)) (.em (.pr (.binOp .add 3 (.tmp 0) (.const (.int .i64 1)) 3) 3 [.s (.c 16 2), .s (.k (.int .i64 1))]) (.back 0 [.c 25 0, .c 26 0, .c 27 0]))))))) (.em (.wx (.buildSlice 36 1 #[(0, .tmp 0)]) 36 [.g [.c 22 4, .c 22 5, .c 22 6]] (some none)) (.em (.wx (.buildSlice 35 1 #[(0, .tmp 0)]) 35 [.g [.c 22 0, .c 22 1, .c 22 2, .c 22 3]] (some none)) (.em (.wx (.call (.mk (.builtin .append) #[.tmp 0, .tmp 1] #[35, 35])) 35 [.s (.c 16 0), .s (.c 24 0)] (some none)) (.em (.wx (.call (.mk (.builtin .append) #[.tmp 0, .tmp 1] #[36, 36])) 36 [.s (.c 16 1), .s (.c 23 0)] (some none)) (.em (.pr (.binOp .add 3 (.tmp 0) (.const (.int .i64 1)) 3) 3 [.s (.c 16 2), .s (.k (.int .i64 1))]) (.back 0 [.c 25 0, .c 26 0, .c 27 0]))))))) (.em (.pr (.binOp .add 3 (.tmp 0) (.const (.int .i64 1)) 3) 3 [.s (.c 16 2), .s (.k (.int .i64 1))]) (.back 0 [.c 16 0, .c 16 1, .c 23 0])))))) (.em (.call 15 [.s (.c 5 0), .s (.c 16 0)] [none]) (.em (.call 16 [.s (.c 5 1), .s (.c 16 1)] [none]) (.em (.pr (.binOp .neq 4 (.tmp 0) (.tmp 1) 4) 4 [.s (.c 20 0), .s (.c 21 0)]) (.cond (.c 22 0) (.ret (.v (.s (.k (.bool false))))) (.em (.pr (.call (.mk (.builtin .len) #[.tmp 0] #[26])) 3 [.s (.c 7 0)]) (.em (.pr (.binOp .eql 3 (.tmp 0) (.const (.int .i64 0)) 3) 4 [.s (.c 23 0), .s (.k (.int .i64 0))]) (.ret (.v (.s (.c 24 0)))))))))))) (.em (.call 15 [.s (.c 5 0), .s (.c 16 0)] [none]) (.em (.call 16 [.s (.c 5 1), .s (.c 16 1)] [none]) (.em (.pr (.binOp .neq 4 (.tmp 0) (.tmp 1) 4) 4 [.s (.c 19 0), .s (.c 20 0)]) (.cond (.c 21 0) (.ret (.v (.s (.k (.bool false))))) (.em (.pr (.call (.mk (.builtin .len) #[.tmp 0] #[26])) 3 [.s (.c 7 0)]) (.em (.pr (.binOp .eql 3 (.tmp 0) (.const (.int .i64 0)) 3) 4 [.s (.c 22 0), .s (.k (.int .i64 0))]) (.ret (.v (.s (.c 23 0))))))))))))))))))))))))))))))))) (by kernel_rfl) (by kernel_rfl) (by kernel_rfl) rfl (fun w0 => ?_)
  refine aCall rfl alive6_ct (fun γ => ?_)
  refine aPr rfl (prNot rfl) rfl ?_
  refine aFalse rfl ?_
  refine aCall rfl (raw_ct ta hfa) (fun γ5 => ?_)
  refine aCall rfl (raw_ct tb hfb) (fun γ6 => ?_)
  generalize rawB ta 5 = ss at hla ⊢
  generalize rawB tb 5 = ts at hlb ⊢
  by_cases hL : likeB ss ts = true
  · have hL2 := hL
    simp only [likeB, Bool.and_eq_true, decide_eq_true_eq] at hL2
    obtain ⟨⟨hl, hr⟩, hr'⟩ := hL2
    refine aCall rfl (hull_ct ss ts 21 hL) (fun γ7 => ?_)
    refine aCall rfl (dright_ct ss 21) (fun γ => ?_)
    rw [hr]
    refine aTrue rfl ?_
    refine aCall rfl (dright_ct ts 21) (fun γ => ?_)
    rw [hr']
    refine aTrue rfl ?_
    refine aLen rfl (List.length_map _) ?_
    refine aLen rfl (List.length_map _) ?_
    refine aPrE rfl (prEq rfl rfl) (v' := .bool true) (by simp [hl]) rfl ?_
    refine aPr rfl (prBNe (by kernel_rfl) rfl rfl) rfl ?_
    refine aFalse rfl ?_
    refine aCall rfl (bwithin_ct ss ts 21) (fun γ => ?_)
    refine aCall rfl (dbwithin_ct ss ts 21) (fun γ => ?_)
    refine aPrE rfl (prBNe (by kernel_rfl) rfl rfl) (v' := .bool false) (by simp) rfl ?_
    refine aFalse rfl ?_
    refine aCall rfl (bmeets_ct ss ts 21) (fun γ => ?_)
    refine aCall rfl (dbmeets_ct ss ts 21) (fun γ => ?_)
    refine aPrE rfl (prBNe (by kernel_rfl) rfl rfl) (v' := .bool false) (by simp) rfl ?_
    refine aFalse rfl ?_
    refine aLoopC [] (fun s : Nat × Nat × Nat => [.own s.2.1 ratR (rowsQ (ptsB ps s.1) 21), .own s.2.2 dratR (rowsE (ptsB ps s.1) 21), .ro true (pV (.int .i64 s.1))]) (fun s => s.1 ≤ 5 ∧ s.1 ≤ ps.length) (fun s => ps.length - s.1) (0, 0, 0) ⟨by decide, Nat.zero_le _⟩ (fun s ⟨hi5, hi⟩ => ?_)
    obtain ⟨i, g, g'⟩ := s
    simp only at hi5 hi ⊢
    have hpl := pts_len ps i
    refine aLen rfl (List.length_map _) ?_
    refine aPr rfl (prLt rfl rfl) rfl ?_
    refine aIf rfl (fun h1 => ?_) (fun h1 => ?_)
    · have hlt : i < ps.length := by simpa using h1
      refine aPr rfl (prLt rfl rfl) rfl ?_
      refine aIf rfl (fun h2 => ?_) (fun h2 => ?_)
      · have hlt5 : i < 5 := by have : (i : Int) < 5 := (by simpa using h2); omega
        obtain ⟨s, he⟩ := at_some hlt
        have hm := List.mem_of_getElem? he
        refine aIdx rfl rfl (fun _ => rfl) (by omega) (map_at (f := fun s : ByteArray => [pV (.string s)]) he) ?_
        refine aLd rfl rfl rfl ?_
        by_cases ho : NumQ s
        · obtain ⟨e1, e2⟩ := pts_yes (k := 21) he ho
          refine aCall rfl (num_ct s (hps s hm) ho) (fun γ => ?_)
          refine aTrue rfl ?_
          refine aTwo ?_ ?_
          · skip
            refine aBuild ratR rfl (fun g1 => ?_)
            refine aTwo ?_ ?_
            · skip
              refine aAppend [] rfl rfl (zs := [.bool false, .slice none 0 0, .bool false, .slice none 0 0]) (by simp; omega) (fun ga => ?_)
              rw [e1]
              refine aBuild dratR rfl (fun g2 => ?_)
              refine aAppend [] rfl rfl (zs := [.bool false, .slice none 0 0, .slice none 0 0]) (by simp; omega) (fun gb => ?_)
              rw [e2]
              refine aPr rfl (prAddI rfl rfl (by omega) (by omega)) rfl ?_
              exact aBack rfl rfl ⟨(i + 1, ga, gb), rfl, rfl, ⟨hlt5, hlt⟩, by show ps.length - (i + 1) < ps.length - i; omega⟩
            · skip
              refine aBuild dratR rfl (fun g2 => ?_)
              refine aAppend [] rfl rfl (zs := [.bool false, .slice none 0 0, .bool false, .slice none 0 0]) (by simp; omega) (fun ga => ?_)
              rw [e1]
              refine aAppend [] rfl rfl (zs := [.bool false, .slice none 0 0, .slice none 0 0]) (by simp; omega) (fun gb => ?_)
              rw [e2]
              refine aPr rfl (prAddI rfl rfl (by omega) (by omega)) rfl ?_
              exact aBack rfl rfl ⟨(i + 1, ga, gb), rfl, rfl, ⟨hlt5, hlt⟩, by show ps.length - (i + 1) < ps.length - i; omega⟩
          · skip
            refine aBuild dratR rfl (fun g1 => ?_)
            refine aBuild ratR rfl (fun g2 => ?_)
            refine aAppend [] rfl rfl (zs := [.bool false, .slice none 0 0, .bool false, .slice none 0 0]) (by simp; omega) (fun ga => ?_)
            rw [e1]
            refine aAppend [] rfl rfl (zs := [.bool false, .slice none 0 0, .slice none 0 0]) (by simp; omega) (fun gb => ?_)
            rw [e2]
            refine aPr rfl (prAddI rfl rfl (by omega) (by omega)) rfl ?_
            exact aBack rfl rfl ⟨(i + 1, ga, gb), rfl, rfl, ⟨hlt5, hlt⟩, by show ps.length - (i + 1) < ps.length - i; omega⟩
        · rw [pts_no he ho]
          refine aCall rfl (numN_ct s (hps s hm) ho) (fun γ => ?_)
          refine aFalse rfl ?_
          refine aPr rfl (prAddI rfl rfl (by omega) (by omega)) rfl ?_
          exact aBack rfl rfl ⟨(i + 1, g, g'), rfl, rfl, ⟨hlt5, hlt⟩, by show ps.length - (i + 1) < ps.length - i; omega⟩
      · skip
        refine aCall rfl (bhas_ct ss (ptsB ps i) 21 21) (fun γ => ?_)
        refine aCall rfl (dbhas_ct ss (ptsB ps i) 21 21) (fun γ => ?_)
        refine aPrE rfl (prBNe (by kernel_rfl) rfl rfl) (v' := .bool false) (by simp) rfl ?_
        refine aFalse rfl ?_
        refine aPr rfl (prNot rfl) rfl ?_
        refine aFalse rfl ?_
        refine aLoopC [] (fun s : Nat × Nat => [.own s.2 dspanR (rowsD ((hullB ss ts).take s.1) 21), .ro true (pV (.int .i64 s.1))]) (fun s => s.1 ≤ ss.length) (fun s => ss.length - s.1) (0, 0) (Nat.zero_le _) (fun s hj => ?_)
        obtain ⟨j, g⟩ := s
        simp only at hj ⊢
        refine aLen rfl (List.length_map _) ?_
        refine aPr rfl (prLt rfl rfl) rfl ?_
        refine aIf rfl (fun h1 => ?_) (fun h1 => ?_)
        · have hlt : j < ss.length := by simpa using h1
          obtain ⟨s, he⟩ := at_some hlt
          obtain ⟨t, hx⟩ := at_some (show j < ts.length by omega)
          have k1 := right_side hr he
          have k2 := right_side hr' hx
          refine aIdxB rfl rfl (fun _ => rfl) (by omega) (rowD_at he) ?_
          refine aField (off := 0) rfl (by kernel_rfl) rfl ?_
          refine aIdxB rfl rfl (fun _ => rfl) (by omega) (rowD_at he) ?_
          refine aField (off := 3) rfl (by kernel_rfl) rfl ?_
          refine aIdxB rfl rfl (fun _ => rfl) (by omega) (rowD_at hx) ?_
          refine aField (off := 0) rfl (by kernel_rfl) rfl ?_
          refine aIdxB rfl rfl (fun _ => rfl) (by omega) (rowD_at hx) ?_
          refine aField (off := 3) rfl (by kernel_rfl) rfl ?_
          refine aLd rfl rfl rfl ?_
          refine aLd rfl rfl rfl ?_
          refine aLd rfl rfl rfl ?_
          refine aLd rfl rfl rfl ?_
          refine aBuild dratR rfl (fun g1 => ?_)
          refine aCall rfl (least_ct [s.1, s.2, t.1, t.2] 21 (mn s.1 t.1) (mx s.2 t.2) (by simp) (hull4 k1 k2) (hull4l s t) (hull4h s t)) (fun γ => ?_)
          refine aBuild dspanR rfl (fun g2 => ?_)
          refine aAppend [(31, 0), (32, 0), (33, 0), (34, 0), (35, 0), (36, 0), (37, 0), (38, 0)] rfl rfl (zs := ZeroT) (by simp; omega) (fun g3 => ?_)
          rw [hull_snoc he hx]
          refine aPr rfl (prAddI rfl rfl (by omega) (by omega)) rfl ?_
          exact aBack rfl rfl ⟨(j + 1, g3), rfl, rfl, hlt, by show ss.length - (j + 1) < ss.length - j; omega⟩
        · have hj2 : j = ss.length := by have : ¬ j < ss.length := (by simpa using h1); omega
          subst hj2
          have hll : (hullB ss ts).length = ss.length := by simp [hullB]; omega
          rw [List.take_of_length_le (Nat.le_of_eq hll)]
          refine aCall rfl (is6_ct (hullB ss ts) 21 21 (by omega)) (fun γ => ?_)
          exact aRet (fun _ => 0) rfl rfl rfl
    · skip
      refine aCall rfl (bhas_ct ss (ptsB ps i) 21 21) (fun γ => ?_)
      refine aCall rfl (dbhas_ct ss (ptsB ps i) 21 21) (fun γ => ?_)
      refine aPrE rfl (prBNe (by kernel_rfl) rfl rfl) (v' := .bool false) (by simp) rfl ?_
      refine aFalse rfl ?_
      refine aPr rfl (prNot rfl) rfl ?_
      refine aFalse rfl ?_
      refine aLoopC [] (fun s : Nat × Nat => [.own s.2 dspanR (rowsD ((hullB ss ts).take s.1) 21), .ro true (pV (.int .i64 s.1))]) (fun s => s.1 ≤ ss.length) (fun s => ss.length - s.1) (0, 0) (Nat.zero_le _) (fun s hj => ?_)
      obtain ⟨j, g⟩ := s
      simp only at hj ⊢
      refine aLen rfl (List.length_map _) ?_
      refine aPr rfl (prLt rfl rfl) rfl ?_
      refine aIf rfl (fun h1 => ?_) (fun h1 => ?_)
      · have hlt : j < ss.length := by simpa using h1
        obtain ⟨s, he⟩ := at_some hlt
        obtain ⟨t, hx⟩ := at_some (show j < ts.length by omega)
        have k1 := right_side hr he
        have k2 := right_side hr' hx
        refine aIdxB rfl rfl (fun _ => rfl) (by omega) (rowD_at he) ?_
        refine aField (off := 0) rfl (by kernel_rfl) rfl ?_
        refine aIdxB rfl rfl (fun _ => rfl) (by omega) (rowD_at he) ?_
        refine aField (off := 3) rfl (by kernel_rfl) rfl ?_
        refine aIdxB rfl rfl (fun _ => rfl) (by omega) (rowD_at hx) ?_
        refine aField (off := 0) rfl (by kernel_rfl) rfl ?_
        refine aIdxB rfl rfl (fun _ => rfl) (by omega) (rowD_at hx) ?_
        refine aField (off := 3) rfl (by kernel_rfl) rfl ?_
        refine aLd rfl rfl rfl ?_
        refine aLd rfl rfl rfl ?_
        refine aLd rfl rfl rfl ?_
        refine aLd rfl rfl rfl ?_
        refine aBuild dratR rfl (fun g1 => ?_)
        refine aCall rfl (least_ct [s.1, s.2, t.1, t.2] 21 (mn s.1 t.1) (mx s.2 t.2) (by simp) (hull4 k1 k2) (hull4l s t) (hull4h s t)) (fun γ => ?_)
        refine aBuild dspanR rfl (fun g2 => ?_)
        refine aAppend [(30, 0), (31, 0), (32, 0), (33, 0), (34, 0), (35, 0), (36, 0), (37, 0)] rfl rfl (zs := ZeroT) (by simp; omega) (fun g3 => ?_)
        rw [hull_snoc he hx]
        refine aPr rfl (prAddI rfl rfl (by omega) (by omega)) rfl ?_
        exact aBack rfl rfl ⟨(j + 1, g3), rfl, rfl, hlt, by show ss.length - (j + 1) < ss.length - j; omega⟩
      · have hj2 : j = ss.length := by have : ¬ j < ss.length := (by simpa using h1); omega
        subst hj2
        have hll : (hullB ss ts).length = ss.length := by simp [hullB]; omega
        rw [List.take_of_length_le (Nat.le_of_eq hll)]
        refine aCall rfl (is6_ct (hullB ss ts) 21 21 (by omega)) (fun γ => ?_)
        exact aRet (fun _ => 0) rfl rfl rfl
  have hL0 : likeB ss ts = false := by simpa using hL
  refine aCall rfl (hullN_ct ss ts 21 hL0) (fun γ7 => ?_)
  refine aConv 7 [.ro false (pRows spanR []), .ro false (pV (.bool false))] rfl (ConvS.rows (ConvS.same ConvS.nil)) ?_
  refine aCall rfl (dright_ct ss 21) (fun γ => ?_)
  cases hr : rightB ss with
  | true =>
    refine aTrue rfl ?_
    refine aCall rfl (dright_ct ts 21) (fun γ => ?_)
    cases hr' : rightB ts with
    | true =>
      have hl : ss.length ≠ ts.length := fun e => by simp [likeB, hr, hr', e] at hL0
      refine aTrue rfl ?_
      refine aLen rfl (List.length_map _) ?_
      refine aLen rfl (List.length_map _) ?_
      refine aPrE rfl (prEq rfl rfl) (v' := .bool false) (by simp; omega) rfl ?_
      refine aPr rfl (prBNe (by kernel_rfl) rfl rfl) rfl ?_
      refine aFalse rfl ?_
      refine aCall rfl (bwithin_ct ss ts 21) (fun γ => ?_)
      refine aCall rfl (dbwithin_ct ss ts 21) (fun γ => ?_)
      refine aPrE rfl (prBNe (by kernel_rfl) rfl rfl) (v' := .bool false) (by simp) rfl ?_
      refine aFalse rfl ?_
      refine aCall rfl (bmeets_ct ss ts 21) (fun γ => ?_)
      refine aCall rfl (dbmeets_ct ss ts 21) (fun γ => ?_)
      refine aPrE rfl (prBNe (by kernel_rfl) rfl rfl) (v' := .bool false) (by simp) rfl ?_
      refine aFalse rfl ?_
      refine aLoopC [] (fun s : Nat × Nat × Nat => [.own s.2.1 ratR (rowsQ (ptsB ps s.1) 21), .own s.2.2 dratR (rowsE (ptsB ps s.1) 21), .ro true (pV (.int .i64 s.1))]) (fun s => s.1 ≤ 5 ∧ s.1 ≤ ps.length) (fun s => ps.length - s.1) (0, 0, 0) ⟨by decide, Nat.zero_le _⟩ (fun s ⟨hi5, hi⟩ => ?_)
      obtain ⟨i, g, g'⟩ := s
      simp only at hi5 hi ⊢
      have hpl := pts_len ps i
      refine aLen rfl (List.length_map _) ?_
      refine aPr rfl (prLt rfl rfl) rfl ?_
      refine aIf rfl (fun h1 => ?_) (fun h1 => ?_)
      · have hlt : i < ps.length := by simpa using h1
        refine aPr rfl (prLt rfl rfl) rfl ?_
        refine aIf rfl (fun h2 => ?_) (fun h2 => ?_)
        · have hlt5 : i < 5 := by have : (i : Int) < 5 := (by simpa using h2); omega
          obtain ⟨s, he⟩ := at_some hlt
          have hm := List.mem_of_getElem? he
          refine aIdx rfl rfl (fun _ => rfl) (by omega) (map_at (f := fun s : ByteArray => [pV (.string s)]) he) ?_
          refine aLd rfl rfl rfl ?_
          by_cases ho : NumQ s
          · obtain ⟨e1, e2⟩ := pts_yes (k := 21) he ho
            refine aCall rfl (num_ct s (hps s hm) ho) (fun γ => ?_)
            refine aTrue rfl ?_
            refine aTwo ?_ ?_
            · skip
              refine aBuild ratR rfl (fun g1 => ?_)
              refine aTwo ?_ ?_
              · skip
                refine aAppend [] rfl rfl (zs := [.bool false, .slice none 0 0, .bool false, .slice none 0 0]) (by simp; omega) (fun ga => ?_)
                rw [e1]
                refine aBuild dratR rfl (fun g2 => ?_)
                refine aAppend [] rfl rfl (zs := [.bool false, .slice none 0 0, .slice none 0 0]) (by simp; omega) (fun gb => ?_)
                rw [e2]
                refine aPr rfl (prAddI rfl rfl (by omega) (by omega)) rfl ?_
                exact aBack rfl rfl ⟨(i + 1, ga, gb), rfl, rfl, ⟨hlt5, hlt⟩, by show ps.length - (i + 1) < ps.length - i; omega⟩
              · skip
                refine aBuild dratR rfl (fun g2 => ?_)
                refine aAppend [] rfl rfl (zs := [.bool false, .slice none 0 0, .bool false, .slice none 0 0]) (by simp; omega) (fun ga => ?_)
                rw [e1]
                refine aAppend [] rfl rfl (zs := [.bool false, .slice none 0 0, .slice none 0 0]) (by simp; omega) (fun gb => ?_)
                rw [e2]
                refine aPr rfl (prAddI rfl rfl (by omega) (by omega)) rfl ?_
                exact aBack rfl rfl ⟨(i + 1, ga, gb), rfl, rfl, ⟨hlt5, hlt⟩, by show ps.length - (i + 1) < ps.length - i; omega⟩
            · skip
              refine aBuild dratR rfl (fun g1 => ?_)
              refine aBuild ratR rfl (fun g2 => ?_)
              refine aAppend [] rfl rfl (zs := [.bool false, .slice none 0 0, .bool false, .slice none 0 0]) (by simp; omega) (fun ga => ?_)
              rw [e1]
              refine aAppend [] rfl rfl (zs := [.bool false, .slice none 0 0, .slice none 0 0]) (by simp; omega) (fun gb => ?_)
              rw [e2]
              refine aPr rfl (prAddI rfl rfl (by omega) (by omega)) rfl ?_
              exact aBack rfl rfl ⟨(i + 1, ga, gb), rfl, rfl, ⟨hlt5, hlt⟩, by show ps.length - (i + 1) < ps.length - i; omega⟩
          · rw [pts_no he ho]
            refine aCall rfl (numN_ct s (hps s hm) ho) (fun γ => ?_)
            refine aFalse rfl ?_
            refine aPr rfl (prAddI rfl rfl (by omega) (by omega)) rfl ?_
            exact aBack rfl rfl ⟨(i + 1, g, g'), rfl, rfl, ⟨hlt5, hlt⟩, by show ps.length - (i + 1) < ps.length - i; omega⟩
        · skip
          refine aCall rfl (bhas_ct ss (ptsB ps i) 21 21) (fun γ => ?_)
          refine aCall rfl (dbhas_ct ss (ptsB ps i) 21 21) (fun γ => ?_)
          refine aPrE rfl (prBNe (by kernel_rfl) rfl rfl) (v' := .bool false) (by simp) rfl ?_
          refine aFalse rfl ?_
          refine aPr rfl (prNot rfl) rfl ?_
          refine aTrue rfl ?_
          refine aLen rfl (n := 0) rfl ?_
          refine aPr rfl (prEq rfl rfl) rfl ?_
          exact aRet (fun _ => 0) rfl rfl rfl
      · skip
        refine aCall rfl (bhas_ct ss (ptsB ps i) 21 21) (fun γ => ?_)
        refine aCall rfl (dbhas_ct ss (ptsB ps i) 21 21) (fun γ => ?_)
        refine aPrE rfl (prBNe (by kernel_rfl) rfl rfl) (v' := .bool false) (by simp) rfl ?_
        refine aFalse rfl ?_
        refine aPr rfl (prNot rfl) rfl ?_
        refine aTrue rfl ?_
        refine aLen rfl (n := 0) rfl ?_
        refine aPr rfl (prEq rfl rfl) rfl ?_
        exact aRet (fun _ => 0) rfl rfl rfl
    | false =>
      refine aFalse rfl ?_
      refine aPr rfl (prBNe (by kernel_rfl) rfl rfl) rfl ?_
      refine aFalse rfl ?_
      refine aCall rfl (bwithin_ct ss ts 21) (fun γ => ?_)
      refine aCall rfl (dbwithin_ct ss ts 21) (fun γ => ?_)
      refine aPrE rfl (prBNe (by kernel_rfl) rfl rfl) (v' := .bool false) (by simp) rfl ?_
      refine aFalse rfl ?_
      refine aCall rfl (bmeets_ct ss ts 21) (fun γ => ?_)
      refine aCall rfl (dbmeets_ct ss ts 21) (fun γ => ?_)
      refine aPrE rfl (prBNe (by kernel_rfl) rfl rfl) (v' := .bool false) (by simp) rfl ?_
      refine aFalse rfl ?_
      refine aLoopC [] (fun s : Nat × Nat × Nat => [.own s.2.1 ratR (rowsQ (ptsB ps s.1) 21), .own s.2.2 dratR (rowsE (ptsB ps s.1) 21), .ro true (pV (.int .i64 s.1))]) (fun s => s.1 ≤ 5 ∧ s.1 ≤ ps.length) (fun s => ps.length - s.1) (0, 0, 0) ⟨by decide, Nat.zero_le _⟩ (fun s ⟨hi5, hi⟩ => ?_)
      obtain ⟨i, g, g'⟩ := s
      simp only at hi5 hi ⊢
      have hpl := pts_len ps i
      refine aLen rfl (List.length_map _) ?_
      refine aPr rfl (prLt rfl rfl) rfl ?_
      refine aIf rfl (fun h1 => ?_) (fun h1 => ?_)
      · have hlt : i < ps.length := by simpa using h1
        refine aPr rfl (prLt rfl rfl) rfl ?_
        refine aIf rfl (fun h2 => ?_) (fun h2 => ?_)
        · have hlt5 : i < 5 := by have : (i : Int) < 5 := (by simpa using h2); omega
          obtain ⟨s, he⟩ := at_some hlt
          have hm := List.mem_of_getElem? he
          refine aIdx rfl rfl (fun _ => rfl) (by omega) (map_at (f := fun s : ByteArray => [pV (.string s)]) he) ?_
          refine aLd rfl rfl rfl ?_
          by_cases ho : NumQ s
          · obtain ⟨e1, e2⟩ := pts_yes (k := 21) he ho
            refine aCall rfl (num_ct s (hps s hm) ho) (fun γ => ?_)
            refine aTrue rfl ?_
            refine aTwo ?_ ?_
            · skip
              refine aBuild ratR rfl (fun g1 => ?_)
              refine aTwo ?_ ?_
              · skip
                refine aAppend [] rfl rfl (zs := [.bool false, .slice none 0 0, .bool false, .slice none 0 0]) (by simp; omega) (fun ga => ?_)
                rw [e1]
                refine aBuild dratR rfl (fun g2 => ?_)
                refine aAppend [] rfl rfl (zs := [.bool false, .slice none 0 0, .slice none 0 0]) (by simp; omega) (fun gb => ?_)
                rw [e2]
                refine aPr rfl (prAddI rfl rfl (by omega) (by omega)) rfl ?_
                exact aBack rfl rfl ⟨(i + 1, ga, gb), rfl, rfl, ⟨hlt5, hlt⟩, by show ps.length - (i + 1) < ps.length - i; omega⟩
              · skip
                refine aBuild dratR rfl (fun g2 => ?_)
                refine aAppend [] rfl rfl (zs := [.bool false, .slice none 0 0, .bool false, .slice none 0 0]) (by simp; omega) (fun ga => ?_)
                rw [e1]
                refine aAppend [] rfl rfl (zs := [.bool false, .slice none 0 0, .slice none 0 0]) (by simp; omega) (fun gb => ?_)
                rw [e2]
                refine aPr rfl (prAddI rfl rfl (by omega) (by omega)) rfl ?_
                exact aBack rfl rfl ⟨(i + 1, ga, gb), rfl, rfl, ⟨hlt5, hlt⟩, by show ps.length - (i + 1) < ps.length - i; omega⟩
            · skip
              refine aBuild dratR rfl (fun g1 => ?_)
              refine aBuild ratR rfl (fun g2 => ?_)
              refine aAppend [] rfl rfl (zs := [.bool false, .slice none 0 0, .bool false, .slice none 0 0]) (by simp; omega) (fun ga => ?_)
              rw [e1]
              refine aAppend [] rfl rfl (zs := [.bool false, .slice none 0 0, .slice none 0 0]) (by simp; omega) (fun gb => ?_)
              rw [e2]
              refine aPr rfl (prAddI rfl rfl (by omega) (by omega)) rfl ?_
              exact aBack rfl rfl ⟨(i + 1, ga, gb), rfl, rfl, ⟨hlt5, hlt⟩, by show ps.length - (i + 1) < ps.length - i; omega⟩
          · rw [pts_no he ho]
            refine aCall rfl (numN_ct s (hps s hm) ho) (fun γ => ?_)
            refine aFalse rfl ?_
            refine aPr rfl (prAddI rfl rfl (by omega) (by omega)) rfl ?_
            exact aBack rfl rfl ⟨(i + 1, g, g'), rfl, rfl, ⟨hlt5, hlt⟩, by show ps.length - (i + 1) < ps.length - i; omega⟩
        · skip
          refine aCall rfl (bhas_ct ss (ptsB ps i) 21 21) (fun γ => ?_)
          refine aCall rfl (dbhas_ct ss (ptsB ps i) 21 21) (fun γ => ?_)
          refine aPrE rfl (prBNe (by kernel_rfl) rfl rfl) (v' := .bool false) (by simp) rfl ?_
          refine aFalse rfl ?_
          refine aLen rfl (n := 0) rfl ?_
          refine aPr rfl (prEq rfl rfl) rfl ?_
          exact aRet (fun _ => 0) rfl rfl rfl
      · skip
        refine aCall rfl (bhas_ct ss (ptsB ps i) 21 21) (fun γ => ?_)
        refine aCall rfl (dbhas_ct ss (ptsB ps i) 21 21) (fun γ => ?_)
        refine aPrE rfl (prBNe (by kernel_rfl) rfl rfl) (v' := .bool false) (by simp) rfl ?_
        refine aFalse rfl ?_
        refine aLen rfl (n := 0) rfl ?_
        refine aPr rfl (prEq rfl rfl) rfl ?_
        exact aRet (fun _ => 0) rfl rfl rfl
  | false =>
    refine aFalse rfl ?_
    refine aPr rfl (prBNe (by kernel_rfl) rfl rfl) rfl ?_
    refine aFalse rfl ?_
    refine aCall rfl (bwithin_ct ss ts 21) (fun γ => ?_)
    refine aCall rfl (dbwithin_ct ss ts 21) (fun γ => ?_)
    refine aPrE rfl (prBNe (by kernel_rfl) rfl rfl) (v' := .bool false) (by simp) rfl ?_
    refine aFalse rfl ?_
    refine aCall rfl (bmeets_ct ss ts 21) (fun γ => ?_)
    refine aCall rfl (dbmeets_ct ss ts 21) (fun γ => ?_)
    refine aPrE rfl (prBNe (by kernel_rfl) rfl rfl) (v' := .bool false) (by simp) rfl ?_
    refine aFalse rfl ?_
    refine aLoopC [] (fun s : Nat × Nat × Nat => [.own s.2.1 ratR (rowsQ (ptsB ps s.1) 21), .own s.2.2 dratR (rowsE (ptsB ps s.1) 21), .ro true (pV (.int .i64 s.1))]) (fun s => s.1 ≤ 5 ∧ s.1 ≤ ps.length) (fun s => ps.length - s.1) (0, 0, 0) ⟨by decide, Nat.zero_le _⟩ (fun s ⟨hi5, hi⟩ => ?_)
    obtain ⟨i, g, g'⟩ := s
    simp only at hi5 hi ⊢
    have hpl := pts_len ps i
    refine aLen rfl (List.length_map _) ?_
    refine aPr rfl (prLt rfl rfl) rfl ?_
    refine aIf rfl (fun h1 => ?_) (fun h1 => ?_)
    · have hlt : i < ps.length := by simpa using h1
      refine aPr rfl (prLt rfl rfl) rfl ?_
      refine aIf rfl (fun h2 => ?_) (fun h2 => ?_)
      · have hlt5 : i < 5 := by have : (i : Int) < 5 := (by simpa using h2); omega
        obtain ⟨s, he⟩ := at_some hlt
        have hm := List.mem_of_getElem? he
        refine aIdx rfl rfl (fun _ => rfl) (by omega) (map_at (f := fun s : ByteArray => [pV (.string s)]) he) ?_
        refine aLd rfl rfl rfl ?_
        by_cases ho : NumQ s
        · obtain ⟨e1, e2⟩ := pts_yes (k := 21) he ho
          refine aCall rfl (num_ct s (hps s hm) ho) (fun γ => ?_)
          refine aTrue rfl ?_
          refine aTwo ?_ ?_
          · skip
            refine aBuild ratR rfl (fun g1 => ?_)
            refine aTwo ?_ ?_
            · skip
              refine aAppend [] rfl rfl (zs := [.bool false, .slice none 0 0, .bool false, .slice none 0 0]) (by simp; omega) (fun ga => ?_)
              rw [e1]
              refine aBuild dratR rfl (fun g2 => ?_)
              refine aAppend [] rfl rfl (zs := [.bool false, .slice none 0 0, .slice none 0 0]) (by simp; omega) (fun gb => ?_)
              rw [e2]
              refine aPr rfl (prAddI rfl rfl (by omega) (by omega)) rfl ?_
              exact aBack rfl rfl ⟨(i + 1, ga, gb), rfl, rfl, ⟨hlt5, hlt⟩, by show ps.length - (i + 1) < ps.length - i; omega⟩
            · skip
              refine aBuild dratR rfl (fun g2 => ?_)
              refine aAppend [] rfl rfl (zs := [.bool false, .slice none 0 0, .bool false, .slice none 0 0]) (by simp; omega) (fun ga => ?_)
              rw [e1]
              refine aAppend [] rfl rfl (zs := [.bool false, .slice none 0 0, .slice none 0 0]) (by simp; omega) (fun gb => ?_)
              rw [e2]
              refine aPr rfl (prAddI rfl rfl (by omega) (by omega)) rfl ?_
              exact aBack rfl rfl ⟨(i + 1, ga, gb), rfl, rfl, ⟨hlt5, hlt⟩, by show ps.length - (i + 1) < ps.length - i; omega⟩
          · skip
            refine aBuild dratR rfl (fun g1 => ?_)
            refine aBuild ratR rfl (fun g2 => ?_)
            refine aAppend [] rfl rfl (zs := [.bool false, .slice none 0 0, .bool false, .slice none 0 0]) (by simp; omega) (fun ga => ?_)
            rw [e1]
            refine aAppend [] rfl rfl (zs := [.bool false, .slice none 0 0, .slice none 0 0]) (by simp; omega) (fun gb => ?_)
            rw [e2]
            refine aPr rfl (prAddI rfl rfl (by omega) (by omega)) rfl ?_
            exact aBack rfl rfl ⟨(i + 1, ga, gb), rfl, rfl, ⟨hlt5, hlt⟩, by show ps.length - (i + 1) < ps.length - i; omega⟩
        · rw [pts_no he ho]
          refine aCall rfl (numN_ct s (hps s hm) ho) (fun γ => ?_)
          refine aFalse rfl ?_
          refine aPr rfl (prAddI rfl rfl (by omega) (by omega)) rfl ?_
          exact aBack rfl rfl ⟨(i + 1, g, g'), rfl, rfl, ⟨hlt5, hlt⟩, by show ps.length - (i + 1) < ps.length - i; omega⟩
      · skip
        refine aCall rfl (bhas_ct ss (ptsB ps i) 21 21) (fun γ => ?_)
        refine aCall rfl (dbhas_ct ss (ptsB ps i) 21 21) (fun γ => ?_)
        refine aPrE rfl (prBNe (by kernel_rfl) rfl rfl) (v' := .bool false) (by simp) rfl ?_
        refine aFalse rfl ?_
        refine aLen rfl (n := 0) rfl ?_
        refine aPr rfl (prEq rfl rfl) rfl ?_
        exact aRet (fun _ => 0) rfl rfl rfl
    · skip
      refine aCall rfl (bhas_ct ss (ptsB ps i) 21 21) (fun γ => ?_)
      refine aCall rfl (dbhas_ct ss (ptsB ps i) 21 21) (fun γ => ?_)
      refine aPrE rfl (prBNe (by kernel_rfl) rfl rfl) (v' := .bool false) (by simp) rfl ?_
      refine aFalse rfl ?_
      refine aLen rfl (n := 0) rfl ?_
      refine aPr rfl (prEq rfl rfl) rfl ?_
      exact aRet (fun _ => 0) rfl rfl rfl
theorem strs_arg {W : World} {v : Value} {ps : List ByteArray} (h : RowR 1 W v (strRows ps)) : RL ⟨W.heap.size, some W.heap.size, fun _ => False⟩ W [pStrs ps] [v] :=
  rows_arg (r := strR) (rows := ps.map fun s => [pV (.string s)]) (by decide) h (by simp [strRows]) (fun i x row hx hr => by
    simp only [strRows, List.getElem?_map] at hx hr
    cases hi : ps[i]? with
    | none => rw [hi] at hx; cases hx
    | some t =>
      rw [hi] at hx hr
      cases hx
      cases hr
      exact ⟨fit_of rfl, ⟨[.string t], [], rfl, ⟨rfl, rfl⟩, rfl⟩⟩)
theorem boxSets_any (ta tb : List (ByteArray × ByteArray)) (ps : List ByteArray) (v u x : Value) (W : World) (hT : TabsP W) (h1 : RowR 2 W v (pairRows ta)) (h2 : RowR 2 W u (pairRows tb)) (h3 : RowR 1 W x (strRows ps))
    (f1 : ∀ p ∈ ta, p.1.size ≤ maxLen ∧ p.2.size ≤ maxLen) (f2 : ∀ p ∈ tb, p.1.size ≤ maxLen ∧ p.2.size ≤ maxLen) (f3 : ∀ p ∈ ps, p.size ≤ maxLen) :
    Calls Tryz.prog 3 #[v, u, x] W fun e w' => e = .returned (.bool true) ∧ Below W.heap.size W w' :=
  (boxSets_ct ta tb ps (fits_of f1) (fits_of f2) (fun s hs => len_le (f3 s hs)) (at0 W) [[v], [u], [x]] hT ⟨[v], _, rfl, rfl, pairs_arg h1, [u], _, rfl, rfl, pairs_arg h2, [x], _, rfl, rfl, strs_arg h3, rfl⟩).mono fun _ _ h => told_v h
end Go.Proofs.YtpmnakjllkidiaaGreatDoor
