/- The walk that is reckoned: a step, a row of operations. No program. -/
import Derived.Test.YtpmnakjllkidiaaGreatDoorYd
namespace Cin
open Go Go.RowKit
section step
variable {D Z : TypeId → Bool} {w0 w w' : World} {u : Gh} {st st' : St} {ρ : List Nat} {E : Env} {a : Act} {P : Program}
theorem pe_ab (a : Act) (xs : List Operand) (i : Nat) (x : Operand) (h : xs[i]? = some x) : pe (xs.map a.eval) (ab i x) = a.eval x := by
  cases x with
  | const v => rfl
  | tmp t => simp [ab, pe, List.getD_eq_getElem?_getD, h]
  | global g => simp [ab, pe, List.getD_eq_getElem?_getD, h]
  | func f => simp [ab, pe, List.getD_eq_getElem?_getD, h]
theorem eqGuard_ab (op : BinOp) (t : TypeId) (i j : Nat) (x y : Operand) (p q : Value) : eqGuard op t (ab i x) (ab j y) p q = eqGuard op t x y p q := by
  cases x <;> cases y <;> rfl
theorem pm_ok {o : Oper} {op : Op} {xs : List Operand} (h : pm o.op = some (op, xs)) (a : Act) : execOp a.eval o = execOp (pe (xs.map a.eval)) ⟨none, op, o.type, "", #[], none⟩ := by
  unfold pm at h
  split at h
  · rename_i b t x y t2 ho
    cases h
    simp only [execOp, ho, pe_ab a [x, y] 0 x rfl, pe_ab a [x, y] 1 y rfl, eqGuard_ab]
  · rename_i b t x ho
    cases h
    simp only [execOp, ho, pe_ab a [x] 0 x rfl]
  · rename_i s d x ho
    cases h
    simp only [execOp, ho, pe_ab a [x] 0 x rfl]
  · rename_i t x i ho
    cases h
    simp only [execOp, ho, pe_ab a [x, i] 0 x rfl, pe_ab a [x, i] 1 i rfl]
  · rename_i t x f ho
    cases h
    simp only [execOp, ho, pe_ab a [x] 0 x rfl]
  · rename_i x ho
    cases h
    simp only [execOp, ho, pe_ab a [x] 0 x rfl]
  · rename_i t x i ho
    cases h
    simp only [execOp, ho, pe_ab a [x, i] 0 x rfl, pe_ab a [x, i] 1 i rfl]
  · rename_i t x ho
    cases h
    simp only [execOp, ho, pe_ab a [x] 0 x rfl, Option.map_none]
  · rename_i t x l ho
    cases h
    simp only [execOp, ho, pe_ab a [x, l] 0 x rfl, Option.map_none, Option.map_some, pe_ab a [x, l] 1 l rfl]
  · rename_i t x l ho
    cases h
    simp only [execOp, ho, pe_ab a [x, l] 0 x rfl, Option.map_none, Option.map_some, pe_ab a [x, l] 1 l rfl]
  · rename_i t x l k ho
    cases h
    simp only [execOp, ho, pe_ab a [x, l, k] 0 x rfl, Option.map_none, Option.map_some, pe_ab a [x, l, k] 1 l rfl, pe_ab a [x, l, k] 2 k rfl]
  · rename_i b args ts ho
    split at h
    · rename_i x hx
      obtain rfl : args = #[x] := by rw [← Array.toArray_toList (xs := args), hx]
      cases h
      cases x <;> simp [execOp, ho, resolve, ab, pe, Act.eval]
    · rename_i x y hx
      obtain rfl : args = #[x, y] := by rw [← Array.toArray_toList (xs := args), hx]
      cases h
      cases x <;> cases y <;> simp [execOp, ho, resolve, ab, pe, Act.eval]
    · rename_i x y hx
      obtain rfl : args = #[x, y] := by rw [← Array.toArray_toList (xs := args), hx]
      cases h
      cases x <;> cases y <;> simp [execOp, ho, resolve, ab, pe, Act.eval]
    · cases h
  · cases h
theorem lm_ok {o : Oper} {op : Op} {xs : List Operand} {sh : Option Nat} (h : lm P o = some (op, xs, sh)) (a : Act) : execOp a.eval o = execOp (pe (xs.map a.eval)) ⟨none, op, o.type, "", #[], none⟩ := by
  unfold lm at h
  split at h
  · rename_i t x ho
    split at h
    · cases h
      simp only [execOp, ho, pe_ab a [x] 0 x rfl]
    · cases h
  · rename_i t x i ho
    split at h
    · cases h
    · split at h
      · cases h
        simp only [execOp, ho, pe_ab a [x, i] 0 x rfl, pe_ab a [x, i] 1 i rfl]
      · cases h
  · cases h
theorem abL_ok (a : Act) (xs : List Operand) : (abL xs).map (pe (xs.map a.eval)) = (xs.map a.eval).toArray := by
  unfold abL
  rw [List.map_toArray]
  congr 1
  refine List.ext_getElem? fun k => ?_
  simp only [List.getElem?_map, List.getElem?_zipIdx]
  cases hk : xs[k]? with
  | none => rfl
  | some x => simp only [Option.map_some, Nat.zero_add]; rw [pe_ab a xs k x hk]
theorem abL_map {β : Type} (f : Operand → β) (xs : Array Operand) (hf : ∀ i x, f (ab i x) = f x) : (abL xs.toList).map f = xs.map f := by
  unfold abL
  rw [List.map_toArray]
  have : (xs.toList.zipIdx.map fun (x, i) => ab i x).map f = xs.toList.map f := by
    refine List.ext_getElem? fun k => ?_
    simp only [List.getElem?_map, List.getElem?_zipIdx]
    cases hk : xs.toList[k]? with
    | none => rfl
    | some x => simp only [Option.map_some, hf]
  rw [this, ← List.map_toArray, Array.toArray_toList]
theorem abP_ok (a : Act) (ps : List (Nat × Operand)) : ((ps.zipIdx.map fun (p, i) => (p.1, ab i p.2)).toArray).map (fun (i, x) => (i, pe ((ps.map (·.2)).map a.eval) x)) = (ps.map fun (i, x) => (i, a.eval x)).toArray := by
  rw [List.map_toArray]
  congr 1
  refine List.ext_getElem? fun k => ?_
  simp only [List.getElem?_map, List.getElem?_zipIdx]
  cases hk : ps[k]? with
  | none => rfl
  | some p => simp only [Option.map_some, Nat.zero_add]; rw [pe_ab a (ps.map (·.2)) k p.2 (by rw [List.getElem?_map, hk]; rfl)]
theorem wm_ok {o : Oper} {op : Op} {xs : List Operand} {sh : Option (Option Nat)} (h : wm D o.op = some (op, xs, sh)) (a : Act) : execOp a.eval o = execOp (pe (xs.map a.eval)) ⟨none, op, o.type, "", #[], none⟩ := by
  unfold wm at h
  split at h
  · rename_i t len parts ho
    cases h
    simp only [execOp, ho]
    rw [abP_ok a parts.toList, ← List.map_toArray, Array.toArray_toList]
  · rename_i t l c ho
    cases h
    simp only [execOp, ho, pe_ab a [l, c] 0 l rfl, pe_ab a [l, c] 1 c rfl]
  · rename_i t ho
    split at h
    · cases h; simp only [execOp, ho]
    · cases h
  · rename_i t x ho
    split at h
    · cases h; simp only [execOp, ho, pe_ab a [x] 0 x rfl]
    · cases h
  · rename_i t x y ho
    cases h
    simp only [execOp, ho, pe_ab a [x, y] 0 x rfl, pe_ab a [x, y] 1 y rfl]
  · rename_i b args ts ho
    have e1 : args.map a.eval = (abL args.toList).map (pe (args.toList.map a.eval)) := by rw [abL_ok, ← List.map_toArray, Array.toArray_toList]
    split at h
    · cases h
      simp only [execOp, ho, resolve, e1]
      rw [abL_map (β := Bool) _ args (fun i x => by cases x <;> rfl)]
    · cases h
      simp only [execOp, ho, resolve, e1]
      rw [abL_map (β := Bool) _ args (fun i x => by cases x <;> rfl)]
    · cases h
  · cases h
def outX (sh : Option (Option Nat)) (cs : List Value) : Next :=
  match sh with
  | some s => .value ((v1of 0 0 s).den [] [cs])
  | none => .skip
def emI (P : Program) (w0 : World) (D Z : TypeId → Bool) (em : Option Em) (C : Env → Gh → Prop) (E : Env) (u : Gh) : Prop :=
  match em with
  | none => C E u
  | some (.call f ar sh) => ∀ w, ExtS D u w → Below w0.heap.size w0 w → Calls P f (ar.map (V1.den [] E)).toArray w fun e w' =>
      ∃ cs : List Value, e = .returned ((mkSV sh 0).den [] [cs]) ∧ cs.all Value.oneCell' = true ∧ Below w.heap.size w w' ∧ C (E ++ [cs]) (u.more w w')
  | some (.pr op ty ar) => ∃ v, PrimOk P op ty (ar.map (V1.den [] E)) v ∧ v.oneCell' = true ∧ C (E ++ [[v]]) u
  | some (.ld op ty ar sh) => ∃ cs : List Value, cs.all Value.oneCell' = true ∧
      (∀ w, ExtS D u w → Below w0.heap.size w0 w → (execOp (pe (ar.map (V1.den [] E))) ⟨none, op, ty, "", #[], none⟩).run P w = .ok (.value ((v1of 0 0 sh).den [] [cs])) w) ∧ C (E ++ [cs]) u
  | some (.wx op ty ar sh) => ∀ w, ExtS D u w → Below w0.heap.size w0 w → ∃ (cs : List Value) (w' : World),
      (execOp (pe (ar.map (V1.den [] E))) ⟨none, op, ty, "", #[], none⟩).run P w = .ok (outX sh cs) w' ∧ cs.all Value.oneCell' = true ∧ ChgS D Z u.S w w' ∧ Below w0.heap.size w0 w' ∧ C (E ++ [cs]) (u.more w w')
def Stab (okS : Nat → Bool) (st : St) (ρ : List Nat) (E : Env) (st' : St) (ρ' : List Nat) (E' : Env) : Prop :=
  ∀ j x, okS j = false → st.at ρ E j = some x → st'.at ρ' E' j = some x
theorem getD_new {α : Type} (l : List α) (x d : α) : (l ++ [x]).getD l.length d = x := by
  rw [List.getD_eq_getElem?_getD, List.getElem?_append_right (Nat.le_refl _)]; simp
theorem v1of_den {ρ : List Nat} (E : Env) (cs : List Value) (i : Nat) (s : Option Nat) : (v1of E.length i s).den ρ (E ++ [cs]) = (v1of 0 i s).den [] [cs] := by
  cases s with
  | none => simp only [v1of, V1.den, A.den, getD_new]; rfl
  | some m =>
    simp only [v1of, V1.den, List.map_map]
    congr 2
    refine List.map_congr_left fun k _ => ?_
    simp only [Function.comp, A.den, getD_new]; rfl
theorem svs_den {ρ : List Nat} (E : Env) (cs : List Value) : ∀ (sh : List (Option Nat)) (i : Nat), (svs E.length i sh).map (V1.den ρ (E ++ [cs])) = (svs 0 i sh).map (V1.den [] [cs])
  | [], _ => rfl
  | s :: r, i => by simp only [svs, List.map_cons, v1of_den, svs_den E cs r]
theorem mkSV_den {ρ : List Nat} (E : Env) (cs : List Value) (sh : List (Option Nat)) : (mkSV sh E.length).den ρ (E ++ [cs]) = (mkSV sh 0).den [] [cs] := by
  unfold mkSV
  split
  · simp only [SV.den, v1of_den]
  · simp only [SV.den, svs_den]
theorem Stab.refl_put {okS : Nat → Bool} (dst : Option Tmp) (s : SV) : Stab okS st ρ E (st.put dst s) ρ E := fun j x _ h => by rw [St.at_put]; exact h
theorem Stab.more {okS : Nat → Bool} (hI : Inv D w0 st ρ E u a w) (hs : st.sc = true) (cs : List Value) (dst : Option Tmp) (s : SV) : Stab okS st ρ E ({ st with nv := st.nv + 1 : St }.put dst s) ρ (E ++ [cs]) := fun j x _ h => by
  rw [St.at_put]
  have := St.at_ext hs hI.nv ρ (fun _ _ => rfl) [cs] j
  rw [h] at this; exact this
theorem stp_rd {S : World → Prop} {okL okS : Nat → Bool} {o : Oper} {em : Option Em} {C : Env → Gh → Prop} {la nx : Bool} (h : stp P D okL okS true la nx st o = some (em, st')) (hI : Inv D w0 st ρ E u a w)
    (hS : ∀ w', S w' → ∀ j b c t, okL j = true → st.at ρ E j = some (b, c, t) → w'.heap[b]? = some (Obj.cells c t (0, 0))) (hSE : la = true → ∀ w', S w' → ExtS D u w' ∧ Below w0.heap.size w0 w') (hem : emI P w0 D Z em C E u) :
    ∃ v E', (∀ w', S w' → (execOp a.eval o).run P w' = .ok (.value v) w') ∧ Inv D w0 st' ρ E' u (a.put o.dst v) w ∧ C E' u ∧ Stab okS st ρ E st' ρ E' ∧ Adv Z st ρ E u st' ρ E' u := by
  unfold stp at h
  rw [if_pos rfl] at h
  split at h
  · rename_i s hs
    cases h
    obtain ⟨v, hv, hr⟩ := rd0_ok hI hS hs
    exact ⟨v, E, hr, hI.put hv _, hem, Stab.refl_put _ _, Adv.put _ _ _ _ _ _⟩
  · split at h
    · rename_i op xs sh hp
      split at h
      · rename_i ar has
        split at h
        · rename_i hsc
          cases h
          simp only [Bool.and_eq_true, Bool.or_eq_true, Bool.not_eq_true'] at hsc
          obtain ⟨hsc, hla⟩ := hsc
          have hla : la = true := hla.resolve_left (by decide)
          obtain ⟨cs, h1, hv, hC⟩ := hem
          refine ⟨(v1of 0 0 sh).den [] [cs], E ++ [cs], fun w' hw => ?_, ?_, hC, Stab.more hI hsc _ _ _, Adv.more _ _ _ (Ext.refl _ _) _ _ _ _⟩
          · rw [lm_ok hp a, hI.args has]; exact hv w' (hSE hla w' hw).1 (hSE hla w' hw).2
          · refine (hI.more hsc (cs := cs) (fun v' hv' => List.all_eq_true.1 h1 v' hv')).put (fun _ => ?_) _
            simp only [SV.den, ← hI.nv]; exact (v1of_den E cs 0 sh).symm
        · cases h
      · cases h
    · split at h
      · rename_i op xs hp
        split at h
        · rename_i ar has
          split at h
          · rename_i hsc
            cases h
            obtain ⟨v, hv, h1, hC⟩ := hem
            refine ⟨v, E ++ [[v]], fun w' _ => ?_, ?_, hC, Stab.more hI hsc _ _ _, Adv.more _ _ _ (Ext.refl _ _) _ _ _ _⟩
            · rw [pm_ok hp a, hI.args has]; exact hv w'
            · refine (hI.more hsc (cs := [v]) (fun v' hv' => by rw [List.mem_singleton.1 hv']; exact h1)).put (fun _ => ?_) _
              simp only [SV.den, V1.den, A.den, ← hI.nv, getD_new]; rfl
          · cases h
        · cases h
      · simp at h
theorem wp_value {o : Oper} {next : Act → World → Prop} {Q : Exit → Act → World → Prop} {v : Value} (h : (execOp a.eval o).run P w = .ok (.value v) w') (hn : next (a.put o.dst v) w') : o.wp P a w next Q := by
  unfold Oper.wp; rw [h]; exact hn
theorem stp_eff {okL okS : Nat → Bool} {o : Oper} {em : Option Em} {C : Env → Gh → Prop} {la nx : Bool} (hZ : ∀ t, Z t = true → D t = true) (h : stp P D okL okS false la nx st o = some (em, st')) (hI : Inv D w0 st ρ E u a w) (hem : emI P w0 D Z em C E u)
    {next : Act → World → Prop} {Q : Exit → Act → World → Prop} (hn : ∀ ρ' E' u' a' w', Inv D w0 st' ρ' E' u' a' w' → C E' u' → Stab okS st ρ E st' ρ' E' → Adv Z st ρ E u st' ρ' E' u' → (nx = true → ExtG D u u') → (nx = true → isCall o.op = false → u' = u) → next a' w') : o.wp P a w next Q := by
  have hn0 := fun ρ' E' a' w' h1 h2 h3 h4 => hn ρ' E' u a' w' h1 h2 h3 h4 (fun _ => ExtG.refl _ _) (fun _ _ => rfl)
  unfold stp at h
  simp only [Bool.false_eq_true, if_false] at h
  split at h
  · rename_i s hs
    cases h
    obtain ⟨v, hv, hr⟩ := rd0_ok (S := fun w' => w' = w) hI (fun w' hw j b c t _ hj => by subst hw; exact (hI.blk j b c t hj).1) hs
    exact wp_value (hr w rfl) (hn0 _ _ _ _ (hI.put hv _) hem (Stab.refl_put _ _) (Adv.put _ _ _ _ _ _))
  · split at h
    · rename_i op xs sh hp
      split at h
      · rename_i ar has
        split at h
        · rename_i hsc
          cases h
          simp only [Bool.and_eq_true] at hsc
          obtain ⟨cs, h1, hv, hC⟩ := hem
          refine wp_value (v := (v1of 0 0 sh).den [] [cs]) (w' := w) ?_ (hn0 _ _ _ _ ?_ hC (Stab.more hI hsc.1 _ _ _) (Adv.more _ _ _ (Ext.refl _ _) _ _ _ _))
          · rw [lm_ok hp a, hI.args has]; exact hv w hI.ext hI.below
          · refine (hI.more hsc.1 (cs := cs) (fun v' hv' => List.all_eq_true.1 h1 v' hv')).put (fun _ => ?_) _
            simp only [SV.den, ← hI.nv]; exact (v1of_den E cs 0 sh).symm
        · cases h
      · cases h
    · split at h
      · rename_i op xs hp
        split at h
        · rename_i ar has
          split at h
          · rename_i hsc
            cases h
            obtain ⟨v, hv, h1, hC⟩ := hem
            refine wp_value (v := v) (w' := w) ?_ (hn0 _ _ _ _ ?_ hC (Stab.more hI hsc _ _ _) (Adv.more _ _ _ (Ext.refl _ _) _ _ _ _))
            · rw [pm_ok hp a, hI.args has]; exact hv w
            · refine (hI.more hsc (cs := [v]) (fun v' hv' => by rw [List.mem_singleton.1 hv']; exact h1)).put (fun _ => ?_) _
              simp only [SV.den, V1.den, A.den, ← hI.nv, getD_new]; rfl
          · cases h
        · cases h
      · split at h
        · rename_i bl s g he
          split at h
          · cases h
          · rename_i hg
            cases h
            unfold eff at he
            have new : ∀ {st1 : St} {l : List A} {t : TypeId} {c : Array Value}, Inv D w0 st1 ρ E u a w → st1.sc = true → (∀ j y, okS j = false → st.at ρ E j = some y → st1.at ρ E j = some y) → ({ st1 with blocks := bl : St }).put o.dst s = ({ st with blocks := bl : St }).put o.dst s →
                D t = false → mkBl st1 o.dst l t = some (.blk bl s g) → (∀ d, c = (l.map (A.den (ρ.set d w.heap.size) E)).toArray) →
                (execOp a.eval o).run P w = .ok (.value (.pointer (some ⟨w.heap.size, 0, none⟩))) (w.alloc (.cells c t)) → o.wp P a w next Q := by
              intro st1 l t c hI1 hsc hat1 hput1 hD hm hc hrun
              unfold mkBl at hm
              split at hm
              · rename_i d hdst
                split at hm
                · rename_i hd
                  cases hm
                  have hdl : d < ρ.length := by rw [hI1.nb]; exact (List.getElem?_eq_some_iff.1 hd).1
                  have hA := hI1.alloc hsc hd hD (hc d)
                  rw [← hput1] at hn0
                  refine wp_value hrun (hn0 _ _ _ _ (hA.put (fun _ => ?_) _) hem ?_ (Adv.same _ _ _ _ _ _))
                  · simp only [SV.den, V1.den, A.den]
                    rw [getD_set, if_pos ⟨rfl, hdl⟩]
                  · intro j y hok hj
                    rw [St.at_put]
                    replace hj := hat1 j y hok hj
                    obtain ⟨x, hx, rfl⟩ := St.of_at hj
                    have hdj : d ≠ j := fun e => by subst e; rw [hd] at hx; cases hx
                    have e1 := St.at_ext (ρ := ρ) hsc hI1.nv (ρ.set d w.heap.size) (fun k hk => by
                      rw [getD_set, if_neg]
                      rintro ⟨rfl, _⟩
                      obtain ⟨b, hb⟩ := Bl.has_iff.1 hk
                      rw [hd] at hb; cases hb) [] j
                    rw [List.append_nil, hj] at e1
                    rw [← e1]
                    unfold St.at
                    simp only [List.getElem?_set_ne hdj]
                · cases hm
              · cases hm
            split at he
            ·
              rename_i t ho
              split at he
              · rename_i z hz
                split at he
                · rename_i x hx
                  split at he
                  · cases he
                  · rename_i hD
                    cases hi : P.info? t with
                    | none => simp [hi] at hz
                    | some i =>
                      simp only [hi, Option.bind_some] at hz
                      have hcells : ∀ ρ', z.cells = (x.atoms.map (A.den ρ' E)).toArray := by
                        intro ρ'
                        unfold toV1 at hx
                        split at hx
                        · rename_i cs
                          split at hx
                          · cases hx
                            simp [V1.atoms, Value.cells, Function.comp_def, A.den]
                          · cases hx
                        · cases hx
                        · rename_i h1 h2
                          cases hx
                          cases z <;> first | rfl | exact absurd rfl (h1 _) | exact absurd rfl (h2 _)
                      simp only [Bool.or_eq_true, Bool.not_eq_true', not_or, Bool.not_eq_true, Bool.not_eq_false] at hD
                      obtain ⟨hD, hsc1⟩ := hD
                      have hclr : Inv D w0 (st.clr okS o.dst) ρ E u a w ∧ (∀ j y, okS j = false → st.at ρ E j = some y → (st.clr okS o.dst).at ρ E j = some y) ∧ ({ st.clr okS o.dst with blocks := bl : St }).put o.dst s = ({ st with blocks := bl : St }).put o.dst s := by
                        unfold St.clr
                        split
                        · rename_i d hdst
                          rw [hdst]
                          split
                          · rename_i hc
                            simp only [Bool.and_eq_true] at hc
                            exact ⟨hI.drop d, fun j y hok hj => by rw [St.at_drop (fun e => by subst e; rw [hc.1.2] at hok; cases hok)]; exact hj, St.put_drop _ _ _ _⟩
                          · exact ⟨hI, fun _ _ _ h => h, rfl⟩
                        · exact ⟨hI, fun _ _ _ h => h, rfl⟩
                      refine new hclr.1 hsc1 hclr.2.1 hclr.2.2 hD he (fun d => hcells _) ?_
                      simp [execOp, ho, Instr.alloc, zeroValue, typeInfo, hi, hz, newVar, newRow]
                · cases he
              · cases he
            ·
              rename_i t x ho
              split at he
              · rename_i y hx
                split at he
                · cases he
                · rename_i hD
                  simp only [Bool.or_eq_true, Bool.not_eq_true', not_or, Bool.not_eq_true, Bool.not_eq_false] at hD
                  have hgt : g = true ∧ ∃ d, o.dst = some d ∧ st.blocks[d]? = some none := by
                    unfold mkBl at he
                    split at he
                    · rename_i d hd
                      split at he
                      · rename_i hdb; cases he; exact ⟨rfl, d, hd, hdb⟩
                      · cases he
                    · cases he
                  have hsc : st.sc = true := by simpa [hgt.1] using hg
                  have hya : y.atoms.all (A.sc E.length st.blocks) = true := by
                    rw [hI.nv]
                    cases x with
                    | tmp t => have := St.sc_tmps hsc t; simp only [St.ev] at hx; rw [hx] at this; exact this
                    | const v =>
                      cases v <;> simp only [St.ev, SV.v.injEq] at hx <;> first | (cases hx; done) | (subst hx; simp [V1.atoms, A.sc])
                    | global g => simp only [St.ev, SV.v.injEq] at hx; subst hx; simp [V1.atoms, A.sc]
                    | func f => simp only [St.ev, SV.v.injEq] at hx; subst hx; simp [V1.atoms, A.sc]
                  obtain ⟨_, d0, hd0, hdb⟩ := hgt
                  have hρ : ∀ k, st.blocks.has k = true → (ρ.set d0 w.heap.size).getD k 0 = ρ.getD k 0 := by
                    intro k hk
                    rw [getD_set, if_neg]
                    rintro ⟨rfl, _⟩
                    obtain ⟨b, hb⟩ := Bl.has_iff.1 hk
                    rw [hdb] at hb; cases hb
                  have hcells : (y.den ρ E).cells = (y.atoms.map (A.den (ρ.set d0 w.heap.size) E)).toArray := by
                    rw [V1.den_cells hI.plain hD.2]
                    have := den_list_ext (e := []) hya hρ
                    rw [List.append_nil] at this; rw [this]
                  unfold mkBl at he
                  simp only [hd0, hdb] at he
                  cases he
                  have hA := hI.alloc hsc hdb hD.1 hcells
                  have hdl : d0 < ρ.length := by rw [hI.nb]; exact (List.getElem?_eq_some_iff.1 hdb).1
                  refine wp_value (v := .pointer (some ⟨w.heap.size, 0, none⟩)) (w' := w.alloc (.cells (y.den ρ E).cells t)) ?_ (hn0 _ _ _ _ (hA.put (fun _ => ?_) _) hem ?_ (Adv.same _ _ _ _ _ _))
                  · simp [execOp, ho, Instr.box, hI.ev_v hx, newVar, newRow]
                  · simp only [SV.den, V1.den, A.den]
                    rw [getD_set, if_pos ⟨rfl, hdl⟩]
                  · intro j y' _ hj
                    rw [St.at_put]
                    obtain ⟨x', hx', rfl⟩ := St.of_at hj
                    have hdj : d0 ≠ j := fun e => by subst e; rw [hdb] at hx'; cases hx'
                    have e1 := St.at_ext hsc hI.nv (ρ.set d0 w.heap.size) hρ [] j
                    rw [List.append_nil, hj] at e1
                    rw [← e1]
                    unfold St.at
                    simp only [List.getElem?_set_ne hdj]
              · cases he
            ·
              rename_i t x y ho
              split at he
              · rename_i j off z i hx hy hi
                split at he
                · rename_i b hb
                  split at he
                  · rename_i hc
                    cases he
                    simp only [Bool.and_eq_true, decide_eq_true_eq] at hc
                    obtain ⟨⟨⟨hok, hsz⟩, hfit⟩, hfi⟩ := hc
                    have hat := St.at_of (ρ := ρ) (E := E) hb
                    obtain ⟨h1, h2, h3⟩ := hI.blk j _ _ _ hat
                    have hcells := V1.den_cells (ρ := ρ) hI.plain hfi
                    have hrun := run_storeCells_at P (ρ.getD j 0) off b.2 (z.atoms.map (A.den ρ E)) 0 _ w h1 (by simp; omega) (fun v hv => by
                      obtain ⟨q, hq, rfl⟩ := List.mem_map.1 hv
                      exact A.den_fine hI.plain (List.all_eq_true.1 hfi q hq))
                    have hS := hI.store hb (b.1.take off ++ z.atoms ++ b.1.drop (off + z.atoms.length)) rfl
                    have hev := hI.ev_v hx
                    simp only [V1.den, A.den] at hev
                    have hw : (execOp a.eval o).run P w = .ok .skip (w.setRow (ρ.getD j 0) ((b.1.take off ++ z.atoms ++ b.1.drop (off + z.atoms.length)).map (A.den ρ E)).toArray) := by
                      generalize ρ.getD j 0 = B at hev hrun ⊢
                      have e2 : (List.map (A.den ρ E) z.atoms).length = i.size := by simp [hsz]
                      simp only [Nat.add_zero, ← List.map_take, ← List.map_drop, ← List.map_append, List.length_map] at hrun
                      simp [execOp, ho, Instr.storeAt, hev, Instr.sureAddr, storeVar, Go.sizeOf, typeInfo, hi, hI.ev_v hy, hcells, hsz, hrun]
                    unfold Oper.wp
                    rw [hw]
                    refine hn0 _ _ _ _ (hS.put (fun _ => rfl) _) hem ?_ (Adv.same _ _ _ _ _ _)
                    intro k y' hk hj
                    rw [St.at_put]
                    unfold St.at at hj ⊢
                    have hne : j ≠ k := fun e => by subst e; rw [hok] at hk; cases hk
                    simp only [List.getElem?_set_ne hne]; exact hj
                  · cases he
                · cases he
              · cases he
            ·
              split at he
              · cases he
              · split at he
                · split at he
                  · cases he
                  · split at he <;> cases he
                · cases he
            · cases he
        · rename_i f ar sh he
          split at h
          · rename_i hsc
            cases h
            unfold eff at he
            have nomk : ∀ {st1 : St} {l : List A} {t : TypeId}, mkBl st1 o.dst l t ≠ some (.cl f ar sh) := by
              intro st1 l t hm
              unfold mkBl at hm
              split at hm
              · split at hm <;> cases hm
              · cases hm
            split at he
            · split at he
              · split at he
                · split at he
                  · cases he
                  · exact absurd he nomk
                · cases he
              · cases he
            · split at he
              · split at he
                · cases he
                · exact absurd he nomk
              · cases he
            · split at he
              · split at he
                · split at he <;> cases he
                · cases he
              · cases he
            · rename_i x' args ts ho
              split at he
              · cases he
              rename_i f' hcal
              split at he
              · rename_i ar' fn has hf
                split at he
                · cases he
                · rename_i hb
                  split at he
                  · rename_i sh' hsh
                    cases he
                    simp only [Bool.or_eq_true, not_or, Bool.not_eq_true] at hb
                    have hb1 : ¬ fn.name = "runtime.NumGoroutine" := by simpa using hb.1
                    have hb2 : ¬ fn.body = none := fun e => by simp [e] at hb
                    have hev : a.eval x' = .func (.func f) #[] #[] := by
                      unfold calleeOf at hcal
                      split at hcal
                      · rename_i hx'; cases hcal; exact hI.ev_v hx'
                      · cases hcal
                    have hw : (execOp a.eval o).run P w = .ok (.enter f (ar.map (V1.den [] E)).toArray) w := by
                      have e1 : args.map a.eval = (ar.map (V1.den [] E)).toArray := by
                        rw [← hI.args has, ← Array.toList_map, Array.toArray_toList]
                      simp [execOp, ho, resolve, hev, Deferred.ofValue, invoke, callFunc, hf, hb1, hb2, e1]
                    unfold Oper.wp
                    rw [hw]
                    show Calls _ _ _ _ _
                    refine (hem w hI.ext hI.below).mono ?_
                    rintro e w2 ⟨cs, rfl, hpl, hbel, hC⟩
                    refine hn _ _ _ _ _ (((hI.called hbel).more hsc (fun v hv => List.all_eq_true.1 hpl v hv)).put (fun _ => ?_) _) hC ?_ ?_ (fun _ => hI.ext.more hbel) (fun _ hc => absurd hc (by simp [isCall, ho]))
                    · rw [← hI.nv, mkSV_den]
                    · exact Stab.more hI hsc _ _ _
                    · exact Adv.more _ _ _ ((hI.ext.below hbel).ext.weak hZ) _ _ _ _
                  · cases he
              · cases he
            · cases he
          · cases h
        · split at h
          · cases h
          · rename_i hnx
            split at h
            · rename_i op xs sh hp
              split at h
              · rename_i ar has
                split at h
                · rename_i hsc
                  cases h
                  obtain ⟨cs, w2, hr, h1, hch, hbl, hC⟩ := hem w hI.ext hI.below
                  have hw : (execOp a.eval o).run P w = .ok (outX sh cs) w2 := by rw [wm_ok hp a, hI.args has]; exact hr
                  have hI2 := (hI.chg hch hbl).more hsc (cs := cs) (fun v hv => List.all_eq_true.1 h1 v hv)
                  have hA : ∀ dst s, Adv Z st ρ E u ({ st with nv := st.nv + 1 : St }.put dst s) ρ (E ++ [cs]) (u.more w w2) := fun dst s => Adv.more _ _ _ ((hI.ext.ext.weak hZ).trans hch.ext) _ _ _ _
                  cases sh with
                  | none =>
                    unfold Oper.wp
                    rw [hw]
                    exact hn _ _ _ _ _ (hI2.put (fun _ => rfl) _) hC (Stab.more hI hsc _ _ _) (hA _ _) (fun e => absurd e hnx) (fun e _ => absurd e hnx)
                  | some s =>
                    refine wp_value hw (hn _ _ _ _ _ (hI2.put (fun _ => ?_) _) hC (Stab.more hI hsc _ _ _) (hA _ _) (fun e => absurd e hnx) (fun e _ => absurd e hnx))
                    simp only [wxSV, SV.den, ← hI.nv]; exact (v1of_den E cs 0 s).symm
                · cases h
              · cases h
            · cases h
end step
end Cin
