/- From contracts over entries to laws: arguments as they come. -/
import Derived.Test.YtkekgmdofgkbcaaGreatDoorYy
namespace Go.Proofs.YtkekgmdofgkbcaaGreatDoor
open Go.RowKit Cin
theorem told_v {w0 : W0} {v : Value} {e : Ending} {w' : World} (h : TellsA w0 [none] (fun _ => [.ro false (pV v)]) e w') : e = .returned v ∧ Below w0.w.heap.size w0.w w' := by
  obtain ⟨cs, os, γ, rfl, _, ⟨c1, c2, o1, o2, rfl, _, ⟨h1, _⟩, h2⟩, hb⟩ := h
  obtain ⟨rfl, _⟩ := h1
  rw [h2.1]
  exact ⟨rfl, hb⟩
def at0 (W : World) : W0 := ⟨W, W.heap.size, Nat.le_refl _, fun _ => False, fun _ h => h.elim⟩
theorem rows_arg {W : World} {v : Value} {r : Rty} {xs : List (List Value)} {rows : List (List Pd)} (hn : 0 < r.n) (h : RowR r.n W v xs) (hl : rows.length = xs.length) (hr : ∀ (i : Nat) (x : List Value) (row : List Pd), xs[i]? = some x → rows[i]? = some row → r.Fit row ∧ RL ⟨W.heap.size, some W.heap.size, fun _ => False⟩ W row x) :
    RL ⟨W.heap.size, some W.heap.size, fun _ => False⟩ W [pRows r rows] [v] := by
  refine ⟨[v], [], by simp, ⟨fun row hm => ?_, ?_⟩, rfl⟩
  · obtain ⟨i, hi, rfl⟩ := List.getElem_of_mem hm
    exact (hr i xs[i] _ (List.getElem?_eq_getElem (by omega)) (List.getElem?_eq_getElem hi)).1
  · rcases h.2 with ⟨ad, cap, rfl, hc, rfl⟩ | ⟨b, o, cap, rfl, hb, hm, hat⟩
    · exact .inl ⟨ad, cap, rfl, hc, List.eq_nil_of_length_eq_zero hl⟩
    · cases hx : xs with
      | nil => subst hx; exact .inl ⟨_, cap, rfl, fun h => (by cases h), List.eq_nil_of_length_eq_zero hl⟩
      | cons x0 xr =>
        rw [← hx]
        obtain ⟨c, t, f, ho⟩ : ∃ c t f, W.heap[b]? = some (Obj.cells c t f) := by
          have h0 := hat 0 x0 (by rw [hx]; rfl)
          have hl0 := h.1 x0 (by rw [hx]; simp)
          have hc := h0 0 (x0[0]'(by omega)) (List.getElem?_eq_getElem (by omega))
          unfold World.cell? at hc
          split at hc
          · rename_i c t f ho; exact ⟨c, t, f, ho⟩
          · cases hc
        refine .inr ⟨b, o, cap, c, t, f, by rw [hl], ho, ⟨.inl hb, fun B hB => by cases hB; exact hb⟩, by rw [hl]; exact hm, fun i row hi => ?_⟩
        have hlt := (List.getElem?_eq_some_iff.1 hi).1
        have hxi := List.getElem?_eq_getElem (l := xs) (i := i) (by omega)
        refine ⟨xs[i]'(by omega), h.1 _ (List.getElem_mem _), (hr i _ row hxi hi).2, fun j y hy => ?_⟩
        have := hat i _ hxi j y hy
        simpa [World.cell?, ho] using this
theorem pairs_arg {W : World} {v : Value} {ts : List (ByteArray × ByteArray)} (h : RowR 2 W v (pairRows ts)) : RL ⟨W.heap.size, some W.heap.size, fun _ => False⟩ W [pTexts ts] [v] :=
  rows_arg (r := pairR) (rows := rowsT ts) (by decide) h (by simp [pairRows]) (fun i x row hx hr => by
    simp only [pairRows, List.getElem?_map] at hx hr
    cases hi : ts[i]? with
    | none => rw [hi] at hx; cases hx
    | some t =>
      rw [hi] at hx hr
      cases hx
      cases hr
      exact ⟨fit_of rfl, ⟨[.string t.1], [.string t.2], rfl, ⟨rfl, rfl⟩, [.string t.2], [], rfl, ⟨rfl, rfl⟩, rfl⟩⟩)
theorem fits_of {ts : List (ByteArray × ByteArray)} (h : ∀ p ∈ ts, p.1.size ≤ maxLen ∧ p.2.size ≤ maxLen) : Fits ts := fun t ht => ⟨len_le (h t ht).1, len_le (h t ht).2⟩
theorem rowR_len {n : Nat} {W : World} {v : Value} {ts : List (ByteArray × ByteArray)} (h : RowR n W v (pairRows ts)) : ts.length ≤ 9223372036854775807 := by
  obtain ⟨_, _, _, hm, _⟩ := h.shape
  simp only [pairRows, List.length_map, maxLen] at hm
  omega
theorem law_pairs {J : Jd} {f : FuncId} {W : World} {v : Value} {ts : List (ByteArray × ByteArray)} (hc : Ct Tryz.prog J f [none] [[pTexts ts]] [none] (fun _ => [.ro false (pV (.bool true))])) (hT : J.J W) (h : RowR 2 W v (pairRows ts)) :
    Calls Tryz.prog f #[v] W fun e w' => e = .returned (.bool true) ∧ Below W.heap.size W w' :=
  (hc (at0 W) [[v]] hT ⟨[v], [], rfl, rfl, pairs_arg h, rfl⟩).mono fun _ _ h => told_v h
theorem boxTells_any (ts : List (ByteArray × ByteArray)) (v : Value) (W : World) (hT : TabsP W) (h : RowR 2 W v (pairRows ts)) (hf : ∀ p ∈ ts, p.1.size ≤ maxLen ∧ p.2.size ≤ maxLen) : Calls Tryz.prog 3 #[v] W fun e w' => e = .returned (.bool true) ∧ Below W.heap.size W w' :=
  law_pairs (boxTells_ct ts (fits_of hf) (rowR_len h)) hT h
theorem boxWidest_any (ts : List (ByteArray × ByteArray)) (v : Value) (W : World) (hT : Tabs W) (h : RowR 2 W v (pairRows ts)) (hf : ∀ p ∈ ts, p.1.size ≤ maxLen ∧ p.2.size ≤ maxLen) : Calls Tryz.prog 8 #[v] W fun e w' => e = .returned (.bool true) ∧ Below W.heap.size W w' :=
  law_pairs (boxWidest_ct ts (fits_of hf) (rowR_len h)) hT h
end Go.Proofs.YtkekgmdofgkbcaaGreatDoor
