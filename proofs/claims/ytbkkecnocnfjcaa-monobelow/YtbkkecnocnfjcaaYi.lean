/- Rules: slices grown; loops that write. No program. -/
import Derived.Test.YtbkkecnocnfjcaaYh
import Derived.Laws.StructEq
import Derived.ChangeKeysEq
import Derived.ChangeSame
import Derived.WideShapes
import Derived.Laws.IdiomArrays
import Derived.Test.YtbkkecnocnfjcaaChecked
import Derived.KernelRfl
namespace Cin
open Go Go.RowKit
theorem RowsAt.cells {l : Lm} {r : Rty} {w : World} {c : Array Value} {o : Nat} {rows : List (List Pd)} (h : RowsAt r l w c o rows) :
    ∃ xs : List (List Value), xs.length = rows.length ∧ (∀ (i : Nat) (row : List Pd) (x : List Value), rows[i]? = some row → xs[i]? = some x → x.length = r.n ∧ RL l w row x) ∧ ∀ (k : Nat) (y : Value), xs.flatten[k]? = some y → c[o + k]? = some y := by
  have hx : ∀ i, ∃ x : List Value, ∀ row, rows[i]? = some row → x.length = r.n ∧ RL l w row x ∧ ∀ (j : Nat) (y : Value), x[j]? = some y → c[o + i * r.n + j]? = some y := by
    intro i
    cases hi : rows[i]? with
    | none => exact ⟨[], fun row h => by cases h⟩
    | some row =>
      obtain ⟨x, h1, h2, h3⟩ := h i row hi
      exact ⟨x, fun row' e => by cases e; exact ⟨h1, h2, h3⟩⟩
  obtain ⟨F, hF⟩ : ∃ F : Nat → List Value, ∀ (i : Nat) (row : List Pd), rows[i]? = some row → (F i).length = r.n ∧ RL l w row (F i) ∧ ∀ (j : Nat) (y : Value), (F i)[j]? = some y → c[o + i * r.n + j]? = some y := ⟨fun i => Classical.choose (hx i), fun i => Classical.choose_spec (hx i)⟩
  refine ⟨(List.range rows.length).map F, by simp, ?_, ?_⟩
  · intro i row x hi hxi
    have hlt := (List.getElem?_eq_some_iff.1 hi).1
    simp only [List.getElem?_map, List.getElem?_range hlt, Option.map_some, Option.some.injEq] at hxi
    subst hxi
    obtain ⟨h1, h2, _⟩ := hF i row hi
    exact ⟨h1, h2⟩
  · intro k y hk
    have hall : ∀ x ∈ (List.range rows.length).map F, x.length = r.n := by
      intro x hm
      obtain ⟨i, hi, rfl⟩ := List.mem_map.1 hm
      have hlt : i < rows.length := by simpa using hi
      exact (hF i rows[i] (List.getElem?_eq_getElem hlt)).1
    have hfl := flat_len hall
    rw [List.length_map, List.length_range] at hfl
    have hkl := (List.getElem?_eq_some_iff.1 hk).1
    rw [hfl] at hkl
    have hn : 0 < r.n := by rcases Nat.eq_zero_or_pos r.n with h | h; rw [h] at hkl; omega; exact h
    have hi : k / r.n < rows.length := (Nat.div_lt_iff_lt_mul hn).2 hkl
    have hj : k % r.n < r.n := Nat.mod_lt _ hn
    obtain ⟨h1, _, h3⟩ := hF (k / r.n) rows[k / r.n] (List.getElem?_eq_getElem hi)
    have hkk : k / r.n * r.n + k % r.n = k := by rw [Nat.mul_comm]; exact Nat.div_add_mod k r.n
    have e1 := flat_at (n := r.n) (xs := (List.range rows.length).map F) (i := k / r.n) (j := k % r.n) (x := F (k / r.n)) (y := (F (k / r.n))[k % r.n]'(by omega)) hall (by simp [hi]) (List.getElem?_eq_getElem (by omega))
    have e2 := h3 (k % r.n) _ (List.getElem?_eq_getElem (by omega))
    rw [hkk] at e1
    rw [Nat.add_assoc, hkk] at e2
    rw [e1] at hk
    cases hk
    exact e2
theorem append_core {P : Program} {B : Bd} {g : Nat} {r : Rty} {rows rows' : List (List Pd)} {w : World} {v v2 : Value} {os : List Nat} {T ty : TypeId} (h : OwnR B g r rows w [v] os) (h2 : RowsR r rows' B.nn w [v2]) (hT : slTb P T r = true) (hz : ∃ zs, zeroC P r.t = some zs ∧ zs.length = r.n) (hn0 : 1 ≤ r.n)
    (hby : (P.info? r.t).map (fun i => Nat.ble i.bytes 65536) = some true) (hlen : rows.length + rows'.length ≤ 1000000) (hB : B.b ≤ w.heap.size) (hself : r.nu.contains r.t = false ∧ r.sl.contains r.t = false) :
    ∃ (v' : Value) (w' : World) (g' : Nat) (os' : List Nat), (Builtin.append_ #[T, T] ty #[v, v2]).run P w = .ok v' w' ∧ w.grownBy w' v.ownBlock ∧ (∀ S' : Nat → Prop, (∀ b, B.S b → S' b) → (∀ x, w.heap.size ≤ x → x < w'.heap.size → S' x) → OwnR (B.sh S') g' r (rows ++ rows') w' [v'] os') ∧ (∀ x : Nat, x ∈ os' → x ∈ os ∨ w.heap.size ≤ x) ∧ os'.Nodup ∧ (∀ b : Nat, v.ownBlock = some b → b ∈ os ∧ ∃ c, w.heap[b]? = some (Obj.cells c r.t (0, 0))) := by
  obtain ⟨hu, ie, hie, hsz⟩ := slT_of hT
  obtain ⟨zs, hzc, hzl⟩ := hz
  obtain ⟨ie', z, hie', hz, hzs⟩ := zeroC_of hzc
  rw [hie] at hie' hby
  cases hie'
  have hbytes : ie.bytes ≤ 65536 := by
    simp only [Option.map_some, Option.some.injEq] at hby
    exact Nat.le_of_ble_eq_true hby
  obtain ⟨v0, xs, e0, hown, hxl, hxr, hbk⟩ := h.owns
  cases e0
  have hob : ∀ b : Nat, v.ownBlock = some b → b ∈ os ∧ ∃ c, w.heap[b]? = some (Obj.cells c r.t (0, 0)) := by
    intro b hb
    rcases hbk with ⟨e, ho, _, c, hc⟩ | ⟨e, _⟩
    · rw [hb] at e; cases e; exact ⟨by rw [ho]; simp, c, hc⟩
    · rw [hb] at e; cases e
  have hobS : ∀ b : Nat, v.ownBlock = some b → B.S b := by
    intro b hb
    rcases hbk with ⟨e, ho, hs, c, hc⟩ | ⟨e, _⟩
    · rw [hb] at e; cases e; exact hs
    · rw [hb] at e; cases e
  have hge : ∀ b, b ∈ os → B.b ≤ b := fun b hb => ((show RepV B w (.own g r rows) [v] os from h).ge b hb).1
  obtain ⟨ys, hyl, hyr, hyc⟩ : ∃ ys : List (List Value), ys.length = rows'.length ∧ (∀ (i : Nat) (row : List Pd) (x : List Value), rows'[i]? = some row → ys[i]? = some x → x.length = r.n ∧ RL B.nn w row x) ∧
      ((v2 = .slice none 0 0 ∧ ys = []) ∨ ∃ a m c, v2 = .slice (some a) m c ∧ m = rows'.length ∧ ∀ (k : Nat) (y : Value), ys.flatten[k]? = some y → w.cell? (a.add k) = some y) := by
    rcases h2.2 with ⟨ad, cap, e, hc, h0⟩ | ⟨b, o, cap, c, tt, f, e, hb, _, hm, hat⟩
    · injection e with e
      subst e h0
      cases ad with
      | none => exact ⟨[], rfl, fun i row x h => by simp at h, .inl ⟨by rw [hc rfl], rfl⟩⟩
      | some a => exact ⟨[], rfl, fun i row x h => by simp at h, .inr ⟨a, 0, cap, rfl, rfl, fun k y h => by simp at h⟩⟩
    · injection e with e
      subst e
      obtain ⟨ys, k1, k2, k3⟩ := hat.cells
      refine ⟨ys, k1, k2, .inr ⟨_, _, _, rfl, rfl, fun k y hk => ?_⟩⟩
      rw [Addr.add_mid]
      simp [World.cell?, hb, k3 k y hk]
  have hyall : ∀ x ∈ ys, x.length = r.n := by
    intro x hx
    obtain ⟨i, hi, rfl⟩ := List.getElem_of_mem hx
    exact (hyr i rows'[i] _ (List.getElem?_eq_getElem (by omega)) (List.getElem?_eq_getElem hi)).1
  have hfl := flat_len hyall
  have hone : ∀ y ∈ ys.flatten, y.oneCell' = true := by
    intro y hy
    obtain ⟨x, hx, hy⟩ := List.mem_flatten.1 hy
    obtain ⟨i, hi, rfl⟩ := List.getElem_of_mem hx
    exact List.all_eq_true.1 (hyr i rows'[i] _ (List.getElem?_eq_getElem (by omega)) (List.getElem?_eq_getElem hi)).2.one y hy
  have key : ∃ v' w', (Builtin.append_ #[T, T] ty #[v, v2]).run P w = .ok v' w' ∧ w'.ownsRow B.b r.t r.n v' (rows.length + rows'.length) (xs ++ ys).flatten ∧ w.grownBy w' v.ownBlock ∧ (v'.ownBlock = v.ownBlock ∨ v'.ownBlock = some w.heap.size) := by
    rcases hyc with ⟨rfl, rfl⟩ | ⟨a, m, c, rfl, rfl, hcell⟩
    · have hr0 : rows'.length = 0 := by rw [← hyl]; rfl
      refine ⟨v, w, run_append_owned_none (P := P) (w := w) B.b T ty r.t ie r.n hu hie v rows.length xs.flatten hown, ?_, ⟨rfl, rfl, rfl, Nat.le_refl _, fun _ _ _ => rfl⟩, .inl rfl⟩
      rw [hr0, Nat.add_zero, List.append_nil]; exact hown
    · obtain ⟨v', w', k1, k2, k3, _, k5⟩ := run_append_own_at (P := P) (w := w) B.b T ty r.t ie z r.n ie.bytes hu hie hz hsz rfl (by rw [← Array.length_toList, hzs, hzl]) (by omega) v rows.length xs.flatten hown a rows'.length c ys.flatten (by rw [hfl, hyl]) hcell hone (by simp only [maxLen]; omega)
        (by have := Nat.mul_le_mul hlen hbytes; omega) hB
      exact ⟨v', w', k1, by rw [List.flatten_append]; exact k2, k3, k5⟩
  obtain ⟨v', w', hrun, hown', hgr, hbb⟩ := key
  have hkeep : ∀ {S' : Nat → Prop} {row : List Pd} {x : List Value}, (∀ b, B.S b → S' b) → r.Fit row → RL B.nn w row x → RL (B.sh S').nn w' row x := fun hS hf hx => RL.mono hS ⟨hgr.size, fun b o hb hc => by
    rcases hc with ⟨c, t, f, rfl, hc⟩ | hlt | ⟨_, h, _⟩
    · rw [hgr.block b (Array.getElem?_eq_some_iff.1 hb).1 (fun e => ?_)]; exact hb
      obtain ⟨_, c', hc'⟩ := hob b e.symm
      rw [hb] at hc'
      cases hc'
      rcases hc with hc | ⟨_, _, hc⟩
      · rw [hself.1] at hc; cases hc
      · rw [hself.2] at hc; cases hc
    · rw [hgr.block b (Array.getElem?_eq_some_iff.1 hb).1 (fun e => ?_)]; exact hb
      have h1 := hge b (hob b e.symm).1
      have h2 : b < B.b0 := hlt
      have := B.le; omega
    · cases h⟩ hf hx
  have hfit : ∀ row ∈ rows ++ rows', r.Fit row := fun row hm => (List.mem_append.1 hm).elim (h.1 row) (h2.1 row)
  have hrows : ∀ {S' : Nat → Prop}, (∀ b, B.S b → S' b) → ∀ (i : Nat) (row : List Pd) (x : List Value), (rows ++ rows')[i]? = some row → (xs ++ ys)[i]? = some x → x.length = r.n ∧ RL (B.sh S').nn w' row x := by
    intro S' hS i row x hi hx
    have hf := hfit row (List.mem_of_getElem? hi)
    by_cases hlt : i < rows.length
    · rw [List.getElem?_append_left hlt] at hi
      rw [List.getElem?_append_left (by omega)] at hx
      exact ⟨(hxr i row x hi hx).1, hkeep hS hf (hxr i row x hi hx).2⟩
    · rw [List.getElem?_append_right (by omega)] at hi
      rw [List.getElem?_append_right (by omega), hxl] at hx
      exact ⟨(hyr _ row x hi hx).1, hkeep hS hf (hyr _ row x hi hx).2⟩
  rcases hown'.2 with ⟨e, h0⟩ | ⟨gg, cap, cur, e, hBg, hg, i1, i2, i3, i4⟩
  · have hnil : rows ++ rows' = [] := List.eq_nil_of_length_eq_zero (by rw [List.length_append]; exact h0)
    exact ⟨v', w', 0, [], hrun, hgr, fun _ _ _ => ⟨hfit, .inl ⟨by rw [e], hnil, rfl⟩⟩, fun x hx => (by cases hx), List.nodup_nil, hob⟩
  · have hgg : v.ownBlock = some gg ∨ gg = w.heap.size := by
      rw [e] at hbb
      simp only [Value.ownBlock] at hbb
      rcases hbb with hbb | hbb
      · exact .inl hbb.symm
      · injection hbb with hbb; exact .inr hbb
    refine ⟨v', w', gg, [gg], hrun, hgr, fun S' hS hN => ⟨hfit, .inr ⟨cap, cur, by rw [e, List.length_append], rfl, ⟨hBg, hgg.elim (fun h => hS _ (hobS _ h)) (fun h => hN _ (by omega) (lt_of_heap hg))⟩, hg, by rw [List.length_append]; exact i1, i2, i3, rowsAt_of (by simp [hxl, hyl]) (hrows hS) (by rw [List.length_append]; exact i4)⟩⟩, fun x hx => ?_, by simp, hob⟩
    simp only [List.mem_singleton] at hx
    subst hx
    rcases hgg with h | h
    · exact .inl (hob _ h).1
    · exact .inr (by omega)
theorem RepV.sh {B : Bd} {w : World} {a : AV} {cs : List Value} {os : List Nat} (h : RepV B w a cs os) : ∀ g ∈ os, B.S g := by
  cases a with
  | ro old p => rw [h.2]; intro g hg; cases hg
  | own g r rows =>
    rcases h.2 with ⟨_, _, rfl⟩ | ⟨_, _, _, rfl, h1, _⟩
    · intro g hg; cases hg
    · intro g hg; simp at hg; subst hg; exact h1.2
  | var g r row => obtain ⟨_, _, rfl, h1, _⟩ := h; intro g hg; simp at hg; subst hg; exact h1.2
  | junk n => rw [h.2.2]; intro g hg; cases hg
section rules
variable {P : Program} {J : Jd} {w0 : W0} {D : TypeId → Bool} {Post : Ending → World → Prop} {K : LK} {Γ : List (List AV)} {k : Tr}
theorem junkL_rep {B : Bd} {w : World} {E : Env} : ∀ {js : List (Nat × Nat)} {Γ : List (List AV)} {os : List Nat}, RepE B w Γ E os → ∃ os', RepE B w (junkL Γ js) E os' ∧ os'.Sublist os
  | [], Γ, os, h => ⟨os, h, List.Sublist.refl _⟩
  | (i, j) :: js, Γ, os, h => by
    obtain ⟨o1, h1, h2⟩ := junkAt_rep (i := i) (k := j) h
    obtain ⟨o2, h3, h4⟩ := junkL_rep (js := js) h1
    exact ⟨o2, h3, h4.trans h2⟩
theorem junkL_okE : ∀ {js : List (Nat × Nat)} {Γ : List (List AV)}, okE D Γ = true → okE D (junkL Γ js) = true
  | [], _, h => h
  | (_, _) :: js, _, h => junkL_okE (js := js) (junkAt_okE h)
theorem aAppend (js : List (Nat × Nat)) {T ty : TypeId} {i j i' j' g : Nat} {r : Rty} {rows rows' : List (List Pd)} {zs : List Value} {Γ' : Nat → List (List AV)} (hl : look Γ i j = some (.own g r rows)) (hl2 : (look Γ i' j').bind AV.pd = some (pRows r rows')) (hlen : rows.length + rows'.length ≤ 1000000) (hk : ∀ g, AW P J w0 D Post K (Γ' g) k)
    (hT : slTb P T r = true := by kernel_rfl) (hz : zeroC P r.t = some zs := by kernel_rfl) (hzn : Nat.beq zs.length r.n = true := by rfl) (hn0 : Nat.ble 1 r.n = true := by rfl) (hby : (P.info? r.t).map (fun i => Nat.ble i.bytes 65536) = some true := by kernel_rfl)
    (hD : r.nu.all D = true := by rfl) (hself : (!r.nu.contains r.t && !r.sl.contains r.t) = true := by rfl) (hs : safeE r.t (junkL Γ ((i, j) :: js)) = true := by rfl)
    (hΓ : ∀ g, junkL Γ ((i, j) :: js) ++ [[.own g r (rows ++ rows')]] = Γ' g := by intros; (simp only [junkL, junkAt, junkS, AV.n, List.cons_append, List.nil_append]) <;> exact rfl) :
    AW P J w0 D Post K Γ (.em (.wx (.call { callee := .builtin .append, args := #[.tmp 0, .tmp 1], argTypes := #[T, T] }) ty [.s (.c i j), .s (.c i' j')] (some none)) k) := by
  intro hJ L E u hL hk0 w he hbw
  have h2 := hk0.ext he hbw
  obtain ⟨_, hDE, os, hn, hr⟩ := id h2
  simp only [Bool.and_eq_true, Bool.not_eq_true'] at hself
  obtain ⟨c, o1, o, o2, eo, hv, hc, hr1⟩ := junkAt_ok hr hl
  obtain ⟨v, rfl⟩ : ∃ v, c = [v] := by
    have := RepV.len hv
    match c, this with
    | [v], _ => exact ⟨v, rfl⟩
  have hd1 : (V1.s (A.c i j)).den [] E = v := hc 0 v rfl
  obtain ⟨c2, hR2, hc2⟩ := look_pd hr hl2
  obtain ⟨ad, cap, rfl⟩ := RowsR.sh hR2
  have hd2 : (V1.s (A.c i' j')).den [] E = .slice ad rows'.length cap := hc2 0 _ rfl
  obtain ⟨v', w', g', os', hrun, hgr, hown', hos', hnd', hob⟩ := append_core (P := P) (T := T) (ty := ty) hv hR2 hT ⟨zs, hz, Nat.eq_of_beq_eq_true hzn⟩ (Nat.le_of_ble_eq_true hn0) hby hlen hbw.size hself
  have hbk : ∀ b, v.ownBlock = some b → w0.w.heap.size ≤ b := fun b hb => (hv.ge b (hob b hb).1).1
  have hbw' : Below w0.w.heap.size w0.w w' := hbw.trans ⟨hgr.os, hgr.tape, hgr.output, hgr.size, fun k hk => hgr.block k (Nat.lt_of_lt_of_le hk hbw.size) (fun e => by have := hbk k e.symm; omega)⟩
  obtain ⟨o3, hr3, hsub⟩ := junkL_rep (js := js) hr1
  have hgo : Goes w0.w.heap.size u.S (fun b => v.ownBlock = some b) D w w' := ⟨hgr.size, fun b hb => (hbw'.block b hb).trans (hbw.block b hb).symm, fun b c t f hb _ hne => by rw [hgr.block b (lt_of_heap hb) (fun e => hne e.symm)]; exact hb⟩
  have hDJ : okE D (junkL Γ ((i, j) :: js)) = true := junkL_okE hDE
  have hno : ∀ x ∈ o3, x ∉ o := fun x hx hxo => by
    have h5 := hsub.subset hx
    rw [eo] at hn
    simp only [List.nodup_append, List.mem_append] at hn
    rcases List.mem_append.1 h5 with h6 | h6
    · exact hn.1.2.2 x h6 x hxo rfl
    · exact hn.2.2 x (.inr hxo) x h6 rfl
  have hown' := hown' (u.more w w').S (fun _ h => .inl h) (fun x h1 h2 => .inr ⟨h1, h2⟩)
  have hr4 : RepE (w0.bd (u.more w w').S) w' (junkL Γ ((i, j) :: js)) E o3 := RepE.goes (B := w0.bd u.S) (S' := (u.more w w').S) hgo (fun _ h => .inl h) hr3 hDJ (fun b c t f hb hx => by
    obtain ⟨_, c', hc'⟩ := hob b hx
    rw [hb] at hc'
    cases hc'
    exact hs) (fun x hx e => hno x hx (hob x e).1)
  refine ⟨[v'], w', ?_, ?_, ⟨hgr.size, fun b c t f hb hor => ?_⟩, hbw', hk g' hJ L _ _ hL.ext ?_⟩
  · show (execOp _ _).run P w = .ok (.value v') w'
    have e : [V1.s (A.c i j), V1.s (A.c i' j')].map (V1.den [] E) = [v, .slice ad rows'.length cap] := by simp only [List.map_cons, List.map_nil, hd1, hd2]
    rw [e]
    simp only [execOp]
    simp [resolve, pe, invoke, builtin, hrun]
  · exact RepV.one (B := w0.bd (u.more w w').S) (w := w') (a := .own g' r (rows ++ rows')) hown'
  · rw [hgr.block b (lt_of_heap hb) (fun e => ?_)]; exact hb
    rcases hor with h | h
    · exact absurd ((show RepV (w0.bd u.S) w (.own g r rows) [v] o from hv).sh b (hob b e.symm).1) h.2
    · cases h
  · rw [← hΓ]
    refine ⟨⟨hbw', ShOk.more (u := ⟨w, u.S⟩) h2.1.2 (Nat.le_refl _) hgr.size h2.1.1.size⟩, ?_, o3 ++ os', ?_, RepE.snoc (B := w0.bd (u.more w w').S) hr4 (RepS.one_of hown')⟩
    · unfold okE at *; rw [List.all_append, hDJ]; simpa [AV.okD] using hD
    · refine List.nodup_append.2 ⟨?_, hnd', fun a ha b hb e => ?_⟩
      · refine hsub.nodup ?_
        rw [eo] at hn
        refine List.Nodup.sublist ?_ hn
        rw [List.append_assoc]
        exact List.Sublist.append_left (List.sublist_append_right _ _) _
      · subst e
        rcases hos' a hb with h | h
        · exact hno a ha h
        · have := (hr3.ge a ha).2; omega
def ConvS (asx bs : List AV) : Prop := ∀ B w cs os, RepS B w asx cs os → RepS B w bs cs os
theorem ConvS.nil : ConvS [] [] := fun _ _ _ _ h => h
theorem ConvS.same {a : AV} {asx bs : List AV} (h : ConvS asx bs) : ConvS (a :: asx) (a :: bs) := fun B w _ _ ⟨c1, c2, o1, o2, e, e2, h1, h2⟩ => ⟨c1, c2, o1, o2, e, e2, h1, h B w _ _ h2⟩
theorem ConvS.own {o : Bool} {g : Nat} {r : Rty} {asx bs : List AV} (h : ConvS asx bs) : ConvS (.ro o (pV (.slice none 0 0)) :: asx) (.own g r [] :: bs) := fun B w _ _ ⟨c1, c2, o1, o2, e, e2, h1, h2⟩ =>
  ⟨c1, c2, o1, o2, e, e2, ⟨fun row h => (by cases h), .inl ⟨h1.1.1, rfl, h1.2⟩⟩, h B w _ _ h2⟩
theorem ConvS.rows {o : Bool} {r : Rty} {asx bs : List AV} (h : ConvS asx bs) : ConvS (.ro o (pV (.slice none 0 0)) :: asx) (.ro o (pRows r []) :: bs) := fun B w _ _ ⟨c1, c2, o1, o2, e, e2, h1, h2⟩ =>
  ⟨c1, c2, o1, o2, e, e2, ⟨⟨fun row h => (by cases h), .inl ⟨none, 0, h1.1.1, fun _ => rfl, rfl⟩⟩, h1.2⟩, h B w _ _ h2⟩
def RowC (r : Rty) (rows rows' : List (List Pd)) : Prop := rows'.length = rows.length ∧ ∀ (i : Nat) (row row' : List Pd), rows[i]? = some row → rows'[i]? = some row' → r.Fit row → r.Fit row' ∧ ∀ l w x, RL l w row x → RL l w row' x
theorem RowC.at {r : Rty} {rows rows' : List (List Pd)} {l : Lm} {w : World} {c : Array Value} {o : Nat} (h : RowC r rows rows') (hf : ∀ row ∈ rows, r.Fit row) (ha : RowsAt r l w c o rows) : RowsAt r l w c o rows' := fun i row' hi => by
  have hlt := (List.getElem?_eq_some_iff.1 hi).1
  obtain ⟨row, hr⟩ : ∃ row, rows[i]? = some row := ⟨_, List.getElem?_eq_getElem (by rw [h.1] at hlt; exact hlt)⟩
  obtain ⟨x, h1, h2, h3⟩ := ha i row hr
  exact ⟨x, h1, (h.2 i row row' hr hi (hf row (List.mem_of_getElem? hr))).2 _ _ _ h2, h3⟩
theorem Knows.convS {Γ : List (List AV)} {asx bs : List AV} {E : Env} {u : Gh} (h : Knows w0 D (Γ ++ [asx]) E u) (hc : ConvS asx bs) (hD : bs.all (AV.okD D) = true) : Knows w0 D (Γ ++ [bs]) E u := by
  obtain ⟨hb, h1, os, hn, hr⟩ := h
  obtain ⟨E1, E2, o1, o2, rfl, rfl, h2, cs, E', o3, o4, e3, e4, h3, h4⟩ := hr.split
  refine ⟨hb, ?_, o1 ++ o2, hn, h2.app ⟨cs, E', o3, o4, e3, e4, hc _ _ _ _ h3, h4⟩⟩
  unfold okE at *
  rw [List.all_append, Bool.and_eq_true] at h1 ⊢
  exact ⟨h1.1, by simp [hD]⟩
theorem aLoopC {σ : Type} {d : Nat} {init : List A} {body : Tr} {as0 : List AV} (us : List (Nat × Nat × (σ → AV))) (I : σ → List AV) (pr : σ → Prop) (μ : σ → Nat) (s0 : σ) (hp : pr s0) {G : σ → List (List AV)} {K' : σ → LK} {Γ' : σ → List (List AV)}
    (hk : ∀ s, pr s → AW P J w0 D Post (K' s) (Γ' s) body) (_hG : ∀ s, us.foldl (fun Γ x => setAt (x.2.2 s) Γ x.1 x.2.1) Γ = G s := by intros; (simp only [List.foldl_cons, List.foldl_nil, setAt, setS]) <;> exact rfl)
    (h0 : takeL Γ init = some (as0, G s0) := by rfl) (hc : ConvS as0 (I s0) := by repeat' (first | exact ConvS.nil | refine ConvS.own ?_ | refine ConvS.rows ?_ | refine ConvS.same ?_)) (hcD : (I s0).all (AV.okD D) = true := by rfl) (hd : Nat.ble d K.length = true := by rfl)
    (hK : ∀ s, K.take d ++ [(Γ.length, fun G' avs => ∃ s', G' = G s' ∧ avs = I s' ∧ pr s' ∧ μ s' < μ s)] = K' s := by intros; (simp only [List.take_nil, List.take_zero, List.take_succ_cons, List.nil_append, List.cons_append]) <;> exact rfl)
    (hΓ : ∀ s, G s ++ [I s] = Γ' s := by intros; (simp only [List.cons_append, List.nil_append]) <;> exact rfl) :
    AW P J w0 D Post K Γ (.loop d init body) := by
  intro hJ L E u hL hk0
  obtain ⟨h1, _⟩ := takeL_ok hk0 h0
  have h1 := h1.convS hc hcD
  have hEl : E.length = Γ.length := let ⟨_, _, _, _, h⟩ := hk0; h.len
  refine ⟨fun m cs u => ∃ s, μ s = m ∧ pr s ∧ Knows w0 D (G s ++ [I s]) (E ++ [cs]) u, μ s0, ⟨s0, rfl, hp, h1⟩, ?_⟩
  rintro m cs u' _ _ _ ⟨s, rfl, hps, hks⟩
  refine hk s hps hJ _ _ u' ?_ (hΓ s ▸ hks)
  rw [← hK s]
  refine hL.upd (Nat.le_of_ble_eq_true hd) hEl.symm ?_
  rintro cs' u'' G' avs ⟨s', rfl, rfl, h2, h3⟩ h4
  exact ⟨μ s', h3, s', rfl, h2, h4⟩
end rules
end Cin

namespace Cin
open Go Go.RowKit Go.ChangeShapes Go.WideShapes
def J0 : Jd := ⟨fun _ => True, fun _ _ => trivial⟩
theorem wrapI {z : Int} (h0 : -9223372036854775808 ≤ z) (h1 : z ≤ 9223372036854775807) : IntKind.i64.wrap z = z := by
  unfold IntKind.wrap
  simp [IntKind.signed, IntKind.bits]
  omega
theorem wrapU {z : Int} (h0 : 0 ≤ z) (h1 : z ≤ 255) : IntKind.u8.wrap z = z := by
  unfold IntKind.wrap
  simp [IntKind.signed, IntKind.bits]
  omega
section prims
variable {P : Program} {t t2 ty : TypeId} {vs : List Value} {p q : Operand} {x y z : Int}
theorem qAdd (hp : pe vs p = .int .i64 x) (hq : pe vs q = .int .i64 y) (h0 : -9223372036854775808 ≤ x + y) (h1 : x + y ≤ 9223372036854775807) : PrimOk P (.binOp .add t p q t2) ty vs (.int .i64 (x + y)) := fun w => by
  simp only [execOp, hp, hq]
  simp [eqGuard, binOp, Op.intArith, wrapI h0 h1]
theorem qSub (hp : pe vs p = .int .i64 x) (hq : pe vs q = .int .i64 y) (h0 : -9223372036854775808 ≤ x - y) (h1 : x - y ≤ 9223372036854775807) : PrimOk P (.binOp .sub t p q t2) ty vs (.int .i64 (x - y)) := fun w => by
  simp only [execOp, hp, hq]
  simp [eqGuard, binOp, Op.intArith, wrapI h0 h1]
theorem qMul (hp : pe vs p = .int .i64 x) (hq : pe vs q = .int .i64 y) (h0 : -9223372036854775808 ≤ x * y) (h1 : x * y ≤ 9223372036854775807) : PrimOk P (.binOp .mul t p q t2) ty vs (.int .i64 (x * y)) := fun w => by
  simp only [execOp, hp, hq]
  simp [eqGuard, binOp, Op.intArith, wrapI h0 h1]
theorem qAddE (hp : pe vs p = .int .i64 x) (hq : pe vs q = .int .i64 y) (h : x + y = z) (h0 : -9223372036854775808 ≤ z) (h1 : z ≤ 9223372036854775807) : PrimOk P (.binOp .add t p q t2) ty vs (.int .i64 z) := by subst h; exact qAdd hp hq h0 h1
theorem qSubE (hp : pe vs p = .int .i64 x) (hq : pe vs q = .int .i64 y) (h : x - y = z) (h0 : -9223372036854775808 ≤ z) (h1 : z ≤ 9223372036854775807) : PrimOk P (.binOp .sub t p q t2) ty vs (.int .i64 z) := by subst h; exact qSub hp hq h0 h1
theorem qMulE (hp : pe vs p = .int .i64 x) (hq : pe vs q = .int .i64 y) (h : x * y = z) (h0 : -9223372036854775808 ≤ z) (h1 : z ≤ 9223372036854775807) : PrimOk P (.binOp .mul t p q t2) ty vs (.int .i64 z) := by subst h; exact qMul hp hq h0 h1
theorem qRem (hp : pe vs p = .int .i64 x) (hq : pe vs q = .int .i64 y) (hy : y ≠ 0) : PrimOk P (.binOp .rem t p q t2) ty vs (.int .i64 (x.tmod y)) := fun w => by
  simp only [execOp, hp, hq]
  simp [eqGuard, binOp, Op.intDiv, hy]
theorem qQuo (hp : pe vs p = .int .i64 x) (hq : pe vs q = .int .i64 y) (hy : y ≠ 0) (h : x.tdiv y = z) (h0 : -9223372036854775808 ≤ z) (h1 : z ≤ 9223372036854775807) : PrimOk P (.binOp .quo t p q t2) ty vs (.int .i64 z) := fun w => by
  simp only [execOp, hp, hq]
  simp [eqGuard, binOp, Op.intDiv, hy, h, wrapI h0 h1]
theorem qMin {T T' : TypeId} (hp : pe vs p = .int .i64 x) (hq : pe vs q = .int .i64 y) (h : min x y = z) : PrimOk P (.call { callee := .builtin .min, args := #[p, q], argTypes := #[T, T'] }) ty vs (.int .i64 z) := fun w => by
  have e : min x y = if y < x then y else x := by split <;> omega
  rw [← h, e]
  simp [execOp, resolve, hp, hq, invoke, builtin, Builtin.min_, Builtin.min2]
theorem qMax {T T' : TypeId} (hp : pe vs p = .int .i64 x) (hq : pe vs q = .int .i64 y) (h : max x y = z) : PrimOk P (.call { callee := .builtin .max, args := #[p, q], argTypes := #[T, T'] }) ty vs (.int .i64 z) := fun w => by
  have e : max x y = if y > x then y else x := by split <;> omega
  rw [← h, e]
  simp [execOp, resolve, hp, hq, invoke, builtin, Builtin.max_, Builtin.max2]
theorem uAdd (hp : pe vs p = .int .u8 x) (hq : pe vs q = .int .u8 y) (h : x + y = z) (h0 : 0 ≤ z) (h1 : z ≤ 255) : PrimOk P (.binOp .add t p q t2) ty vs (.int .u8 z) := fun w => by
  subst h
  simp only [execOp, hp, hq]
  simp [eqGuard, binOp, Op.intArith, wrapU h0 h1]
theorem uSub (hp : pe vs p = .int .u8 x) (hq : pe vs q = .int .u8 y) (h : x - y = z) (h0 : 0 ≤ z) (h1 : z ≤ 255) : PrimOk P (.binOp .sub t p q t2) ty vs (.int .u8 z) := fun w => by
  subst h
  simp only [execOp, hp, hq]
  simp [eqGuard, binOp, Op.intArith, wrapU h0 h1]
theorem cvU {s d : TypeId} {us : TypeDesc} (hs : P.underlying s = some us) (hd : P.underlying d = some (.int .i64)) (hp : pe vs p = .int .u8 x) (h0 : 0 ≤ x) (h1 : x ≤ 255) : PrimOk P (.convert s d p) ty vs (.int .i64 x) := fun w => by
  simp only [execOp, hp]
  simp [convert, run_underlying hs, run_underlying hd, Conv.intToInt, wrapI (z := x) (by omega) (by omega)]
end prims
abbrev M := Nat × Nat × Nat
abbrev M.ok (a : M) : Prop := a.1 ≤ 255 ∧ a.2.1 ≤ 255 ∧ a.2.2 ≤ 255
abbrev mV (a : M) : List Pd := [pV (.int .u8 (a.1 : Nat)), pV (.int .u8 (a.2.1 : Nat)), pV (.int .u8 (a.2.2 : Nat))]
def dg (a : M) : Nat := a.1 + a.2.1 + a.2.2
def vr (a : M) : Nat := if a.2.2 ≠ 0 then 3 else if a.2.1 ≠ 0 then 2 else if a.1 ≠ 0 then 1 else 0
def sgI (x y : Int) : Int := if x < y then -1 else if y < x then 1 else 0
def mc (a b : M) : Int := if sgI (dg a) (dg b) ≠ 0 then sgI (dg a) (dg b) else if sgI a.1 b.1 ≠ 0 then sgI a.1 b.1 else if sgI a.2.1 b.2.1 ≠ 0 then sgI a.2.1 b.2.1 else sgI a.2.2 b.2.2
section eqs
variable {P : Program} {w : World}
theorem run_eq3 {t e : TypeId} {i : TypeInfo} (d : Nat) (a b : M) (hu : P.underlying t = some (.array 3 e)) (he : P.underlying e = some (.int .u8)) (hi : P.info? e = some i) (hs : i.size = 1) :
    (Op.equalIn (d + 2) t (.agg #[.int .u8 (a.1 : Nat), .int .u8 (a.2.1 : Nat), .int .u8 (a.2.2 : Nat)]) (.agg #[.int .u8 (b.1 : Nat), .int .u8 (b.2.1 : Nat), .int .u8 (b.2.2 : Nat)])).run P w = .ok (decide (a = b)) w := by
  rw [run_equalIn_array w (d + 1) _ _ hu hi]
  have hc : P.cellsOf e = 1 := by simp [Program.cellsOf, hi, hs]
  have pt : ∀ (w : World) (xs : Array Value) (j : Nat) (v : Value), xs[j]? = some v → (part e xs j).run P w = .ok v w := fun w xs j v hx => by
    unfold part isAgg
    simp [run_underlying he, hx]
  obtain ⟨a0, a1, a2⟩ := a
  obtain ⟨b0, b1, b2⟩ := b
  have r3 : List.range 3 = [0, 1, 2] := rfl
  rw [r3, hc]
  have e0 : ∀ (w : World) (x y : Nat), (Op.equalIn (d + 1) e (.int .u8 (x : Int)) (.int .u8 (y : Int))).run P w = .ok (decide (x = y)) w := fun w x y => by
    rw [run_equalIn_int (P := P) w d e .u8 .u8 (x : Int) (y : Int) he]
    congr 1
    by_cases h : x = y <;> simp [h]
    omega
  have p0 := fun (w : World) (x y z : Nat) => pt w #[.int .u8 (x : Nat), .int .u8 (y : Nat), .int .u8 (z : Nat)] 0 _ rfl
  have p1 := fun (w : World) (x y z : Nat) => pt w #[.int .u8 (x : Nat), .int .u8 (y : Nat), .int .u8 (z : Nat)] 1 _ rfl
  have p2 := fun (w : World) (x y z : Nat) => pt w #[.int .u8 (x : Nat), .int .u8 (y : Nat), .int .u8 (z : Nat)] 2 _ rfl
  by_cases h0 : a0 = b0 <;> by_cases h1 : a1 = b1 <;> by_cases h2 : a2 = b2 <;> simp [h0, h1, h2, Op.eqItems, p0, p1, p2, e0]
theorem qEq3 {t e t2 ty : TypeId} {i : TypeInfo} {vs : List Value} {p q : Operand} (a b : M) (hu : P.underlying t = some (.array 3 e)) (he : P.underlying e = some (.int .u8)) (hi : P.info? e = some i) (hs : i.size = 1) (hm : P.eqGuardType P.depth t = false)
    (hp : pe vs p = .agg #[.int .u8 (a.1 : Nat), .int .u8 (a.2.1 : Nat), .int .u8 (a.2.2 : Nat)]) (hq : pe vs q = .agg #[.int .u8 (b.1 : Nat), .int .u8 (b.2.1 : Nat), .int .u8 (b.2.2 : Nat)]) : PrimOk P (.binOp .eql t p q t2) ty vs (.bool (decide (a = b))) := fun w => by
  simp only [execOp, hp, hq]
  simp only [Sem.run_bind, run_eqGuard_agg w _ _ _ _ _ _ hm, Result.andThen_ok, run_eql_struct, run_eq3 9998 a b hu he hi hs]
  simp
theorem qNe3 {t e t2 ty : TypeId} {i : TypeInfo} {vs : List Value} {p q : Operand} (a b : M) (hu : P.underlying t = some (.array 3 e)) (he : P.underlying e = some (.int .u8)) (hi : P.info? e = some i) (hs : i.size = 1) (hm : P.eqGuardType P.depth t = false)
    (hp : pe vs p = .agg #[.int .u8 (a.1 : Nat), .int .u8 (a.2.1 : Nat), .int .u8 (a.2.2 : Nat)]) (hq : pe vs q = .agg #[.int .u8 (b.1 : Nat), .int .u8 (b.2.1 : Nat), .int .u8 (b.2.2 : Nat)]) : PrimOk P (.binOp .neq t p q t2) ty vs (.bool (!decide (a = b))) := fun w => by
  simp only [execOp, hp, hq]
  simp only [Sem.run_bind, run_eqGuard_agg w _ _ _ _ _ _ hm, Result.andThen_ok, run_neq_struct, run_eq3 9998 a b hu he hi hs]
  simp
end eqs
section card
variable {H : Type} {enc : TypeId × Value → H} {P : Program} {w : World} {base : Nat} {spare : Nat → Bool} {held : Bool}
end card
end Cin

namespace Go.Proofs.Ytbkkecnocnfjcaa
open Go Go.RowKit Cin
theorem mMix : Try.prog.follows .mixedOrders = true := by kernel_rfl
abbrev DM : TypeId → Bool := fun t => t == 5
theorem uM : Try.prog.underlying 23 = some (.array 3 5) := by kernel_rfl
theorem uU : Try.prog.underlying 5 = some (.int .u8) := by kernel_rfl
theorem uI : Try.prog.underlying 3 = some (.int .i64) := by kernel_rfl
theorem iU : Try.prog.info? 5 = some (Try.prog.info? 5).get! := by kernel_rfl
theorem gM : Try.prog.eqGuardType Try.prog.depth 23 = false := by kernel_rfl
theorem nanI_ct (x : Int) : Ct Try.prog J0 23 [none] [[pV (.int .i64 x)]] [none] (fun _ => [.ro false (pV (.bool false))]) := by
  refine aCtO ⟨true, []⟩ (D := DM) mMix (tr := (.em (.pr (.binOp .neq 3 (.tmp 0) (.tmp 1) 3) 4 [.s (.c 0 0), .s (.c 0 0)]) (.ret (.v (.s (.c 1 0)))))) (by kernel_rfl) (by kernel_rfl) (by kernel_rfl) rfl (fun _ _ h => by cases h) (fun w0 => ?_)
  refine aPr rfl (prNe rfl rfl) rfl ?_
  exact aRet (fun _ => 0) rfl rfl (by simp [AV.new])
theorem nanU_ct (x : Int) : Ct Try.prog J0 24 [none] [[pV (.int .u8 x)]] [none] (fun _ => [.ro false (pV (.bool false))]) := by
  refine aCtO ⟨true, []⟩ (D := DM) mMix (tr := (.em (.pr (.binOp .neq 5 (.tmp 0) (.tmp 1) 5) 4 [.s (.c 0 0), .s (.c 0 0)]) (.ret (.v (.s (.c 1 0)))))) (by kernel_rfl) (by kernel_rfl) (by kernel_rfl) rfl (fun _ _ h => by cases h) (fun w0 => ?_)
  refine aPr rfl (prNe rfl rfl) rfl ?_
  exact aRet (fun _ => 0) rfl rfl (by simp [AV.new])
theorem cmpI_ct (x y : Int) : Ct Try.prog J0 20 [none, none] [[pV (.int .i64 x)], [pV (.int .i64 y)]] [none] (fun _ => [.ro false (pV (.int .i64 (sgI x y)))]) := by
  refine aCtO ⟨true, []⟩ (D := DM) mMix (tr := (.em (.call 23 [.s (.c 0 0)] [none]) (.em (.call 23 [.s (.c 1 0)] [none]) (.cond (.c 2 0) (.cond (.c 3 0) (.ret (.v (.s (.k (.int .i64 0))))) (.ret (.v (.s (.k (.int .i64 (Int.negSucc 0))))))) (.cond (.c 3 0) (.ret (.v (.s (.k (.int .i64 1))))) (.em (.pr (.binOp .lss 3 (.tmp 0) (.tmp 1) 3) 4 [.s (.c 0 0), .s (.c 1 0)]) (.cond (.c 4 0) (.ret (.v (.s (.k (.int .i64 (Int.negSucc 0)))))) (.em (.pr (.binOp .gtr 3 (.tmp 0) (.tmp 1) 3) 4 [.s (.c 0 0), .s (.c 1 0)]) (.cond (.c 5 0) (.ret (.v (.s (.k (.int .i64 1))))) (.ret (.v (.s (.k (.int .i64 0)))))))))))))) (by kernel_rfl) (by kernel_rfl) (by kernel_rfl) rfl (fun _ _ h => by cases h) (fun w0 => ?_)
  refine aCall rfl (nanI_ct _) (fun γ => ?_)
  refine aCall rfl (nanI_ct _) (fun γ => ?_)
  refine aFalse rfl ?_
  refine aFalse rfl ?_
  refine aPr rfl (prLt rfl rfl) rfl ?_
  refine aIf rfl (fun h => ?_) (fun h => ?_)
  · exact aRet (fun _ => 0) rfl rfl (by simp at h; simp [AV.new, sgI, h])
  refine aPr rfl (prGt rfl rfl) rfl ?_
  refine aIf rfl (fun h1 => ?_) (fun h1 => ?_)
  · exact aRet (fun _ => 0) rfl rfl (by simp at h h1; simp [AV.new, sgI, h1, Int.not_lt.2 h])
  · exact aRet (fun _ => 0) rfl rfl (by simp at h h1; simp [AV.new, sgI, Int.not_lt.2 h, Int.not_lt.2 h1])
theorem cmpU_ct (x y : Int) : Ct Try.prog J0 21 [none, none] [[pV (.int .u8 x)], [pV (.int .u8 y)]] [none] (fun _ => [.ro false (pV (.int .i64 (sgI x y)))]) := by
  refine aCtO ⟨true, []⟩ (D := DM) mMix (tr := (.em (.call 24 [.s (.c 0 0)] [none]) (.em (.call 24 [.s (.c 1 0)] [none]) (.cond (.c 2 0) (.cond (.c 3 0) (.ret (.v (.s (.k (.int .i64 0))))) (.ret (.v (.s (.k (.int .i64 (Int.negSucc 0))))))) (.cond (.c 3 0) (.ret (.v (.s (.k (.int .i64 1))))) (.em (.pr (.binOp .lss 5 (.tmp 0) (.tmp 1) 5) 4 [.s (.c 0 0), .s (.c 1 0)]) (.cond (.c 4 0) (.ret (.v (.s (.k (.int .i64 (Int.negSucc 0)))))) (.em (.pr (.binOp .gtr 5 (.tmp 0) (.tmp 1) 5) 4 [.s (.c 0 0), .s (.c 1 0)]) (.cond (.c 5 0) (.ret (.v (.s (.k (.int .i64 1))))) (.ret (.v (.s (.k (.int .i64 0)))))))))))))) (by kernel_rfl) (by kernel_rfl) (by kernel_rfl) rfl (fun _ _ h => by cases h) (fun w0 => ?_)
  refine aCall rfl (nanU_ct _) (fun γ => ?_)
  refine aCall rfl (nanU_ct _) (fun γ => ?_)
  refine aFalse rfl ?_
  refine aFalse rfl ?_
  refine aPr rfl (prLt rfl rfl) rfl ?_
  refine aIf rfl (fun h => ?_) (fun h => ?_)
  · exact aRet (fun _ => 0) rfl rfl (by simp at h; simp [AV.new, sgI, h])
  refine aPr rfl (prGt rfl rfl) rfl ?_
  refine aIf rfl (fun h1 => ?_) (fun h1 => ?_)
  · exact aRet (fun _ => 0) rfl rfl (by simp at h h1; simp [AV.new, sgI, h1, Int.not_lt.2 h])
  · exact aRet (fun _ => 0) rfl rfl (by simp at h h1; simp [AV.new, sgI, Int.not_lt.2 h, Int.not_lt.2 h1])
theorem deg_ct (a : M) (ha : a.ok) : Ct Try.prog J0 11 [some 3] [mV a] [none] (fun _ => [.ro false (pV (.int .i64 (dg a : Nat)))]) := by
  obtain ⟨h0, h1, h2⟩ := ha
  refine aCtO ⟨true, []⟩ (D := DM) mMix (tr := (.em (.pr (.convert 5 3 (.tmp 0)) 3 [.s (.c 0 0)]) (.em (.pr (.binOp .add 3 (.tmp 0) (.tmp 1) 3) 3 [.s (.k (.int .i64 0)), .s (.c 1 0)]) (.em (.pr (.convert 5 3 (.tmp 0)) 3 [.s (.c 0 1)]) (.em (.pr (.binOp .add 3 (.tmp 0) (.tmp 1) 3) 3 [.s (.c 2 0), .s (.c 3 0)]) (.em (.pr (.convert 5 3 (.tmp 0)) 3 [.s (.c 0 2)]) (.em (.pr (.binOp .add 3 (.tmp 0) (.tmp 1) 3) 3 [.s (.c 4 0), .s (.c 5 0)]) (.ret (.v (.s (.c 6 0))))))))))) (by kernel_rfl) (by kernel_rfl) (by kernel_rfl) rfl (fun _ _ h => by cases h) (fun w0 => ?_)
  refine aPr rfl (cvU uU uI rfl (by omega) (by omega)) rfl ?_
  refine aPr rfl (qAddE (z := (a.1 : Nat)) rfl rfl (by omega) (by omega) (by omega)) rfl ?_
  refine aPr rfl (cvU uU uI rfl (by omega) (by omega)) rfl ?_
  refine aPr rfl (qAddE (z := (a.1 + a.2.1 : Nat)) rfl rfl (by omega) (by omega) (by omega)) rfl ?_
  refine aPr rfl (cvU uU uI rfl (by omega) (by omega)) rfl ?_
  refine aPr rfl (qAddE (z := (dg a : Nat)) rfl rfl (by unfold dg; omega) (by omega) (by unfold dg; omega)) rfl ?_
  exact aRet (fun _ => 0) rfl rfl rfl
theorem rdeg_ct (a : M) (ha : a.ok) : Ct Try.prog J0 12 [some 3] [mV a] [none] (fun _ => [.ro false (pV (.int .i64 (dg a : Nat)))]) := by
  obtain ⟨h0, h1, h2⟩ := ha
  refine aCtO ⟨true, []⟩ (D := DM) mMix (tr := (.em (.pr (.convert 5 3 (.tmp 0)) 3 [.s (.c 0 0)]) (.em (.pr (.convert 5 3 (.tmp 0)) 3 [.s (.c 0 1)]) (.em (.pr (.binOp .add 3 (.tmp 0) (.tmp 1) 3) 3 [.s (.c 1 0), .s (.c 2 0)]) (.em (.pr (.convert 5 3 (.tmp 0)) 3 [.s (.c 0 2)]) (.em (.pr (.binOp .add 3 (.tmp 0) (.tmp 1) 3) 3 [.s (.c 3 0), .s (.c 4 0)]) (.ret (.v (.s (.c 5 0)))))))))) (by kernel_rfl) (by kernel_rfl) (by kernel_rfl) rfl (fun _ _ h => by cases h) (fun w0 => ?_)
  refine aPr rfl (cvU uU uI rfl (by omega) (by omega)) rfl ?_
  refine aPr rfl (cvU uU uI rfl (by omega) (by omega)) rfl ?_
  refine aPr rfl (qAddE (z := (a.1 + a.2.1 : Nat)) rfl rfl (by omega) (by omega) (by omega)) rfl ?_
  refine aPr rfl (cvU uU uI rfl (by omega) (by omega)) rfl ?_
  refine aPr rfl (qAddE (z := (dg a : Nat)) rfl rfl (by unfold dg; omega) (by omega) (by unfold dg; omega)) rfl ?_
  exact aRet (fun _ => 0) rfl rfl rfl
theorem vars_ct (a : M) : Ct Try.prog J0 13 [some 3] [mV a] [none] (fun _ => [.ro false (pV (.int .i64 (vr a : Nat)))]) := by
  refine aCtO ⟨true, []⟩ (D := DM) mMix (tr := (.em (.pr (.binOp .eql 5 (.tmp 0) (.const (.int .u8 0)) 5) 4 [.s (.c 0 2), .s (.k (.int .u8 0))]) (.cond (.c 1 0) (.em (.pr (.binOp .eql 5 (.tmp 0) (.const (.int .u8 0)) 5) 4 [.s (.c 0 1), .s (.k (.int .u8 0))]) (.cond (.c 2 0) (.em (.pr (.binOp .eql 5 (.tmp 0) (.const (.int .u8 0)) 5) 4 [.s (.c 0 0), .s (.k (.int .u8 0))]) (.cond (.c 3 0) (.ret (.v (.s (.k (.int .i64 0))))) (.ret (.v (.s (.k (.int .i64 1))))))) (.ret (.v (.s (.k (.int .i64 2))))))) (.ret (.v (.s (.k (.int .i64 3)))))))) (by kernel_rfl) (by kernel_rfl) (by kernel_rfl) rfl (fun _ _ h => by cases h) (fun w0 => ?_)
  refine aPr rfl (prEq rfl rfl) rfl ?_
  refine aIf rfl (fun h => ?_) (fun h => ?_)
  · refine aPr rfl (prEq rfl rfl) rfl ?_
    refine aIf rfl (fun h1 => ?_) (fun h1 => ?_)
    · refine aPr rfl (prEq rfl rfl) rfl ?_
      refine aIf rfl (fun h2 => ?_) (fun h2 => ?_)
      · exact aRet (fun _ => 0) rfl rfl (by simp at h h1 h2; simp [AV.new, vr, h, h1, h2])
      · exact aRet (fun _ => 0) rfl rfl (by simp at h h1 h2; simp [AV.new, vr, h, h1, h2])
    · exact aRet (fun _ => 0) rfl rfl (by simp at h h1; simp [AV.new, vr, h, h1])
  · exact aRet (fun _ => 0) rfl rfl (by simp at h; simp [AV.new, vr, h])
theorem rvars_ct (a : M) : Ct Try.prog J0 14 [some 3] [mV a] [none] (fun _ => [.ro false (pV (.int .i64 (vr a : Nat)))]) := by
  refine aCtO ⟨true, []⟩ (D := DM) mMix (tr := (.em (.pr (.binOp .gtr 5 (.tmp 0) (.const (.int .u8 0)) 5) 4 [.s (.c 0 0), .s (.k (.int .u8 0))]) (.cond (.c 1 0) (.em (.pr (.binOp .gtr 5 (.tmp 0) (.const (.int .u8 0)) 5) 4 [.s (.c 0 1), .s (.k (.int .u8 0))]) (.cond (.c 2 0) (.em (.pr (.binOp .gtr 5 (.tmp 0) (.const (.int .u8 0)) 5) 4 [.s (.c 0 2), .s (.k (.int .u8 0))]) (.cond (.c 3 0) (.ret (.v (.s (.k (.int .i64 3))))) (.ret (.v (.s (.k (.int .i64 2))))))) (.em (.pr (.binOp .gtr 5 (.tmp 0) (.const (.int .u8 0)) 5) 4 [.s (.c 0 2), .s (.k (.int .u8 0))]) (.cond (.c 3 0) (.ret (.v (.s (.k (.int .i64 3))))) (.ret (.v (.s (.k (.int .i64 1))))))))) (.em (.pr (.binOp .gtr 5 (.tmp 0) (.const (.int .u8 0)) 5) 4 [.s (.c 0 1), .s (.k (.int .u8 0))]) (.cond (.c 2 0) (.em (.pr (.binOp .gtr 5 (.tmp 0) (.const (.int .u8 0)) 5) 4 [.s (.c 0 2), .s (.k (.int .u8 0))]) (.cond (.c 3 0) (.ret (.v (.s (.k (.int .i64 3))))) (.ret (.v (.s (.k (.int .i64 2))))))) (.em (.pr (.binOp .gtr 5 (.tmp 0) (.const (.int .u8 0)) 5) 4 [.s (.c 0 2), .s (.k (.int .u8 0))]) (.cond (.c 3 0) (.ret (.v (.s (.k (.int .i64 3))))) (.ret (.v (.s (.k (.int .i64 0)))))))))))) (by kernel_rfl) (by kernel_rfl) (by kernel_rfl) rfl (fun _ _ h => by cases h) (fun w0 => ?_)
  refine aPr rfl (prGt rfl rfl) rfl ?_
  refine aIf rfl (fun h => ?_) (fun h => ?_) <;> refine aPr rfl (prGt rfl rfl) rfl ?_ <;> refine aIf rfl (fun h1 => ?_) (fun h1 => ?_) <;> refine aPr rfl (prGt rfl rfl) rfl ?_ <;> refine aIf rfl (fun h2 => ?_) (fun h2 => ?_)
  all_goals exact aRet (fun _ => 0) rfl rfl (by simp at h h1 h2; simp [AV.new, vr]; (repeat' split) <;> first | rfl | omega)
theorem mcmp_ct (a b : M) (ha : a.ok) (hb : b.ok) : Ct Try.prog J0 15 [some 3, some 3] [mV a, mV b] [none] (fun _ => [.ro false (pV (.int .i64 (mc a b)))]) := by
  refine aCtO ⟨true, []⟩ (D := DM) mMix (tr := (.em (.call 11 [.g [.c 0 0, .c 0 1, .c 0 2]] [none]) (.em (.call 11 [.g [.c 1 0, .c 1 1, .c 1 2]] [none]) (.em (.call 20 [.s (.c 2 0), .s (.c 3 0)] [none]) (.em (.pr (.binOp .neq 3 (.tmp 0) (.const (.int .i64 0)) 3) 4 [.s (.c 4 0), .s (.k (.int .i64 0))]) (.cond (.c 5 0) (.ret (.v (.s (.c 4 0)))) (.em (.call 21 [.s (.c 0 0), .s (.c 1 0)] [none]) (.em (.pr (.binOp .neq 3 (.tmp 0) (.const (.int .i64 0)) 3) 4 [.s (.c 6 0), .s (.k (.int .i64 0))]) (.cond (.c 7 0) (.ret (.v (.s (.c 6 0)))) (.em (.call 21 [.s (.c 0 1), .s (.c 1 1)] [none]) (.em (.pr (.binOp .neq 3 (.tmp 0) (.const (.int .i64 0)) 3) 4 [.s (.c 8 0), .s (.k (.int .i64 0))]) (.cond (.c 9 0) (.ret (.v (.s (.c 8 0)))) (.em (.call 21 [.s (.c 0 2), .s (.c 1 2)] [none]) (.em (.pr (.binOp .neq 3 (.tmp 0) (.const (.int .i64 0)) 3) 4 [.s (.c 10 0), .s (.k (.int .i64 0))]) (.cond (.c 11 0) (.ret (.v (.s (.c 10 0)))) (.ret (.v (.s (.k (.int .i64 0)))))))))))))))))))) (by kernel_rfl) (by kernel_rfl) (by kernel_rfl) rfl (fun _ _ h => by cases h) (fun w0 => ?_)
  refine aCall rfl (deg_ct a ha) (fun γ => ?_)
  refine aCall rfl (deg_ct b hb) (fun γ => ?_)
  refine aCall rfl (cmpI_ct _ _) (fun γ => ?_)
  refine aPr rfl (prNe rfl rfl) rfl ?_
  refine aIf rfl (fun h => ?_) (fun h => ?_)
  · exact aRet (fun _ => 0) rfl rfl (by simp at h; simp [AV.new, mc, h])
  refine aCall rfl (cmpU_ct _ _) (fun γ => ?_)
  refine aPr rfl (prNe rfl rfl) rfl ?_
  refine aIf rfl (fun h1 => ?_) (fun h1 => ?_)
  · exact aRet (fun _ => 0) rfl rfl (by simp at h h1; simp [AV.new, mc, h, h1])
  refine aCall rfl (cmpU_ct _ _) (fun γ => ?_)
  refine aPr rfl (prNe rfl rfl) rfl ?_
  refine aIf rfl (fun h2 => ?_) (fun h2 => ?_)
  · exact aRet (fun _ => 0) rfl rfl (by simp at h h1 h2; simp [AV.new, mc, h, h1, h2])
  refine aCall rfl (cmpU_ct _ _) (fun γ => ?_)
  refine aPr rfl (prNe rfl rfl) rfl ?_
  refine aIf rfl (fun h3 => ?_) (fun h3 => ?_)
  · exact aRet (fun _ => 0) rfl rfl (by simp at h h1 h2; simp [AV.new, mc, h, h1, h2])
  · exact aRet (fun _ => 0) rfl rfl (by simp at h h1 h2 h3; simp [AV.new, mc, h, h1, h2, h3])
theorem rmcmp_ct (a b : M) (ha : a.ok) (hb : b.ok) : Ct Try.prog J0 16 [some 3, some 3] [mV a, mV b] [none] (fun _ => [.ro false (pV (.int .i64 (mc a b)))]) := by
  refine aCtO ⟨true, []⟩ (D := DM) mMix (tr := (.em (.call 12 [.g [.c 0 0, .c 0 1, .c 0 2]] [none]) (.em (.call 12 [.g [.c 1 0, .c 1 1, .c 1 2]] [none]) (.em (.pr (.binOp .neq 3 (.tmp 0) (.tmp 1) 3) 4 [.s (.c 2 0), .s (.c 3 0)]) (.cond (.c 4 0) (.em (.call 12 [.g [.c 0 0, .c 0 1, .c 0 2]] [none]) (.em (.call 12 [.g [.c 1 0, .c 1 1, .c 1 2]] [none]) (.em (.pr (.binOp .lss 3 (.tmp 0) (.tmp 1) 3) 4 [.s (.c 5 0), .s (.c 6 0)]) (.cond (.c 7 0) (.ret (.v (.s (.k (.int .i64 (Int.negSucc 0)))))) (.ret (.v (.s (.k (.int .i64 1))))))))) (.em (.pr (.binOp .lss 5 (.tmp 0) (.tmp 1) 5) 4 [.s (.c 0 0), .s (.c 1 0)]) (.cond (.c 5 0) (.ret (.v (.s (.k (.int .i64 (Int.negSucc 0)))))) (.em (.pr (.binOp .gtr 5 (.tmp 0) (.tmp 1) 5) 4 [.s (.c 0 0), .s (.c 1 0)]) (.cond (.c 6 0) (.ret (.v (.s (.k (.int .i64 1))))) (.em (.pr (.binOp .lss 5 (.tmp 0) (.tmp 1) 5) 4 [.s (.c 0 1), .s (.c 1 1)]) (.cond (.c 7 0) (.ret (.v (.s (.k (.int .i64 (Int.negSucc 0)))))) (.em (.pr (.binOp .gtr 5 (.tmp 0) (.tmp 1) 5) 4 [.s (.c 0 1), .s (.c 1 1)]) (.cond (.c 8 0) (.ret (.v (.s (.k (.int .i64 1))))) (.em (.pr (.binOp .lss 5 (.tmp 0) (.tmp 1) 5) 4 [.s (.c 0 2), .s (.c 1 2)]) (.cond (.c 9 0) (.ret (.v (.s (.k (.int .i64 (Int.negSucc 0)))))) (.em (.pr (.binOp .gtr 5 (.tmp 0) (.tmp 1) 5) 4 [.s (.c 0 2), .s (.c 1 2)]) (.cond (.c 10 0) (.ret (.v (.s (.k (.int .i64 1))))) (.ret (.v (.s (.k (.int .i64 0)))))))))))))))))))))) (by kernel_rfl) (by kernel_rfl) (by kernel_rfl) rfl (fun _ _ h => by cases h) (fun w0 => ?_)
  refine aCall rfl (rdeg_ct a ha) (fun γ => ?_)
  refine aCall rfl (rdeg_ct b hb) (fun γ => ?_)
  refine aPr rfl (prNe rfl rfl) rfl ?_
  refine aIf rfl (fun h => ?_) (fun h => ?_)
  · refine aCall rfl (rdeg_ct a ha) (fun γ => ?_)
    refine aCall rfl (rdeg_ct b hb) (fun γ => ?_)
    refine aPr rfl (prLt rfl rfl) rfl ?_
    refine aIf rfl (fun h1 => ?_) (fun h1 => ?_)
    · exact aRet (fun _ => 0) rfl rfl (by simp at h h1; simp [AV.new, mc, sgI, h1])
    · exact aRet (fun _ => 0) rfl rfl (by
        simp at h h1
        have h2 : dg b < dg a := by omega
        simp [AV.new, mc, sgI, h2, Nat.not_lt.2 h1])
  have hd : dg a = dg b := by simp at h; omega
  refine aPr rfl (prLt rfl rfl) rfl ?_
  refine aIf rfl (fun h1 => ?_) (fun h1 => ?_)
  · exact aRet (fun _ => 0) rfl rfl (by simp at h1; simp [AV.new, mc, sgI, h1, hd])
  refine aPr rfl (prGt rfl rfl) rfl ?_
  refine aIf rfl (fun h2 => ?_) (fun h2 => ?_)
  · exact aRet (fun _ => 0) rfl rfl (by simp at h1 h2; simp [AV.new, mc, sgI, h2, Nat.not_lt.2 h1, hd])
  have d0 : a.1 = b.1 := by simp at h1 h2; omega
  refine aPr rfl (prLt rfl rfl) rfl ?_
  refine aIf rfl (fun h1 => ?_) (fun h1 => ?_)
  · exact aRet (fun _ => 0) rfl rfl (by simp at h1; simp [AV.new, mc, sgI, h1, hd, d0])
  refine aPr rfl (prGt rfl rfl) rfl ?_
  refine aIf rfl (fun h2 => ?_) (fun h2 => ?_)
  · exact aRet (fun _ => 0) rfl rfl (by simp at h1 h2; simp [AV.new, mc, sgI, h2, Nat.not_lt.2 h1, hd, d0])
  have d1 : a.2.1 = b.2.1 := by simp at h1 h2; omega
  refine aPr rfl (prLt rfl rfl) rfl ?_
  refine aIf rfl (fun h1 => ?_) (fun h1 => ?_)
  · exact aRet (fun _ => 0) rfl rfl (by simp at h1; simp [AV.new, mc, sgI, h1, hd, d0, d1])
  refine aPr rfl (prGt rfl rfl) rfl ?_
  refine aIf rfl (fun h2 => ?_) (fun h2 => ?_)
  · exact aRet (fun _ => 0) rfl rfl (by simp at h1 h2; simp [AV.new, mc, sgI, h2, Nat.not_lt.2 h1, hd, d0, d1])
  · exact aRet (fun _ => 0) rfl rfl (by simp at h1 h2; simp [AV.new, mc, sgI, Nat.not_lt.2 h1, Nat.not_lt.2 h2, hd, d0, d1])
theorem alive7_ct : Ct Try.prog J0 10 [] [] [none] (fun _ => [.ro false (pV (.bool true))]) := by
  refine aCtO ⟨true, []⟩ (D := DM) mMix (tr := (.em (.call 15 [.g [.k (.int .u8 0), .k (.int .u8 1), .k (.int .u8 0)], .g [.k (.int .u8 1), .k (.int .u8 0), .k (.int .u8 0)]] [none]) (.em (.pr (.binOp .eql 3 (.tmp 0) (.const (.int .i64 (Int.negSucc 0))) 3) 4 [.s (.c 0 0), .s (.k (.int .i64 (Int.negSucc 0)))]) (.cond (.c 1 0) (.em (.call 11 [.g [.k (.int .u8 1), .k (.int .u8 2), .k (.int .u8 3)]] [none]) (.em (.pr (.binOp .eql 3 (.tmp 0) (.const (.int .i64 6)) 3) 4 [.s (.c 2 0), .s (.k (.int .i64 6))]) (.ret (.v (.s (.c 3 0)))))) (.ret (.v (.s (.k (.bool false))))))))) (by kernel_rfl) (by kernel_rfl) (by kernel_rfl) rfl (fun _ _ h => by cases h) (fun w0 => ?_)
  refine aCall rfl (mcmp_ct (0, 1, 0) (1, 0, 0) (by decide) (by decide)) (fun γ => ?_)
  refine aPr rfl (prEq rfl rfl) rfl ?_
  refine aTrue rfl ?_
  refine aCall rfl (deg_ct (1, 2, 3) (by decide)) (fun γ => ?_)
  refine aPr rfl (prEq rfl rfl) rfl ?_
  exact aRet (fun _ => 0) rfl rfl rfl
end Go.Proofs.Ytbkkecnocnfjcaa

namespace Cin
open Go Go.RowKit
theorem qB {P : Program} {op : Op} {ty : TypeId} {vs : List Value} {b c : Bool} (h : PrimOk P op ty vs (.bool b)) (e : b = c) : PrimOk P op ty vs (.bool c) := e ▸ h
theorem told7 {w0 : W0} {v : Value} {e : Ending} {w' : World} (h : TellsA w0 [none] (fun _ => [.ro false (pV v)]) e w') : e = .returned v ∧ Below w0.w.heap.size w0.w w' := by
  obtain ⟨cs, os, γ, rfl, _, ⟨c1, c2, o1, o2, rfl, _, ⟨h1, _⟩, h2⟩, hb⟩ := h
  obtain ⟨rfl, _⟩ := h1
  rw [h2.1]
  exact ⟨rfl, hb⟩
def at7 (W : World) : W0 := ⟨W, W.heap.size, Nat.le_refl _, fun _ => False, fun _ h => h.elim⟩
def kM (a : M) : Int := (dg a : Int) * 16777216 + (a.1 : Int) * 65536 + (a.2.1 : Int) * 256 + (a.2.2 : Int)
theorem sgI_zero {x y : Int} : sgI x y = 0 ↔ x = y := by unfold sgI; split <;> (try split) <;> omega
theorem sgI_lt {x y : Int} : sgI x y < 0 ↔ x < y := by unfold sgI; split <;> (try split) <;> omega
theorem mc_key {a b : M} (ha : a.ok) (hb : b.ok) : mc a b = sgI (kM a) (kM b) := by
  obtain ⟨h0, h1, h2⟩ := ha
  obtain ⟨k0, k1, k2⟩ := hb
  unfold mc
  simp only [ne_eq, sgI_zero]
  unfold kM
  by_cases e : (dg a : Int) = dg b
  · rw [if_neg (by simpa using e)]
    by_cases e0 : (a.1 : Int) = b.1
    · rw [if_neg (by simpa using e0)]
      by_cases e1 : (a.2.1 : Int) = b.2.1
      · rw [if_neg (by simpa using e1)]; unfold sgI; split <;> split <;> (try split) <;> omega
      · rw [if_pos e1]; unfold sgI; split <;> split <;> (try split) <;> omega
    · rw [if_pos e0]; unfold sgI; split <;> split <;> (try split) <;> omega
  · rw [if_pos e]; unfold sgI; split <;> split <;> (try split) <;> omega
end Cin

namespace Cin
open Go Go.RowKit
def nx (v : Nat) (a : M) : M :=
  if vr a < 2 then (if v = 1 then (a.1 + 1, 0, 0) else if v = 2 then (0, a.1 + 1, 0) else (0, 0, a.1 + 1))
  else if vr a = 2 then (if v = 2 then (a.1 + 1, a.2.1 - 1, a.2.2) else (a.1 + 1, 0, a.2.1 - 1))
  else (a.1, a.2.1 + 1, a.2.2 - 1)
def sq (v : Nat) : Nat → M → M
  | 0, a => a
  | i + 1, a => nx v (sq v i a)
def its (v : Nat) (k : Nat) (a : M) : List M := (List.range k).map fun i => sq v i a
theorem its_succ (v k : Nat) (a : M) : its v (k + 1) a = its v k a ++ [sq v k a] := by unfold its; rw [List.range_succ, List.map_append]; rfl
theorem its_len (v k : Nat) (a : M) : (its v k a).length = k := by simp [its]
theorem its_at {v k i : Nat} {a : M} (h : i < k) : (its v k a)[i]? = some (sq v i a) := by simp [its, h]
def Wn (v T : Nat) : Nat :=
  match v with
  | 0 => 1
  | 1 => T
  | 2 => T * (T + 1) / 2
  | _ => T * (T + 1) * (T + 2) / 6
theorem Wn_mono {v T U : Nat} (h : T ≤ U) : Wn v T ≤ Wn v U := by
  unfold Wn
  split
  · exact Nat.le_refl _
  · exact h
  · exact Nat.div_le_div_right (Nat.mul_le_mul h (by omega))
  · exact Nat.div_le_div_right (Nat.mul_le_mul (Nat.mul_le_mul h (by omega)) (by omega))
def kN (a : M) : Nat := dg a * 16777216 + a.1 * 65536 + a.2.1 * 256 + a.2.2
theorem kN_M (a : M) : (kN a : Int) = kM a := by unfold kN kM; omega
def okN (v i : Nat) (a : M) : Bool :=
  Nat.ble a.1 254 && Nat.ble a.2.1 254 && Nat.ble a.2.2 254 && Nat.ble (vr a) v && Nat.blt i (Wn v (dg a + 1)) && Nat.ble (Wn v (dg a)) i && Nat.blt (kN a) (kN (nx v a))
def fcN (x : Nat) (f : Nat → Bool) : Bool :=
  match x with
  | 0 => f 0
  | n + 1 => f (n + 1)
theorem fcN_eq (x : Nat) (f : Nat → Bool) : fcN x f = f x := by cases x <;> rfl
def chkN (v : Nat) : Nat → Nat → Nat → Nat → Nat → Bool
  | 0, _, _, _, _ => true
  | k + 1, i, x, y, z => okN v i (x, y, z) && fcN (i + 1) fun j => fcN (nx v (x, y, z)).1 fun x' => fcN (nx v (x, y, z)).2.1 fun y' => fcN (nx v (x, y, z)).2.2 fun z' => chkN v k j x' y' z'
theorem sq_nx (v : Nat) (a : M) : ∀ i, sq v i (nx v a) = sq v (i + 1) a
  | 0 => rfl
  | i + 1 => by show nx v (sq v i (nx v a)) = nx v (sq v (i + 1) a); rw [sq_nx v a i]
theorem chkN_ok {v : Nat} : ∀ {k i x y z : Nat}, chkN v k i x y z = true → ∀ j, j < k → okN v (i + j) (sq v j (x, y, z)) = true
  | 0, _, _, _, _, _, j, hj => by omega
  | k + 1, i, x, y, z, h, j, hj => by
    unfold chkN at h
    simp only [fcN_eq, Bool.and_eq_true] at h
    cases j with
    | zero => exact h.1
    | succ j =>
      have := chkN_ok h.2 j (by omega)
      rw [show i + (j + 1) = i + 1 + j by omega, ← sq_nx]
      exact this
theorem chk1 : chkN 1 22 0 0 0 0 = true := by kernel_rfl
theorem chk2 : chkN 2 232 0 0 0 0 = true := by kernel_rfl
theorem chk3 : chkN 3 1772 0 0 0 0 = true := by kernel_rfl
theorem okN_at {v i : Nat} (h1 : 1 ≤ v) (h3 : v ≤ 3) (hi : i ≤ Wn v 21) : okN v i (sq v i (0, 0, 0)) = true := by
  match v, h1, h3 with
  | 1, _, _ => have := chkN_ok chk1 i (by show i < 22; exact Nat.lt_succ_of_le hi); simpa using this
  | 2, _, _ => have := chkN_ok chk2 i (by show i < 232; exact Nat.lt_succ_of_le hi); simpa using this
  | 3, _, _ => have := chkN_ok chk3 i (by show i < 1772; exact Nat.lt_succ_of_le hi); simpa using this
structure SqOk (v i : Nat) (a : M) : Prop where
  b0 : a.1 ≤ 254
  b1 : a.2.1 ≤ 254
  b2 : a.2.2 ≤ 254
  vr : vr a ≤ v
  deg : ∀ T, dg a < T ↔ i < Wn v T
  lt : kM a < kM (nx v a)
theorem SqOk.ok {v i : Nat} {a : M} (h : SqOk v i a) : a.ok := ⟨by have := h.b0; omega, by have := h.b1; omega, by have := h.b2; omega⟩
theorem sqOk {v i : Nat} (h1 : 1 ≤ v) (h3 : v ≤ 3) (hi : i ≤ Wn v 21) : SqOk v i (sq v i (0, 0, 0)) := by
  have h := okN_at h1 h3 hi
  generalize sq v i (0, 0, 0) = a at h
  simp only [okN, Bool.and_eq_true, Nat.ble_eq, Nat.blt_eq] at h
  obtain ⟨⟨⟨⟨⟨⟨h0, h1⟩, h2⟩, h3⟩, h4⟩, h5⟩, h6⟩ := h
  refine ⟨h0, h1, h2, h3, fun T => ⟨fun h => Nat.lt_of_lt_of_le h4 (Wn_mono h), fun h => ?_⟩, by rw [← kN_M, ← kN_M]; omega⟩
  by_cases e : dg a < T
  · exact e
  · have := Wn_mono (v := v) (T := T) (U := dg a) (by omega)
    omega
def bl (v T : Nat) : List M := if T = 0 then [] else its v (Wn v T) (0, 0, 0)
def lenB (v T : Nat) : Nat := if T = 0 then 0 else Wn v T
theorem bl_len (v T : Nat) : (bl v T).length = lenB v T := by unfold bl lenB; split <;> simp [its_len]
theorem bl_at {v T i : Nat} (h : i < lenB v T) : (bl v T)[i]? = some (sq v i (0, 0, 0)) := by
  unfold bl; unfold lenB at h
  split
  · rename_i e; rw [if_pos e] at h; omega
  · rename_i e; rw [if_neg e] at h; exact its_at h
theorem Wn_step (i T : Nat) (h : i < 3) (hT : T ≤ 21) : Wn i T * (T + i) / (i + 1) = Wn (i + 1) T := by
  have : (List.range 3).all (fun i => (List.range 22).all fun T => Wn i T * (T + i) / (i + 1) == Wn (i + 1) T) = true := by kernel_rfl
  have := List.all_eq_true.1 this i (List.mem_range.2 h)
  have := List.all_eq_true.1 this T (List.mem_range.2 (by omega))
  exact eq_of_beq this
theorem Wn_small {v T : Nat} (hT : T ≤ 21) : Wn v T ≤ 1771 := by
  have h := Wn_mono (v := v) hT
  have : Wn v 21 ≤ 1771 := by unfold Wn; split <;> decide
  omega
structure ElOk (v T : Nat) (a : M) : Prop where
  ok : a.ok
  deg : dg a < T
  vr : vr a ≤ v
theorem lenB_pos {v T i : Nat} (h : i < lenB v T) : T ≠ 0 ∧ i < Wn v T := by
  unfold lenB at h
  split at h
  · omega
  · rename_i e; exact ⟨e, h⟩
theorem elOk {v T i : Nat} (h3 : v ≤ 3) (hT : T ≤ 21) (h : i < lenB v T) : ElOk v T (sq v i (0, 0, 0)) := by
  obtain ⟨hT0, hi⟩ := lenB_pos h
  by_cases e : v = 0
  · subst e
    have : i = 0 := by have : Wn 0 T = 1 := rfl; omega
    subst this
    exact ⟨⟨by decide, by decide, by decide⟩, by show (0 : Nat) < T; omega, by decide⟩
  · have hw := Wn_mono (v := v) hT
    have hq := sqOk (v := v) (i := i) (by omega) h3 (by omega)
    exact ⟨hq.ok, (hq.deg T).2 hi, hq.vr⟩
theorem elLt {v T i : Nat} (h3 : v ≤ 3) (hT : T ≤ 21) (h : i + 1 < lenB v T) : mc (sq v i (0, 0, 0)) (sq v (i + 1) (0, 0, 0)) < 0 := by
  obtain ⟨hT0, hi⟩ := lenB_pos h
  have hv : v ≠ 0 := fun e => by subst e; have : Wn 0 T = 1 := rfl; omega
  have hw := Wn_mono (v := v) hT
  have hq := sqOk (v := v) (i := i) (by omega) h3 (by omega)
  have hq2 := sqOk (v := v) (i := i + 1) (by omega) h3 (by omega)
  rw [mc_key hq.ok hq2.ok, sgI_lt]
  exact hq.lt
theorem lenB_more {v T : Nat} : lenB v T ≤ lenB v (T + 1) := by
  unfold lenB
  split
  · exact Nat.zero_le _
  · rw [if_neg (by omega)]; exact Wn_mono (by omega)
theorem lenB_small {v T : Nat} (hT : T ≤ 21) : lenB v T ≤ 1771 := by
  have := Wn_small (v := v) hT
  unfold lenB; split <;> omega
theorem lenB_wide {v T : Nat} (h : v < 3) (hT : T < 9) : lenB v T ≤ lenB (v + 1) T := by
  have : (List.range 3).all (fun v => (List.range 9).all fun T => Nat.ble (lenB v T) (lenB (v + 1) T)) = true := by kernel_rfl
  have := List.all_eq_true.1 this v (List.mem_range.2 h)
  have := List.all_eq_true.1 this T (List.mem_range.2 hT)
  exact Nat.le_of_ble_eq_true this
def gwN (v : Nat) : Nat → Nat → Nat → Nat → Nat → Nat → Nat → Nat → Bool
  | 0, _, _, _, ka, _, _, _ => Nat.beq ka 0
  | kc + 1, x, y, z, ka, x', y', z' =>
    match ka with
    | 0 => true
    | ka' + 1 =>
      fcN (nx (v + 1) (x, y, z)).1 fun p => fcN (nx (v + 1) (x, y, z)).2.1 fun q => fcN (nx (v + 1) (x, y, z)).2.2 fun r =>
        if Nat.beq x x' && Nat.beq y y' && Nat.beq z z' then fcN (nx v (x', y', z')).1 fun p' => fcN (nx v (x', y', z')).2.1 fun q' => fcN (nx v (x', y', z')).2.2 fun r' => gwN v kc p q r ka' p' q' r'
        else gwN v kc p q r (ka' + 1) x' y' z'
def gw (v kc : Nat) (c : M) (ka : Nat) (a : M) : Bool := gwN v kc c.1 c.2.1 c.2.2 ka a.1 a.2.1 a.2.2
theorem gw_hit {v kc ka : Nat} {c : M} (h : gw v (kc + 1) c (ka + 1) c = true) : gw v kc (nx (v + 1) c) ka (nx v c) = true := by
  unfold gw gwN at h
  simp only [fcN_eq, Nat.beq_refl, Bool.and_self, if_true] at h
  exact h
theorem gw_miss {v kc ka : Nat} {c a : M} (hne : c ≠ a) (h : gw v (kc + 1) c (ka + 1) a = true) : gw v kc (nx (v + 1) c) (ka + 1) a = true := by
  unfold gw gwN at h
  simp only [fcN_eq] at h
  rw [if_neg] at h
  · exact h
  · intro e
    simp only [Bool.and_eq_true, Nat.beq_eq] at e
    exact hne (Prod.ext e.1.1 (Prod.ext e.1.2 e.2))
theorem gw_end {v ka : Nat} {c a : M} (h : gw v 0 c ka a = true) : ka = 0 := by
  unfold gw gwN at h
  simpa using h
theorem gw_all {v T : Nat} (h : v < 3) (hT : T < 9) : gw v (lenB (v + 1) T) (0, 0, 0) (lenB v T) (0, 0, 0) = true := by
  have : (List.range 3).all (fun v => (List.range 9).all fun T => gw v (lenB (v + 1) T) (0, 0, 0) (lenB v T) (0, 0, 0)) = true := by kernel_rfl
  have := List.all_eq_true.1 this v (List.mem_range.2 h)
  exact List.all_eq_true.1 this T (List.mem_range.2 hT)
def wI (x lo hi : Int) : Int := if x.tmod (hi - lo + 1) < 0 then lo + (x.tmod (hi - lo + 1) + (hi - lo + 1)) else lo + x.tmod (hi - lo + 1)
theorem wI_rng {x lo hi : Int} (h : lo ≤ hi) : lo ≤ wI x lo hi ∧ wI x lo hi ≤ hi := by
  have h1 := Int.tmod_lt_of_pos x (b := hi - lo + 1) (by omega)
  have h2 := Int.lt_tmod_of_pos x (b := hi - lo + 1) (by omega)
  unfold wI
  split <;> omega
theorem aRetC {P : Program} {J : Jd} {w0 : W0} {D : TypeId → Bool} {K : LK} {Γ : List (List AV)} {x : SV} {avs : List AV} {Γ' : List (List AV)} {sh : List (Option Nat)} {rs : (Nat → Nat) → List AV} (γ : Nat → Nat) (ht : takeL Γ x.atoms = some (avs, Γ')) (hsh : svShp x = some sh) (hr : ConvS (avs.map AV.new) (rs γ)) : AW P J w0 D (TellsA w0 sh rs) K Γ (.ret x) := by
  intro hJ L E u hL h0 w he hb
  obtain ⟨cs, os, γ', e1, e2, e3, e4⟩ := aRet (P := P) (rs := fun _ => avs.map AV.new) γ ht hsh rfl hJ L E u hL h0 w he hb
  exact ⟨cs, os, γ, e1, e2, hr _ _ _ _ e3, e4⟩
end Cin
