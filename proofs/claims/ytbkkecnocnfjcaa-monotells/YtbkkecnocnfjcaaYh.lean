/- Rules: calls, conditions, plain operations, loops, what is told. No program. -/
import Derived.Test.YtbkkecnocnfjcaaYg
import Derived.Laws.StructEq
import Derived.ChangeKeysEq
import Derived.ChangeSame
import Derived.WideShapes
import Derived.Laws.IdiomArrays
namespace Cin
open Go Go.RowKit
section knows
variable {w0 : W0} {D : TypeId → Bool} {Γ : List (List AV)} {E : Env} {u : Gh}
theorem Knows.rep (h : Knows w0 D Γ E u) : ∃ os, RepE (w0.bd u.S) u.w Γ E os := let ⟨_, _, os, _, hr⟩ := h; ⟨os, hr⟩
theorem Knows.snoc {s : List AV} {cs : List Value} (h : Knows w0 D Γ E u) (hs : ∀ os, RepE (w0.bd u.S) u.w Γ E os → ∃ o, RepS (w0.bd u.S) u.w s cs o ∧ o.Nodup ∧ ∀ g ∈ o, g ∉ os) (hD : s.all (AV.okD D) = true) : Knows w0 D (Γ ++ [s]) (E ++ [cs]) u := by
  obtain ⟨hb, h1, os, hn, hr⟩ := h
  obtain ⟨o, h2, h3, h4⟩ := hs os hr
  refine ⟨hb, ?_, os ++ o, ?_, hr.snoc h2⟩
  · unfold okE at *; rw [List.all_append, h1]; simp [hD]
  · exact List.nodup_append.2 ⟨hn, h3, fun a ha b hb e => h4 b hb (e ▸ ha)⟩
theorem Knows.val {v : Value} (h : Knows w0 D Γ E u) (hv : v.oneCell' = true) : Knows w0 D (Γ ++ [[.ro true (pV v)]]) (E ++ [[v]]) u :=
  h.snoc (fun _ _ => ⟨[], RepS.one_of ⟨⟨rfl, hv⟩, rfl⟩, List.nodup_nil, fun g hg => by cases hg⟩) rfl
end knows
def AV.noOld : AV → Bool
  | .ro old _ => !old
  | _ => true
theorem RepV.low {B B' : Bd} {w : World} {a : AV} {cs : List Value} {os : List Nat} (h : RepV B w a cs os) (hB : B'.b ≤ B.b) (h0 : B'.b0 = B.b0) (hS : B'.S = B.S) (ho : a.noOld = true) : RepV B' w a cs os := by
  have hnn : B'.nn = B.nn := by unfold Bd.nn; rw [h0, hS]
  cases a with
  | ro old p =>
    simp only [AV.noOld, Bool.not_eq_true'] at ho
    subst ho
    have e : limOf B' false = limOf B false := by simp [limOf, h0, hS]
    show p.R (limOf B' false) w cs ∧ os = []
    rw [e]; exact h
  | own g r rows =>
    refine ⟨h.1, ?_⟩
    rw [hnn]
    rcases h.2 with h' | ⟨cap, cur, e, h1, h2, h3⟩
    · exact .inl h'
    · exact .inr ⟨cap, cur, e, h1, ⟨Nat.le_trans hB h2.1, hS ▸ h2.2⟩, h3⟩
  | var g r row => obtain ⟨h1, h2, h3, h4, h5⟩ := h; exact ⟨h1, h2, h3, ⟨Nat.le_trans hB h4.1, hS ▸ h4.2⟩, by rw [hnn]; exact h5⟩
  | junk n => exact h
theorem RepS.low {B B' : Bd} {w : World} (hB : B'.b ≤ B.b) (h0 : B'.b0 = B.b0) (hS : B'.S = B.S) : ∀ {s : List AV} {cs : List Value} {os : List Nat}, RepS B w s cs os → s.all AV.noOld = true → RepS B' w s cs os
  | [], _, _, h, _ => h
  | a :: r, _, _, ⟨c1, c2, o1, o2, e, e2, h1, h2⟩, ho => by
    simp only [List.all_cons, Bool.and_eq_true] at ho
    exact ⟨c1, c2, o1, o2, e, e2, h1.low hB h0 hS ho.1, h2.low hB h0 hS ho.2⟩
def AV.new : AV → AV
  | .ro _ p => .ro false p
  | a => a
theorem RepV.new {B : Bd} {w : World} {a : AV} {cs : List Value} {os : List Nat} (h : RepV B w a cs os) : RepV B w a.new cs os := by
  cases a with
  | ro old p =>
    cases old with
    | true => exact ⟨p.lim h.1, h.2⟩
    | false => exact h
  | own g r rows => exact h
  | var g r row => exact h
  | junk n => exact h
theorem RepS.new {B : Bd} {w : World} : ∀ {s : List AV} {cs : List Value} {os : List Nat}, RepS B w s cs os → RepS B w (s.map AV.new) cs os
  | [], _, _, h => h
  | _ :: _, _, _, ⟨c1, c2, o1, o2, e, e2, h1, h2⟩ => ⟨c1, c2, o1, o2, e, e2, h1.new, h2.new⟩
theorem kept_refl {nu sl : List TypeId} {l : Lm} {w : World} : Kept nu sl l w w := ⟨Nat.le_refl _, fun _ _ h _ => h⟩
theorem RepV.more {B : Bd} {S : Nat → Prop} (hS : ∀ b, B.S b → S b) {w : World} {a : AV} {cs : List Value} {os : List Nat} (h : RepV B w a cs os) : RepV (B.sh S) w a cs os := by
  have hrl : ∀ {c : Array Value} {o : Nat} {r : Rty} {rows : List (List Pd)}, (∀ row ∈ rows, r.Fit row) → RowsAt r B.nn w c o rows → RowsAt r (B.sh S).nn w c o rows := fun hf h =>
    h.imp fun row hm x hx => RL.mono hS kept_refl (hf row hm) hx
  cases a with
  | ro old p => exact ⟨p.mono hS kept_refl h.1, h.2⟩
  | own g r rows =>
    refine ⟨h.1, ?_⟩
    rcases h.2 with h' | ⟨cap, cur, e, ho, hB, hg, i1, i2, i3, hrow⟩
    · exact .inl h'
    · exact .inr ⟨cap, cur, e, ho, ⟨hB.1, hS _ hB.2⟩, hg, i1, i2, i3, hrl h.1 hrow⟩
  | var g r row =>
    obtain ⟨hf, e, ho, hB, x, hg, hs, hrow⟩ := h
    exact ⟨hf, e, ho, ⟨hB.1, hS _ hB.2⟩, x, hg, hs, hrl (fun row hm => by simp at hm; rw [hm]; exact hf) hrow⟩
  | junk n => exact h
theorem RepS.more {B : Bd} {S : Nat → Prop} (hS : ∀ b, B.S b → S b) {w : World} : ∀ {s : List AV} {cs : List Value} {os : List Nat}, RepS B w s cs os → RepS (B.sh S) w s cs os
  | [], _, _, h => h
  | _ :: _, _, _, ⟨c1, c2, o1, o2, e, e2, h1, h2⟩ => ⟨c1, c2, o1, o2, e, e2, h1.more hS, RepS.more hS h2⟩
def svShp : SV → Option (List (Option Nat))
  | .v y => some [y.shp]
  | .t [] => some []
  | .t [_] => none
  | .t l => some (l.map V1.shp)
  | _ => none
theorem v1of_at (E : Env) (x : V1) (pre post : List Value) : (v1of 0 pre.length x.shp).den [] [pre ++ x.atoms.map (A.den [] E) ++ post] = x.den [] E := by
  cases x with
  | s a => simp [V1.shp, v1of, V1.den, A.den, V1.atoms]
  | g l =>
    simp only [V1.shp, v1of, V1.den]
    congr 2
    refine List.ext_getElem? fun j => ?_
    simp only [List.getElem?_map]
    by_cases hj : j < l.length
    · rw [List.getElem?_range' hj, List.getElem?_eq_getElem hj]
      have e : ¬ pre.length + j < pre.length := by omega
      simp [A.den, V1.atoms, hj, List.getElem?_append, e]
    · rw [List.getElem?_eq_none (by simp; omega), List.getElem?_eq_none (by omega)]; rfl
theorem svs_at (E : Env) : ∀ (l : List V1) (pre : List Value), (svs 0 pre.length (l.map V1.shp)).map (V1.den [] [pre ++ (l.flatMap V1.atoms).map (A.den [] E)]) = l.map (V1.den [] E)
  | [], pre => rfl
  | x :: r, pre => by
    simp only [List.map_cons, svs, List.flatMap_cons, List.map_append]
    congr 1
    · have := v1of_at E x pre ((r.flatMap V1.atoms).map (A.den [] E))
      simpa using this
    · have := svs_at E r (pre ++ x.atoms.map (A.den [] E))
      have hl : (pre ++ x.atoms.map (A.den [] E)).length = pre.length + x.shp.getD 1 := by
        cases x <;> simp [V1.shp, V1.atoms]
      rw [hl] at this
      simpa using this
theorem ret_den {E : Env} {x : SV} {sh : List (Option Nat)} (h : svShp x = some sh) : x.den [] E = (mkSV sh 0).den [] [x.atoms.map (A.den [] E)] := by
  cases x with
  | v y =>
    cases h
    have := v1of_at E y [] []
    simpa [mkSV, SV.den, SV.atoms] using this.symm
  | t l =>
    match l, h with
    | [], h => cases h; rfl
    | a :: b :: r, h =>
      cases h
      have := svs_at E (a :: b :: r) []
      simp only [SV.den, SV.atoms]
      show _ = SV.den [] _ (SV.t (svs 0 0 _))
      simp only [SV.den]
      congr 2
      exact this.symm
  | u => cases h
  | any => cases h
section rules
variable {P : Program} {J : Jd} {w0 : W0} {D : TypeId → Bool} {Post : Ending → World → Prop} {K : LK} {Γ : List (List AV)} {k : Tr}
theorem aIf {c : A} {x y : Tr} {b : Bool} (hc : knownA Γ c = some (.bool b)) (h1 : b = true → AW P J w0 D Post K Γ x) (h2 : b = false → AW P J w0 D Post K Γ y) : AW P J w0 D Post K Γ (.cond c x y) :=
  fun hJ L E u hL hk => let ⟨_, hr⟩ := hk.rep; ⟨b, knownA_ok hr hc, fun e => h1 e hJ L E u hL hk, fun e => h2 e hJ L E u hL hk⟩
theorem aTrue {c : A} {x y : Tr} (hc : knownA Γ c = some (.bool true)) (h1 : AW P J w0 D Post K Γ x) : AW P J w0 D Post K Γ (.cond c x y) := aIf hc (fun _ => h1) (fun h => by cases h)
theorem aFalse {c : A} {x y : Tr} (hc : knownA Γ c = some (.bool false)) (h1 : AW P J w0 D Post K Γ y) : AW P J w0 D Post K Γ (.cond c x y) := aIf hc (fun h => by cases h) (fun _ => h1)
theorem aPr {op : Op} {ty : TypeId} {ar : List V1} {vs : List Value} {v : Value} {Γ' : List (List AV)} (hn : knownL Γ ar = some vs) (h : PrimOk P op ty vs v) (hv : v.oneCell' = true) (hk : AW P J w0 D Post K Γ' k)
    (hΓ : Γ ++ [[.ro true (pV v)]] = Γ' := by (simp only [List.cons_append, List.nil_append]) <;> exact rfl) : AW P J w0 D Post K Γ (.em (.pr op ty ar) k) := fun hJ L E u hL h0 => by
  obtain ⟨os, hr⟩ := h0.rep
  refine ⟨v, by rw [knownL_ok hr hn]; exact h, hv, hk hJ L _ u hL.ext ?_⟩
  subst hΓ
  exact h0.val hv
theorem aCall {J1 : Jd} {f : FuncId} {ar : List V1} {sh : List (Option Nat)} {asx : List (List Pd)} {rs : (Nat → Nat) → List AV} {Γ' : (Nat → Nat) → List (List AV)} (ha : gathL Γ ar = some asx) (hc : Ct P J1 f (ar.map V1.shp) asx sh rs) (hk : ∀ γ, AW P J w0 D Post K (Γ' γ) k)
    (hs : ∀ γ, ((rs γ).all (AV.okD D) && (rs γ).all AV.noOld) = true := by intros; rfl) (hΓ : ∀ γ, Γ ++ [rs γ] = Γ' γ := by intros; (simp only [List.cons_append, List.nil_append]) <;> exact rfl) (hw : ∀ w, J.J w → J1.J w := by intro w h; first | exact h | exact h.1) : AW P J w0 D Post K Γ (.em (.call f ar sh) k) := by
  intro hJ L E u hL h0 w he hb
  have h1 := h0.ext he hb
  obtain ⟨⟨_, hsh⟩, hD, os, hn, hr⟩ := h1
  have hlt : ∀ b, u.S b → b < w.heap.size := fun b h => hsh.lt hb.size b h
  have hh := hc ⟨w, w0.b0, Nat.le_trans w0.le hb.size, u.S, hlt⟩ _ (hw _ (J.below hb hJ)) (gathL_ok hr ha)
  unfold argV at hh
  have e := argV_of E ar []
  simp only [List.length_nil, List.nil_append] at e
  rw [e] at hh
  refine hh.mono ?_
  rintro e1 w' ⟨cs, os', γ, he1, hn', hs', hb'⟩
  have hsγ := hs γ
  simp only [Bool.and_eq_true] at hsγ
  have hb2 : Below w0.w.heap.size w0.w w' := bel_on hb hb'
  refine ⟨cs, he1, hs'.one, hb', ?_⟩
  refine hk γ hJ L _ (u.more w w') hL.ext ?_
  rw [← hΓ γ]
  refine ⟨⟨hb2, h0.1.2.more he.size hb'.size hb.size⟩, ?_, os ++ os', ?_, RepE.snoc (B := w0.bd (u.more w w').S) (RepE.goes (B := w0.bd u.S) (S' := (u.more w w').S) (Goes.of_ext (u := ⟨w, u.S⟩) hb hb2 ((ExtS.refl D ⟨w, u.S⟩).below hb')) (fun _ h => .inl h) hr hD (fun _ _ _ _ _ h => h.elim) (fun _ _ h => h)) (RepS.low (B := (⟨w, w0.b0, Nat.le_trans w0.le hb.size, u.S, hlt⟩ : W0).bd (u.more w w').S) (B' := w0.bd (u.more w w').S) hb.size rfl rfl hs' hsγ.2)⟩
  · unfold okE at *; rw [List.all_append, hD]; simp [hsγ.1]
  · refine List.nodup_append.2 ⟨hn, hn', fun a ha b hb e => ?_⟩
    have h1 := (hr.ge a ha).2
    have h2 : w.heap.size ≤ b := (hs'.ge b hb).1
    (have h1 : a < w.heap.size := h1); omega
theorem aRet {x : SV} {avs : List AV} {Γ' : List (List AV)} {sh : List (Option Nat)} {rs : (Nat → Nat) → List AV} (γ : Nat → Nat) (ht : takeL Γ x.atoms = some (avs, Γ')) (hsh : svShp x = some sh) (hr : avs.map AV.new = rs γ) : AW P J w0 D (TellsA w0 sh rs) K Γ (.ret x) := by
  intro hJ L E u hL h0 w he hb
  have h1 := h0.ext he hb
  obtain ⟨⟨_, _, os, hn, hr1⟩, hl⟩ := takeL_ok h1 ht
  obtain ⟨E1, E2, o1, o2, e1, e2, h2, cs, E', o3, o4, e3, e4, h3, e5, e6⟩ := hr1.split
  have hEl : E1.length = E.length := by rw [h2.len, hl, ← (let ⟨_, _, _, _, h⟩ := h1; h.len : E.length = Γ.length)]
  have hcs : cs = x.atoms.map (A.den [] E) := by
    subst e5
    rw [e3] at e1
    have := List.append_inj e1 hEl.symm
    have := this.2
    simp at this
    exact this.symm
  subst hcs
  refine ⟨_, o3, γ, by rw [ret_den hsh], ?_, by rw [← hr]; exact RepS.more (fun b h => h0.1.2.on he.size b h) h3.new, hb⟩
  rw [e2, e4] at hn
  exact (List.nodup_append.1 (List.nodup_append.1 hn).2.1).1
theorem LOk.upd {L : LC} {E : Env} {d n : Nat} {Q : List (List AV) → List AV → Prop} {C : List Value → Gh → Prop} {cs : List Value} (hL : LOk w0 D K L E) (hd : d ≤ K.length) (hn : n = E.length)
    (h : ∀ cs u G avs, Q G avs → Knows w0 D (G ++ [avs]) (E ++ [cs]) u → C cs u) : LOk w0 D (K.take d ++ [(n, Q)]) (updL L d C) (E ++ [cs]) := by
  intro d' n' Q' hK
  have hlen : (K.take d).length = d := by rw [List.length_take]; omega
  by_cases e : d' < d
  · rw [List.getElem?_append_left (by omega), List.getElem?_take, if_pos e] at hK
    obtain ⟨h1, h2⟩ := hL.ext (E' := [cs]) d' n' Q' hK
    exact ⟨h1, fun cs' u G avs hQ hk => by unfold updL; rw [if_neg (by omega)]; exact h2 cs' u G avs hQ hk⟩
  · rw [List.getElem?_append_right (by omega), hlen] at hK
    have he : d' = d := by
      by_cases h0 : d' - d = 0
      · omega
      · rw [List.getElem?_eq_none (by simp; omega)] at hK; cases hK
    subst he
    simp only [Nat.sub_self, List.getElem?_cons_zero, Option.some.injEq, Prod.mk.injEq] at hK
    obtain ⟨rfl, rfl⟩ := hK
    refine ⟨by rw [List.length_append]; omega, fun cs' u G avs hQ hk => ?_⟩
    unfold updL
    rw [if_pos rfl]
    refine h cs' u G avs hQ ?_
    rwa [List.take_append_of_le_length (by omega), hn, List.take_length] at hk
theorem RepE.take {B : Bd} {w : World} : ∀ {Γ : List (List AV)} {E : Env} {os : List Nat} (n : Nat), RepE B w Γ E os → ∃ o1 o2, os = o1 ++ o2 ∧ RepE B w (Γ.take n) (E.take n) o1
  | Γ, E, os, 0, _ => ⟨[], os, rfl, by simp [RepE]⟩
  | [], E, os, n + 1, h => by rw [h.1, h.2]; exact ⟨[], [], rfl, by simp [RepE]⟩
  | s :: Γ, _, _, n + 1, ⟨cs, E', o1, o2, e, e2, h1, h2⟩ => by
    obtain ⟨p1, p2, e3, h3⟩ := h2.take n
    exact ⟨o1 ++ p1, p2, by rw [e2, e3, List.append_assoc], cs, E'.take n, o1, p1, by rw [e]; rfl, rfl, h1, h3⟩
theorem Knows.drop {Γ : List (List AV)} {avs : List AV} {E : Env} {cs : List Value} {u : Gh} (n : Nat) (hl : E.length = Γ.length) (h : Knows w0 D (Γ ++ [avs]) (E ++ [cs]) u) : Knows w0 D (Γ.take n ++ [avs]) (E.take n ++ [cs]) u := by
  obtain ⟨hb, hD, os, hn, hr⟩ := h
  obtain ⟨E1, E2, o1, o2, e1, e2, h2, h3⟩ := hr.split
  have hE := List.append_inj e1 (by rw [h2.len, hl])
  obtain ⟨p1, p2, e4, h4⟩ := h2.take n
  refine ⟨hb, ?_, p1 ++ o2, ?_, by rw [hE.1]; exact h4.app (by rw [hE.2]; exact h3)⟩
  · unfold okE at *
    rw [List.all_append, Bool.and_eq_true] at hD ⊢
    refine ⟨?_, hD.2⟩
    rw [List.all_eq_true] at hD ⊢
    exact fun s hs => hD.1 s (List.mem_of_mem_take hs)
  · rw [e2, e4] at hn
    refine List.Nodup.sublist ?_ hn
    exact List.Sublist.append_right (List.sublist_append_left p1 p2) o2
theorem RepE.set {B : Bd} {w : World} {s s' : List AV} (h : ∀ cs os, RepS B w s cs os → RepS B w s' cs os) : ∀ {Γ : List (List AV)} {i : Nat} {E : Env} {os : List Nat}, RepE B w Γ E os → Γ[i]? = some s → RepE B w (Γ.set i s') E os
  | [], _, _, _, _, hi => by simp at hi
  | t :: Γ, 0, _, _, ⟨cs, E', o1, o2, e, e2, h1, h2⟩, hi => by
    simp only [List.getElem?_cons_zero, Option.some.injEq] at hi
    subst hi
    exact ⟨cs, E', o1, o2, e, e2, h _ _ h1, h2⟩
  | t :: Γ, i + 1, _, _, ⟨cs, E', o1, o2, e, e2, h1, h2⟩, hi => ⟨cs, E', o1, o2, e, e2, h1, RepE.set h h2 (i := i) (by simpa using hi)⟩
end rules
def preA (o : Opt) (asx : List (List Pd)) : Prop := ∀ i v, o.at i = some v → asx[i]? = some [pV v]
theorem argsR_at {l : Lm} {w : World} {d : Value} : ∀ {i : Nat} {sh : List (Option Nat)} {asx : List (List Pd)} {E : Env} {v : Value}, ArgsR l w sh asx E → asx[i]? = some [pV v] → (E.getD i []).getD 0 d = v
  | i, [], [], E, v, _, h => by simp at h
  | i, [], _ :: _, E, v, h, _ => h.elim
  | i, _ :: _, [], E, v, h, _ => h.elim
  | 0, s :: sh, ps :: asx, E, v, ⟨cs, E', e, _, h2, _⟩, h => by
    simp only [List.getElem?_cons_zero, Option.some.injEq] at h
    subst h
    obtain ⟨c1, c2, rfl, h3, h4⟩ := h2
    have e1 : c1 = [v] := h3.1
    subst e1
    subst e
    rfl
  | i + 1, s :: sh, ps :: asx, E, v, ⟨cs, E', e, _, _, h3⟩, h => by
    subst e
    simpa using argsR_at (i := i) h3 (by simpa using h)
theorem aCtO (o : Opt) {P : Program} {J : Jd} {f : FuncId} {shI : List (Option Nat)} {asx : List (List Pd)} {sh : List (Option Nat)} {rs : (Nat → Nat) → List AV} {D : TypeId → Bool} {tr : Tr} (hm : P.follows .mixedOrders = true) (hr : rowOf P D f o = some tr)
    (hq : (eqsOf P D f o).map (·.1) = (eqsOf P D f o).map (·.2)) (hsh : ((P.funcs[f]?).map fun fn => fn.params.toList.mapM (shapeOf P)) = some (some shI)) (hD : okE D (asx.map (·.map (.ro true))) = true) (hpre : preA o asx) {Γ : List (List AV)}
    (hk : ∀ w0, AW P J w0 D (TellsA w0 sh rs) [] Γ tr) (hΓ : asx.map (·.map (.ro true)) = Γ := by (simp only [List.map_cons, List.map_nil]) <;> exact rfl) : Ct P J f shI asx sh rs := by
  subst hΓ
  intro w1 E hJ hA
  have key : ∀ {shI : List (Option Nat)} {asx : List (List Pd)} {E : Env}, ArgsR ⟨w1.b0, some w1.w.heap.size, w1.S⟩ w1.w shI asx E → E.length = shI.length ∧ (E.all fun cs => cs.all Value.oneCell') = true ∧ RepE (w1.bd w1.S) w1.w (asx.map (·.map (.ro true))) E [] := by
    intro shI
    induction shI with
    | nil =>
      intro asx E h
      cases asx with
      | nil => rw [show E = [] from h]; exact ⟨rfl, rfl, rfl, rfl⟩
      | cons _ _ => exact h.elim
    | cons s shI ih =>
      intro asx E h
      cases asx with
      | nil => exact h.elim
      | cons ps asx =>
        obtain ⟨cs, E', rfl, h0, h1, h2⟩ := h
        obtain ⟨h3, h4, h5⟩ := ih h2
        clear h0
        refine ⟨by simp [h3], by simp only [List.all_cons, h1.one, h4]; rfl, cs, E', [], [], rfl, rfl, ?_, h5⟩
        clear h3 h4 h5 h2
        induction ps generalizing cs with
        | nil => exact ⟨h1, rfl⟩
        | cons p ps ihp =>
          obtain ⟨c1, c2, e, k1, k2⟩ := h1
          exact ⟨c1, c2, [], [], e, rfl, ⟨k1, rfl⟩, ihp c2 k2⟩
  obtain ⟨h1, h2, h3⟩ := key hA
  exact rxS (fun _ h => by cases h) hm hr hq shI hsh h1 rfl h2 (fun i v h _ => argsR_at hA (hpre i v h)) (fun _ _ _ => False) w1.S w1.sh (hk w1 hJ _ E w1.gh (fun d n Q h => by simp at h) ⟨⟨Below.refl _ _, fun b h => .inl h⟩, hD, [], List.nodup_nil, h3⟩)
end Cin

namespace Cin
open Go Go.RowKit
section rules
variable {P : Program} {J : Jd} {w0 : W0} {D : TypeId → Bool} {Post : Ending → World → Prop} {K : LK} {Γ : List (List AV)} {k : Tr}
theorem RowsR.sh {r : Rty} {rows : List (List Pd)} {l : Lm} {w : World} {cs : List Value} (h : RowsR r rows l w cs) : ∃ ad cap, cs = [.slice ad rows.length cap] := by
  rcases h.2 with ⟨ad, cap, e, _, h0⟩ | ⟨b, o, cap, c, t, f, e, _⟩
  · subst h0; exact ⟨ad, cap, e⟩
  · exact ⟨_, cap, e⟩
end rules
end Cin

namespace Cin
open Go Go.RowKit
section write
variable {B : Bd} {g : Nat} {t : TypeId} {D : TypeId → Bool} {S' : Nat → Prop} {u w : World} {a v : AV}
end write
section rules
variable {P : Program} {J : Jd} {w0 : W0} {D : TypeId → Bool} {Post : Ending → World → Prop} {K : LK} {Γ : List (List AV)} {k : Tr}
theorem Knows.new {Γ : List (List AV)} {E : Env} {u : Gh} {w w' : World} (h : Knows w0 D Γ E ⟨w, u.S⟩) (hb : Below w.heap.size w w') : ∃ os, os.Nodup ∧ RepE (w0.bd (u.more w w').S) w' Γ E os ∧ ∀ g ∈ os, g < w.heap.size := by
  obtain ⟨⟨h0, _⟩, h1, os, hn, hr⟩ := h
  have hb' := bel_on h0 hb
  exact ⟨os, hn, RepE.goes (B := w0.bd u.S) (S' := (u.more w w').S) (Goes.of_ext (u := ⟨w, u.S⟩) h0 hb' ((ExtS.refl D ⟨w, u.S⟩).below hb)) (fun _ h => .inl h) hr h1 (fun _ _ _ _ _ h => h.elim) (fun _ _ h => h), fun g hg => (hr.ge g hg).2⟩
theorem Knows.alloc {Γ : List (List AV)} {E : Env} {u : Gh} {w : World} {cur : Array Value} {t : TypeId} {s : List AV} {cs : List Value} (h : Knows w0 D Γ E ⟨w, u.S⟩) (hs : RepS (w0.bd (u.more w (w.alloc (.cells cur t))).S) (w.alloc (.cells cur t)) s cs [w.heap.size]) (hD : s.all (AV.okD D) = true) : Knows w0 D (Γ ++ [s]) (E ++ [cs]) (u.more w (w.alloc (.cells cur t))) := by
  have hb0 := bel_alloc w (.cells cur t)
  obtain ⟨os, hn, hr, hlt⟩ := h.new hb0
  refine ⟨⟨bel_on h.1.1 hb0, ShOk.more (u := ⟨w, u.S⟩) h.1.2 (Nat.le_refl _) hb0.size h.1.1.size⟩, ?_, os ++ [w.heap.size], ?_, RepE.snoc (B := w0.bd (u.more w (w.alloc (.cells cur t))).S) hr hs⟩
  · have h1 := h.2.1
    unfold okE at *; rw [List.all_append, h1]; simp [hD]
  · refine List.nodup_append.2 ⟨hn, by simp, fun a ha b hb e => ?_⟩
    have := hlt a ha
    simp at hb
    omega
end rules
end Cin

namespace Cin
open Go Go.RowKit
def AV.setRow : AV → Nat → List Pd → AV
  | .own g r rows, m, row => .own g r (rows.set m row)
  | .var g r _, _, row => .var g r row
  | a, _, _ => a
section rules
variable {P : Program} {J : Jd} {w0 : W0} {D : TypeId → Bool} {Post : Ending → World → Prop} {K : LK} {Γ : List (List AV)} {k : Tr}
end rules
end Cin

namespace Cin
open Go Go.RowKit
def junkL : List (List AV) → List (Nat × Nat) → List (List AV)
  | Γ, [] => Γ
  | Γ, (i, j) :: r => junkL (junkAt Γ i j) r
theorem junkAt_rep {B : Bd} {w : World} : ∀ {Γ : List (List AV)} {i k : Nat} {E : Env} {os : List Nat}, RepE B w Γ E os → ∃ os', RepE B w (junkAt Γ i k) E os' ∧ os'.Sublist os := by
  intro Γ
  induction Γ with
  | nil => intro i k E os h; exact ⟨os, h, List.Sublist.refl _⟩
  | cons s Γ ih =>
    intro i k E os h
    obtain ⟨cs, E', o1, o2, e, e2, h1, h2⟩ := h
    cases i with
    | zero =>
      have key : ∀ {s : List AV} {k : Nat} {cs : List Value} {o : List Nat}, RepS B w s cs o → ∃ o', RepS B w (junkS s k) cs o' ∧ o'.Sublist o := by
        intro s
        induction s with
        | nil => intro k cs o h; exact ⟨o, h, List.Sublist.refl _⟩
        | cons a s ihs =>
          intro k cs o h
          obtain ⟨c1, c2, p1, p2, f1, f2, h1, h2⟩ := h
          cases k with
          | zero => exact ⟨p2, ⟨c1, c2, [], p2, f1, rfl, h1.junk, h2⟩, by rw [f2]; exact List.sublist_append_right _ _⟩
          | succ k =>
            obtain ⟨o', h3, h4⟩ := ihs (k := k + 1 - a.n) h2
            exact ⟨p1 ++ o', ⟨c1, c2, p1, o', f1, rfl, h1, h3⟩, by rw [f2]; exact List.Sublist.append_left h4 _⟩
      obtain ⟨o', h3, h4⟩ := key (k := k) h1
      exact ⟨o' ++ o2, ⟨cs, E', o', o2, e, rfl, h3, h2⟩, by rw [e2]; exact List.Sublist.append_right h4 _⟩
    | succ i =>
      obtain ⟨o', h3, h4⟩ := ih (i := i) (k := k) h2
      exact ⟨o1 ++ o', ⟨cs, E', o1, o', e, rfl, h1, h3⟩, by rw [e2]; exact List.Sublist.append_left h4 _⟩
theorem Knows.junk {w0 : W0} {D : TypeId → Bool} {E : Env} {u : Gh} : ∀ {js : List (Nat × Nat)} {Γ : List (List AV)}, Knows w0 D Γ E u → Knows w0 D (junkL Γ js) E u
  | [], _, h => h
  | (i, j) :: js, Γ, ⟨h1, h2, os, hn, hr⟩ => by
    obtain ⟨os', h3, h4⟩ := junkAt_rep (i := i) (k := j) hr
    exact Knows.junk (js := js) (Γ := junkAt Γ i j) ⟨h1, junkAt_okE h2, os', hn.sublist h4, h3⟩
section rules
variable {P : Program} {J : Jd} {w0 : W0} {D : TypeId → Bool} {Post : Ending → World → Prop} {K : LK} {Γ : List (List AV)} {k : Tr}
end rules
end Cin

namespace Cin
open Go Go.RowKit
theorem RowsAt.cells {l : Lm} {r : Rty} {w : World} {c : Array Value} {o : Nat} {rows : List (List Pd)} (h : RowsAt r l w c o rows) :
    ∃ xs : List (List Value), xs.length = rows.length ∧ (∀ (i : Nat) (row : List Pd) (x : List Value), rows[i]? = some row → xs[i]? = some x → x.length = r.n ∧ RL l w row x) ∧ ∀ (k : Nat) (y : Value), xs.flatten[k]? = some y → c[o + k]? = some y := by
  have hx : ∀ i, ∃ x : List Value, ∀ row, rows[i]? = some row → x.length = r.n ∧ RL l w row x ∧ ∀ (j : Nat) (y : Value), x[j]? = some y → c[o + i * r.n + j]? = some y := by
    intro i
    cases hi : rows[i]? with
    | none => exact ⟨[], fun row h => by cases h⟩
    | some row =>
      obtain ⟨x, h1, h2, h3⟩ := h i row hi
      exact ⟨x, fun row' e => by cases e; exact ⟨h1, h2, h3⟩⟩
  obtain ⟨F, hF⟩ : ∃ F : Nat → List Value, ∀ (i : Nat) (row : List Pd), rows[i]? = some row → (F i).length = r.n ∧ RL l w row (F i) ∧ ∀ (j : Nat) (y : Value), (F i)[j]? = some y → c[o + i * r.n + j]? = some y := ⟨fun i => Classical.choose (hx i), fun i => Classical.choose_spec (hx i)⟩
  refine ⟨(List.range rows.length).map F, by simp, ?_, ?_⟩
  · intro i row x hi hxi
    have hlt := (List.getElem?_eq_some_iff.1 hi).1
    simp only [List.getElem?_map, List.getElem?_range hlt, Option.map_some, Option.some.injEq] at hxi
    subst hxi
    obtain ⟨h1, h2, _⟩ := hF i row hi
    exact ⟨h1, h2⟩
  · intro k y hk
    have hall : ∀ x ∈ (List.range rows.length).map F, x.length = r.n := by
      intro x hm
      obtain ⟨i, hi, rfl⟩ := List.mem_map.1 hm
      have hlt : i < rows.length := by simpa using hi
      exact (hF i rows[i] (List.getElem?_eq_getElem hlt)).1
    have hfl := flat_len hall
    rw [List.length_map, List.length_range] at hfl
    have hkl := (List.getElem?_eq_some_iff.1 hk).1
    rw [hfl] at hkl
    have hn : 0 < r.n := by rcases Nat.eq_zero_or_pos r.n with h | h; rw [h] at hkl; omega; exact h
    have hi : k / r.n < rows.length := (Nat.div_lt_iff_lt_mul hn).2 hkl
    have hj : k % r.n < r.n := Nat.mod_lt _ hn
    obtain ⟨h1, _, h3⟩ := hF (k / r.n) rows[k / r.n] (List.getElem?_eq_getElem hi)
    have hkk : k / r.n * r.n + k % r.n = k := by rw [Nat.mul_comm]; exact Nat.div_add_mod k r.n
    have e1 := flat_at (n := r.n) (xs := (List.range rows.length).map F) (i := k / r.n) (j := k % r.n) (x := F (k / r.n)) (y := (F (k / r.n))[k % r.n]'(by omega)) hall (by simp [hi]) (List.getElem?_eq_getElem (by omega))
    have e2 := h3 (k % r.n) _ (List.getElem?_eq_getElem (by omega))
    rw [hkk] at e1
    rw [Nat.add_assoc, hkk] at e2
    rw [e1] at hk
    cases hk
    exact e2
theorem RepV.sh {B : Bd} {w : World} {a : AV} {cs : List Value} {os : List Nat} (h : RepV B w a cs os) : ∀ g ∈ os, B.S g := by
  cases a with
  | ro old p => rw [h.2]; intro g hg; cases hg
  | own g r rows =>
    rcases h.2 with ⟨_, _, rfl⟩ | ⟨_, _, _, rfl, h1, _⟩
    · intro g hg; cases hg
    · intro g hg; simp at hg; subst hg; exact h1.2
  | var g r row => obtain ⟨_, _, rfl, h1, _⟩ := h; intro g hg; simp at hg; subst hg; exact h1.2
  | junk n => rw [h.2.2]; intro g hg; cases hg
section rules
variable {P : Program} {J : Jd} {w0 : W0} {D : TypeId → Bool} {Post : Ending → World → Prop} {K : LK} {Γ : List (List AV)} {k : Tr}
def ConvS (asx bs : List AV) : Prop := ∀ B w cs os, RepS B w asx cs os → RepS B w bs cs os
theorem ConvS.nil : ConvS [] [] := fun _ _ _ _ h => h
theorem ConvS.same {a : AV} {asx bs : List AV} (h : ConvS asx bs) : ConvS (a :: asx) (a :: bs) := fun B w _ _ ⟨c1, c2, o1, o2, e, e2, h1, h2⟩ => ⟨c1, c2, o1, o2, e, e2, h1, h B w _ _ h2⟩
theorem ConvS.own {o : Bool} {g : Nat} {r : Rty} {asx bs : List AV} (h : ConvS asx bs) : ConvS (.ro o (pV (.slice none 0 0)) :: asx) (.own g r [] :: bs) := fun B w _ _ ⟨c1, c2, o1, o2, e, e2, h1, h2⟩ =>
  ⟨c1, c2, o1, o2, e, e2, ⟨fun row h => (by cases h), .inl ⟨h1.1.1, rfl, h1.2⟩⟩, h B w _ _ h2⟩
theorem ConvS.rows {o : Bool} {r : Rty} {asx bs : List AV} (h : ConvS asx bs) : ConvS (.ro o (pV (.slice none 0 0)) :: asx) (.ro o (pRows r []) :: bs) := fun B w _ _ ⟨c1, c2, o1, o2, e, e2, h1, h2⟩ =>
  ⟨c1, c2, o1, o2, e, e2, ⟨⟨fun row h => (by cases h), .inl ⟨none, 0, h1.1.1, fun _ => rfl, rfl⟩⟩, h1.2⟩, h B w _ _ h2⟩
def RowC (r : Rty) (rows rows' : List (List Pd)) : Prop := rows'.length = rows.length ∧ ∀ (i : Nat) (row row' : List Pd), rows[i]? = some row → rows'[i]? = some row' → r.Fit row → r.Fit row' ∧ ∀ l w x, RL l w row x → RL l w row' x
theorem RowC.at {r : Rty} {rows rows' : List (List Pd)} {l : Lm} {w : World} {c : Array Value} {o : Nat} (h : RowC r rows rows') (hf : ∀ row ∈ rows, r.Fit row) (ha : RowsAt r l w c o rows) : RowsAt r l w c o rows' := fun i row' hi => by
  have hlt := (List.getElem?_eq_some_iff.1 hi).1
  obtain ⟨row, hr⟩ : ∃ row, rows[i]? = some row := ⟨_, List.getElem?_eq_getElem (by rw [h.1] at hlt; exact hlt)⟩
  obtain ⟨x, h1, h2, h3⟩ := ha i row hr
  exact ⟨x, h1, (h.2 i row row' hr hi (hf row (List.mem_of_getElem? hr))).2 _ _ _ h2, h3⟩
end rules
end Cin

namespace Cin
open Go Go.RowKit Go.ChangeShapes Go.WideShapes
def J0 : Jd := ⟨fun _ => True, fun _ _ => trivial⟩
theorem wrapI {z : Int} (h0 : -9223372036854775808 ≤ z) (h1 : z ≤ 9223372036854775807) : IntKind.i64.wrap z = z := by
  unfold IntKind.wrap
  simp [IntKind.signed, IntKind.bits]
  omega
theorem wrapU {z : Int} (h0 : 0 ≤ z) (h1 : z ≤ 255) : IntKind.u8.wrap z = z := by
  unfold IntKind.wrap
  simp [IntKind.signed, IntKind.bits]
  omega
section prims
variable {P : Program} {t t2 ty : TypeId} {vs : List Value} {p q : Operand} {x y z : Int}
theorem qAdd (hp : pe vs p = .int .i64 x) (hq : pe vs q = .int .i64 y) (h0 : -9223372036854775808 ≤ x + y) (h1 : x + y ≤ 9223372036854775807) : PrimOk P (.binOp .add t p q t2) ty vs (.int .i64 (x + y)) := fun w => by
  simp only [execOp, hp, hq]
  simp [eqGuard, binOp, Op.intArith, wrapI h0 h1]
theorem qAddE (hp : pe vs p = .int .i64 x) (hq : pe vs q = .int .i64 y) (h : x + y = z) (h0 : -9223372036854775808 ≤ z) (h1 : z ≤ 9223372036854775807) : PrimOk P (.binOp .add t p q t2) ty vs (.int .i64 z) := by subst h; exact qAdd hp hq h0 h1
theorem qNeg (hp : pe vs p = .int .i64 x) (h0 : -9223372036854775807 ≤ x) (h1 : x ≤ 9223372036854775807) : PrimOk P (.unOp .neg t p) ty vs (.int .i64 (-x)) := fun w => by
  simp only [execOp, hp]
  have e : (0 : Int) - x = -x := by omega
  simp [Op.unary, Op.intArith, wrapI (z := -x) (by omega) (by omega)]
theorem qMax {T T' : TypeId} (hp : pe vs p = .int .i64 x) (hq : pe vs q = .int .i64 y) (h : max x y = z) : PrimOk P (.call { callee := .builtin .max, args := #[p, q], argTypes := #[T, T'] }) ty vs (.int .i64 z) := fun w => by
  have e : max x y = if y > x then y else x := by split <;> omega
  rw [← h, e]
  simp [execOp, resolve, hp, hq, invoke, builtin, Builtin.max_, Builtin.max2]
theorem uAdd (hp : pe vs p = .int .u8 x) (hq : pe vs q = .int .u8 y) (h : x + y = z) (h0 : 0 ≤ z) (h1 : z ≤ 255) : PrimOk P (.binOp .add t p q t2) ty vs (.int .u8 z) := fun w => by
  subst h
  simp only [execOp, hp, hq]
  simp [eqGuard, binOp, Op.intArith, wrapU h0 h1]
theorem cvU {s d : TypeId} {us : TypeDesc} (hs : P.underlying s = some us) (hd : P.underlying d = some (.int .i64)) (hp : pe vs p = .int .u8 x) (h0 : 0 ≤ x) (h1 : x ≤ 255) : PrimOk P (.convert s d p) ty vs (.int .i64 x) := fun w => by
  simp only [execOp, hp]
  simp [convert, run_underlying hs, run_underlying hd, Conv.intToInt, wrapI (z := x) (by omega) (by omega)]
end prims
abbrev M := Nat × Nat × Nat
abbrev M.ok (a : M) : Prop := a.1 ≤ 255 ∧ a.2.1 ≤ 255 ∧ a.2.2 ≤ 255
abbrev mV (a : M) : List Pd := [pV (.int .u8 (a.1 : Nat)), pV (.int .u8 (a.2.1 : Nat)), pV (.int .u8 (a.2.2 : Nat))]
def dg (a : M) : Nat := a.1 + a.2.1 + a.2.2
def vr (a : M) : Nat := if a.2.2 ≠ 0 then 3 else if a.2.1 ≠ 0 then 2 else if a.1 ≠ 0 then 1 else 0
def sgI (x y : Int) : Int := if x < y then -1 else if y < x then 1 else 0
def mc (a b : M) : Int := if sgI (dg a) (dg b) ≠ 0 then sgI (dg a) (dg b) else if sgI a.1 b.1 ≠ 0 then sgI a.1 b.1 else if sgI a.2.1 b.2.1 ≠ 0 then sgI a.2.1 b.2.1 else sgI a.2.2 b.2.2
def dv (a b : M) : Bool := decide (a.1 ≤ b.1) && decide (a.2.1 ≤ b.2.1) && decide (a.2.2 ≤ b.2.2)
def mulOk (a b : M) : Bool := decide (a.1 + b.1 ≤ 255) && decide (a.2.1 + b.2.1 ≤ 255) && decide (a.2.2 + b.2.2 ≤ 255)
def mulM (a b : M) : M := if mulOk a b then (a.1 + b.1, a.2.1 + b.2.1, a.2.2 + b.2.2) else (0, 0, 0)
theorem mulM_ok (a b : M) : (mulM a b).ok := by
  unfold mulM
  split
  · rename_i h
    simp only [mulOk, Bool.and_eq_true, decide_eq_true_eq] at h
    exact ⟨h.1.1, h.1.2, h.2⟩
  · exact ⟨by decide, by decide, by decide⟩
section eqs
variable {P : Program} {w : World}
theorem run_eq3 {t e : TypeId} {i : TypeInfo} (d : Nat) (a b : M) (hu : P.underlying t = some (.array 3 e)) (he : P.underlying e = some (.int .u8)) (hi : P.info? e = some i) (hs : i.size = 1) :
    (Op.equalIn (d + 2) t (.agg #[.int .u8 (a.1 : Nat), .int .u8 (a.2.1 : Nat), .int .u8 (a.2.2 : Nat)]) (.agg #[.int .u8 (b.1 : Nat), .int .u8 (b.2.1 : Nat), .int .u8 (b.2.2 : Nat)])).run P w = .ok (decide (a = b)) w := by
  rw [run_equalIn_array w (d + 1) _ _ hu hi]
  have hc : P.cellsOf e = 1 := by simp [Program.cellsOf, hi, hs]
  have pt : ∀ (w : World) (xs : Array Value) (j : Nat) (v : Value), xs[j]? = some v → (part e xs j).run P w = .ok v w := fun w xs j v hx => by
    unfold part isAgg
    simp [run_underlying he, hx]
  obtain ⟨a0, a1, a2⟩ := a
  obtain ⟨b0, b1, b2⟩ := b
  have r3 : List.range 3 = [0, 1, 2] := rfl
  rw [r3, hc]
  have e0 : ∀ (w : World) (x y : Nat), (Op.equalIn (d + 1) e (.int .u8 (x : Int)) (.int .u8 (y : Int))).run P w = .ok (decide (x = y)) w := fun w x y => by
    rw [run_equalIn_int (P := P) w d e .u8 .u8 (x : Int) (y : Int) he]
    congr 1
    by_cases h : x = y <;> simp [h]
    omega
  have p0 := fun (w : World) (x y z : Nat) => pt w #[.int .u8 (x : Nat), .int .u8 (y : Nat), .int .u8 (z : Nat)] 0 _ rfl
  have p1 := fun (w : World) (x y z : Nat) => pt w #[.int .u8 (x : Nat), .int .u8 (y : Nat), .int .u8 (z : Nat)] 1 _ rfl
  have p2 := fun (w : World) (x y z : Nat) => pt w #[.int .u8 (x : Nat), .int .u8 (y : Nat), .int .u8 (z : Nat)] 2 _ rfl
  by_cases h0 : a0 = b0 <;> by_cases h1 : a1 = b1 <;> by_cases h2 : a2 = b2 <;> simp [h0, h1, h2, Op.eqItems, p0, p1, p2, e0]
theorem qEq3 {t e t2 ty : TypeId} {i : TypeInfo} {vs : List Value} {p q : Operand} (a b : M) (hu : P.underlying t = some (.array 3 e)) (he : P.underlying e = some (.int .u8)) (hi : P.info? e = some i) (hs : i.size = 1) (hm : P.eqGuardType P.depth t = false)
    (hp : pe vs p = .agg #[.int .u8 (a.1 : Nat), .int .u8 (a.2.1 : Nat), .int .u8 (a.2.2 : Nat)]) (hq : pe vs q = .agg #[.int .u8 (b.1 : Nat), .int .u8 (b.2.1 : Nat), .int .u8 (b.2.2 : Nat)]) : PrimOk P (.binOp .eql t p q t2) ty vs (.bool (decide (a = b))) := fun w => by
  simp only [execOp, hp, hq]
  simp only [Sem.run_bind, run_eqGuard_agg w _ _ _ _ _ _ hm, Result.andThen_ok, run_eql_struct, run_eq3 9998 a b hu he hi hs]
  simp
theorem qNe3 {t e t2 ty : TypeId} {i : TypeInfo} {vs : List Value} {p q : Operand} (a b : M) (hu : P.underlying t = some (.array 3 e)) (he : P.underlying e = some (.int .u8)) (hi : P.info? e = some i) (hs : i.size = 1) (hm : P.eqGuardType P.depth t = false)
    (hp : pe vs p = .agg #[.int .u8 (a.1 : Nat), .int .u8 (a.2.1 : Nat), .int .u8 (a.2.2 : Nat)]) (hq : pe vs q = .agg #[.int .u8 (b.1 : Nat), .int .u8 (b.2.1 : Nat), .int .u8 (b.2.2 : Nat)]) : PrimOk P (.binOp .neq t p q t2) ty vs (.bool (!decide (a = b))) := fun w => by
  simp only [execOp, hp, hq]
  simp only [Sem.run_bind, run_eqGuard_agg w _ _ _ _ _ _ hm, Result.andThen_ok, run_neq_struct, run_eq3 9998 a b hu he hi hs]
  simp
end eqs
section card
variable {H : Type} {enc : TypeId × Value → H} {P : Program} {w : World} {base : Nat} {spare : Nat → Bool} {held : Bool}
theorem wfU {x : Int} (h : (Lit.int .u8 x).wf = true) : ∃ n : Nat, x = n ∧ n ≤ 255 := by
  simp [Lit.wf, IntKind.min, IntKind.max, IntKind.signed, IntKind.bits] at h
  exact ⟨x.toNat, by omega, by omega⟩
theorem uWf {n : Nat} (h : n ≤ 255) : (Lit.int .u8 (n : Int)).wf = true := by
  simp [Lit.wf, IntKind.min, IntKind.max, IntKind.signed, IntKind.bits]
  omega
theorem open_m3 {r : Reach} {b0 : Nat} {t e : TypeId} {v : Value} {d : DataW H} {ps : List MemPlace} (ht : P.underlying t = some (.array 3 e)) (he : P.underlying e = some (.int .u8)) (ct : P.cellsOf t = 3) (ce : P.cellsOf e = 1)
    (hval : Value.okWide P w r b0 t v) (hd : DataW.Trod enc P w base spare held t v d ps) :
    ∃ a : M, v = .agg #[.int .u8 (a.1 : Nat), .int .u8 (a.2.1 : Nat), .int .u8 (a.2.2 : Nat)] ∧ d = .agg [.lit (.int .u8 (a.1 : Nat)), .lit (.int .u8 (a.2.1 : Nat)), .lit (.int .u8 (a.2.2 : Nat))] ∧ ps = [] ∧ a.ok := by
  simp only [Value.okWide, ht] at hval
  obtain ⟨cs, rfl, hsz, _⟩ := hval
  rw [ct] at hsz
  obtain ⟨l⟩ := cs
  match l, hsz with
  | [c0, c1, c2], _ =>
    obtain ⟨fuel, hf⟩ := hd
    obtain ⟨y0, y1, y2, n, hx, h0, h1, h2⟩ := trod_array3 ht ce hf
    obtain ⟨x0, e0, rfl, w0⟩ := DataW.trod_int he h0
    obtain ⟨x1, e1, rfl, w1⟩ := DataW.trod_int he h1
    obtain ⟨x2, e2, rfl, w2⟩ := DataW.trod_int he h2
    obtain ⟨n0, rfl, k0⟩ := wfU w0
    obtain ⟨n1, rfl, k1⟩ := wfU w1
    obtain ⟨n2, rfl, k2⟩ := wfU w2
    simp only [Prod.mk.injEq] at hx
    refine ⟨(n0, n1, n2), ?_, hx.1, by rw [hx.2]; rfl, k0, k1, k2⟩
    simp only [List.cons.injEq, and_true] at e0 e1 e2
    rw [e0, e1, e2]
theorem shut_m3 {t e : TypeId} {a : M} (ht : P.underlying t = some (.array 3 e)) (he : P.underlying e = some (.int .u8)) (ct : P.cellsOf t = 3) (ce : P.cellsOf e = 1) (ha : a.ok) :
    DataW.Trod enc P w base spare held t (.agg #[.int .u8 (a.1 : Nat), .int .u8 (a.2.1 : Nat), .int .u8 (a.2.2 : Nat)]) (.agg [.lit (.int .u8 (a.1 : Nat)), .lit (.int .u8 (a.2.1 : Nat)), .lit (.int .u8 (a.2.2 : Nat))]) [] := by
  refine ⟨2, ?_⟩
  have r3 : List.range 3 = [0, 1, 2] := rfl
  have g : ∀ n : Nat, n ≤ 255 → DataW.trod enc P w base spare held 1 e [.int .u8 (n : Nat)] = some (.lit (.int .u8 (n : Nat)), []) := fun n hn => trod_int_mk 0 he (uWf hn)
  unfold DataW.trod
  rw [ht]
  simp [r3, ce, ct, Value.cells, g _ ha.1, g _ ha.2.1, g _ ha.2.2]
end card
end Cin
