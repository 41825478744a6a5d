/- Rules: calls, conditions, plain operations, loops, what is told. No program. -/
import Derived.Test.YtpmnakjllkidiaaGreatDoorYu
namespace Cin
open Go Go.RowKit
section knows
variable {w0 : W0} {D : TypeId → Bool} {Γ : List (List AV)} {E : Env} {u : Gh}
theorem Knows.rep (h : Knows w0 D Γ E u) : ∃ os, RepE (w0.bd u.S) u.w Γ E os := let ⟨_, _, os, _, hr⟩ := h; ⟨os, hr⟩
theorem Knows.snoc {s : List AV} {cs : List Value} (h : Knows w0 D Γ E u) (hs : ∀ os, RepE (w0.bd u.S) u.w Γ E os → ∃ o, RepS (w0.bd u.S) u.w s cs o ∧ o.Nodup ∧ ∀ g ∈ o, g ∉ os) (hD : s.all (AV.okD D) = true) : Knows w0 D (Γ ++ [s]) (E ++ [cs]) u := by
  obtain ⟨hb, h1, os, hn, hr⟩ := h
  obtain ⟨o, h2, h3, h4⟩ := hs os hr
  refine ⟨hb, ?_, os ++ o, ?_, hr.snoc h2⟩
  · unfold okE at *; rw [List.all_append, h1]; simp [hD]
  · exact List.nodup_append.2 ⟨hn, h3, fun a ha b hb e => h4 b hb (e ▸ ha)⟩
theorem Knows.val {v : Value} (h : Knows w0 D Γ E u) (hv : v.oneCell' = true) : Knows w0 D (Γ ++ [[.ro true (pV v)]]) (E ++ [[v]]) u :=
  h.snoc (fun _ _ => ⟨[], RepS.one_of ⟨⟨rfl, hv⟩, rfl⟩, List.nodup_nil, fun g hg => by cases hg⟩) rfl
end knows
def AV.noOld : AV → Bool
  | .ro old _ => !old
  | _ => true
theorem RepV.low {B B' : Bd} {w : World} {a : AV} {cs : List Value} {os : List Nat} (h : RepV B w a cs os) (hB : B'.b ≤ B.b) (h0 : B'.b0 = B.b0) (hS : B'.S = B.S) (ho : a.noOld = true) : RepV B' w a cs os := by
  have hnn : B'.nn = B.nn := by unfold Bd.nn; rw [h0, hS]
  cases a with
  | ro old p =>
    simp only [AV.noOld, Bool.not_eq_true'] at ho
    subst ho
    have e : limOf B' false = limOf B false := by simp [limOf, h0, hS]
    show p.R (limOf B' false) w cs ∧ os = []
    rw [e]; exact h
  | own g r rows =>
    refine ⟨h.1, ?_⟩
    rw [hnn]
    rcases h.2 with h' | ⟨cap, cur, e, h1, h2, h3⟩
    · exact .inl h'
    · exact .inr ⟨cap, cur, e, h1, ⟨Nat.le_trans hB h2.1, hS ▸ h2.2⟩, h3⟩
  | var g r row => obtain ⟨h1, h2, h3, h4, h5⟩ := h; exact ⟨h1, h2, h3, ⟨Nat.le_trans hB h4.1, hS ▸ h4.2⟩, by rw [hnn]; exact h5⟩
  | junk n => exact h
theorem RepS.low {B B' : Bd} {w : World} (hB : B'.b ≤ B.b) (h0 : B'.b0 = B.b0) (hS : B'.S = B.S) : ∀ {s : List AV} {cs : List Value} {os : List Nat}, RepS B w s cs os → s.all AV.noOld = true → RepS B' w s cs os
  | [], _, _, h, _ => h
  | a :: r, _, _, ⟨c1, c2, o1, o2, e, e2, h1, h2⟩, ho => by
    simp only [List.all_cons, Bool.and_eq_true] at ho
    exact ⟨c1, c2, o1, o2, e, e2, h1.low hB h0 hS ho.1, h2.low hB h0 hS ho.2⟩
def AV.new : AV → AV
  | .ro _ p => .ro false p
  | a => a
theorem RepV.new {B : Bd} {w : World} {a : AV} {cs : List Value} {os : List Nat} (h : RepV B w a cs os) : RepV B w a.new cs os := by
  cases a with
  | ro old p =>
    cases old with
    | true => exact ⟨p.lim h.1, h.2⟩
    | false => exact h
  | own g r rows => exact h
  | var g r row => exact h
  | junk n => exact h
theorem RepS.new {B : Bd} {w : World} : ∀ {s : List AV} {cs : List Value} {os : List Nat}, RepS B w s cs os → RepS B w (s.map AV.new) cs os
  | [], _, _, h => h
  | _ :: _, _, _, ⟨c1, c2, o1, o2, e, e2, h1, h2⟩ => ⟨c1, c2, o1, o2, e, e2, h1.new, h2.new⟩
theorem kept_refl {nu sl : List TypeId} {l : Lm} {w : World} : Kept nu sl l w w := ⟨Nat.le_refl _, fun _ _ h _ => h⟩
theorem RepV.more {B : Bd} {S : Nat → Prop} (hS : ∀ b, B.S b → S b) {w : World} {a : AV} {cs : List Value} {os : List Nat} (h : RepV B w a cs os) : RepV (B.sh S) w a cs os := by
  have hrl : ∀ {c : Array Value} {o : Nat} {r : Rty} {rows : List (List Pd)}, (∀ row ∈ rows, r.Fit row) → RowsAt r B.nn w c o rows → RowsAt r (B.sh S).nn w c o rows := fun hf h =>
    h.imp fun row hm x hx => RL.mono hS kept_refl (hf row hm) hx
  cases a with
  | ro old p => exact ⟨p.mono hS kept_refl h.1, h.2⟩
  | own g r rows =>
    refine ⟨h.1, ?_⟩
    rcases h.2 with h' | ⟨cap, cur, e, ho, hB, hg, i1, i2, i3, hrow⟩
    · exact .inl h'
    · exact .inr ⟨cap, cur, e, ho, ⟨hB.1, hS _ hB.2⟩, hg, i1, i2, i3, hrl h.1 hrow⟩
  | var g r row =>
    obtain ⟨hf, e, ho, hB, x, hg, hs, hrow⟩ := h
    exact ⟨hf, e, ho, ⟨hB.1, hS _ hB.2⟩, x, hg, hs, hrl (fun row hm => by simp at hm; rw [hm]; exact hf) hrow⟩
  | junk n => exact h
theorem RepS.more {B : Bd} {S : Nat → Prop} (hS : ∀ b, B.S b → S b) {w : World} : ∀ {s : List AV} {cs : List Value} {os : List Nat}, RepS B w s cs os → RepS (B.sh S) w s cs os
  | [], _, _, h => h
  | _ :: _, _, _, ⟨c1, c2, o1, o2, e, e2, h1, h2⟩ => ⟨c1, c2, o1, o2, e, e2, h1.more hS, RepS.more hS h2⟩
def svShp : SV → Option (List (Option Nat))
  | .v y => some [y.shp]
  | .t [] => some []
  | .t [_] => none
  | .t l => some (l.map V1.shp)
  | _ => none
theorem v1of_at (E : Env) (x : V1) (pre post : List Value) : (v1of 0 pre.length x.shp).den [] [pre ++ x.atoms.map (A.den [] E) ++ post] = x.den [] E := by
  cases x with
  | s a => simp [V1.shp, v1of, V1.den, A.den, V1.atoms]
  | g l =>
    simp only [V1.shp, v1of, V1.den]
    congr 2
    refine List.ext_getElem? fun j => ?_
    simp only [List.getElem?_map]
    by_cases hj : j < l.length
    · rw [List.getElem?_range' hj, List.getElem?_eq_getElem hj]
      have e : ¬ pre.length + j < pre.length := by omega
      simp [A.den, V1.atoms, hj, List.getElem?_append, e]
    · rw [List.getElem?_eq_none (by simp; omega), List.getElem?_eq_none (by omega)]; rfl
theorem svs_at (E : Env) : ∀ (l : List V1) (pre : List Value), (svs 0 pre.length (l.map V1.shp)).map (V1.den [] [pre ++ (l.flatMap V1.atoms).map (A.den [] E)]) = l.map (V1.den [] E)
  | [], pre => rfl
  | x :: r, pre => by
    simp only [List.map_cons, svs, List.flatMap_cons, List.map_append]
    congr 1
    · have := v1of_at E x pre ((r.flatMap V1.atoms).map (A.den [] E))
      simpa using this
    · have := svs_at E r (pre ++ x.atoms.map (A.den [] E))
      have hl : (pre ++ x.atoms.map (A.den [] E)).length = pre.length + x.shp.getD 1 := by
        cases x <;> simp [V1.shp, V1.atoms]
      rw [hl] at this
      simpa using this
theorem ret_den {E : Env} {x : SV} {sh : List (Option Nat)} (h : svShp x = some sh) : x.den [] E = (mkSV sh 0).den [] [x.atoms.map (A.den [] E)] := by
  cases x with
  | v y =>
    cases h
    have := v1of_at E y [] []
    simpa [mkSV, SV.den, SV.atoms] using this.symm
  | t l =>
    match l, h with
    | [], h => cases h; rfl
    | a :: b :: r, h =>
      cases h
      have := svs_at E (a :: b :: r) []
      simp only [SV.den, SV.atoms]
      show _ = SV.den [] _ (SV.t (svs 0 0 _))
      simp only [SV.den]
      congr 2
      exact this.symm
  | u => cases h
  | any => cases h
section rules
variable {P : Program} {J : Jd} {w0 : W0} {D : TypeId → Bool} {Post : Ending → World → Prop} {K : LK} {Γ : List (List AV)} {k : Tr}
theorem aIf {c : A} {x y : Tr} {b : Bool} (hc : knownA Γ c = some (.bool b)) (h1 : b = true → AW P J w0 D Post K Γ x) (h2 : b = false → AW P J w0 D Post K Γ y) : AW P J w0 D Post K Γ (.cond c x y) :=
  fun hJ L E u hL hk => let ⟨_, hr⟩ := hk.rep; ⟨b, knownA_ok hr hc, fun e => h1 e hJ L E u hL hk, fun e => h2 e hJ L E u hL hk⟩
theorem aTwo {x y : Tr} (h1 : AW P J w0 D Post K Γ x) (h2 : AW P J w0 D Post K Γ y) : AW P J w0 D Post K Γ (.both x y) := fun hJ L E u hL hk => ⟨h1 hJ L E u hL hk, h2 hJ L E u hL hk⟩
theorem aTrue {c : A} {x y : Tr} (hc : knownA Γ c = some (.bool true)) (h1 : AW P J w0 D Post K Γ x) : AW P J w0 D Post K Γ (.cond c x y) := aIf hc (fun _ => h1) (fun h => by cases h)
theorem aFalse {c : A} {x y : Tr} (hc : knownA Γ c = some (.bool false)) (h1 : AW P J w0 D Post K Γ y) : AW P J w0 D Post K Γ (.cond c x y) := aIf hc (fun h => by cases h) (fun _ => h1)
theorem aPr {op : Op} {ty : TypeId} {ar : List V1} {vs : List Value} {v : Value} {Γ' : List (List AV)} (hn : knownL Γ ar = some vs) (h : PrimOk P op ty vs v) (hv : v.oneCell' = true) (hk : AW P J w0 D Post K Γ' k)
    (hΓ : Γ ++ [[.ro true (pV v)]] = Γ' := by (simp only [List.cons_append, List.nil_append]) <;> exact rfl) : AW P J w0 D Post K Γ (.em (.pr op ty ar) k) := fun hJ L E u hL h0 => by
  obtain ⟨os, hr⟩ := h0.rep
  refine ⟨v, by rw [knownL_ok hr hn]; exact h, hv, hk hJ L _ u hL.ext ?_⟩
  subst hΓ
  exact h0.val hv
theorem aPrE {op : Op} {ty : TypeId} {ar : List V1} {vs : List Value} {v v' : Value} {Γ' : List (List AV)} (hn : knownL Γ ar = some vs) (h : PrimOk P op ty vs v) (e : v = v') (hv : v'.oneCell' = true) (hk : AW P J w0 D Post K Γ' k)
    (hΓ : Γ ++ [[.ro true (pV v')]] = Γ' := by (simp only [List.cons_append, List.nil_append]) <;> exact rfl) : AW P J w0 D Post K Γ (.em (.pr op ty ar) k) := by
  subst e; exact aPr hn h hv hk hΓ
theorem aCall {J1 : Jd} {f : FuncId} {ar : List V1} {sh : List (Option Nat)} {asx : List (List Pd)} {rs : (Nat → Nat) → List AV} {Γ' : (Nat → Nat) → List (List AV)} (ha : gathL Γ ar = some asx) (hc : Ct P J1 f (ar.map V1.shp) asx sh rs) (hk : ∀ γ, AW P J w0 D Post K (Γ' γ) k)
    (hs : ∀ γ, ((rs γ).all (AV.okD D) && (rs γ).all AV.noOld) = true := by intros; rfl) (hΓ : ∀ γ, Γ ++ [rs γ] = Γ' γ := by intros; (simp only [List.cons_append, List.nil_append]) <;> exact rfl) (hw : ∀ w, J.J w → J1.J w := by intro w h; first | exact h | exact h.1) : AW P J w0 D Post K Γ (.em (.call f ar sh) k) := by
  intro hJ L E u hL h0 w he hb
  have h1 := h0.ext he hb
  obtain ⟨⟨_, hsh⟩, hD, os, hn, hr⟩ := h1
  have hlt : ∀ b, u.S b → b < w.heap.size := fun b h => hsh.lt hb.size b h
  have hh := hc ⟨w, w0.b0, Nat.le_trans w0.le hb.size, u.S, hlt⟩ _ (hw _ (J.below hb hJ)) (gathL_ok hr ha)
  unfold argV at hh
  have e := argV_of E ar []
  simp only [List.length_nil, List.nil_append] at e
  rw [e] at hh
  refine hh.mono ?_
  rintro e1 w' ⟨cs, os', γ, he1, hn', hs', hb'⟩
  have hsγ := hs γ
  simp only [Bool.and_eq_true] at hsγ
  have hb2 : Below w0.w.heap.size w0.w w' := bel_on hb hb'
  refine ⟨cs, he1, hs'.one, hb', ?_⟩
  refine hk γ hJ L _ (u.more w w') hL.ext ?_
  rw [← hΓ γ]
  refine ⟨⟨hb2, h0.1.2.more he.size hb'.size hb.size⟩, ?_, os ++ os', ?_, RepE.snoc (B := w0.bd (u.more w w').S) (RepE.goes (B := w0.bd u.S) (S' := (u.more w w').S) (Goes.of_ext (u := ⟨w, u.S⟩) hb hb2 ((ExtS.refl D ⟨w, u.S⟩).below hb')) (fun _ h => .inl h) hr hD (fun _ _ _ _ _ h => h.elim) (fun _ _ h => h)) (RepS.low (B := (⟨w, w0.b0, Nat.le_trans w0.le hb.size, u.S, hlt⟩ : W0).bd (u.more w w').S) (B' := w0.bd (u.more w w').S) hb.size rfl rfl hs' hsγ.2)⟩
  · unfold okE at *; rw [List.all_append, hD]; simp [hsγ.1]
  · refine List.nodup_append.2 ⟨hn, hn', fun a ha b hb e => ?_⟩
    have h1 := (hr.ge a ha).2
    have h2 : w.heap.size ≤ b := (hs'.ge b hb).1
    (have h1 : a < w.heap.size := h1); omega
theorem aRet {x : SV} {avs : List AV} {Γ' : List (List AV)} {sh : List (Option Nat)} {rs : (Nat → Nat) → List AV} (γ : Nat → Nat) (ht : takeL Γ x.atoms = some (avs, Γ')) (hsh : svShp x = some sh) (hr : avs.map AV.new = rs γ) : AW P J w0 D (TellsA w0 sh rs) K Γ (.ret x) := by
  intro hJ L E u hL h0 w he hb
  have h1 := h0.ext he hb
  obtain ⟨⟨_, _, os, hn, hr1⟩, hl⟩ := takeL_ok h1 ht
  obtain ⟨E1, E2, o1, o2, e1, e2, h2, cs, E', o3, o4, e3, e4, h3, e5, e6⟩ := hr1.split
  have hEl : E1.length = E.length := by rw [h2.len, hl, ← (let ⟨_, _, _, _, h⟩ := h1; h.len : E.length = Γ.length)]
  have hcs : cs = x.atoms.map (A.den [] E) := by
    subst e5
    rw [e3] at e1
    have := List.append_inj e1 hEl.symm
    have := this.2
    simp at this
    exact this.symm
  subst hcs
  refine ⟨_, o3, γ, by rw [ret_den hsh], ?_, by rw [← hr]; exact RepS.more (fun b h => h0.1.2.on he.size b h) h3.new, hb⟩
  rw [e2, e4] at hn
  exact (List.nodup_append.1 (List.nodup_append.1 hn).2.1).1
theorem LOk.upd {L : LC} {E : Env} {d n : Nat} {Q : List (List AV) → List AV → Prop} {C : List Value → Gh → Prop} {cs : List Value} (hL : LOk w0 D K L E) (hd : d ≤ K.length) (hn : n = E.length)
    (h : ∀ cs u G avs, Q G avs → Knows w0 D (G ++ [avs]) (E ++ [cs]) u → C cs u) : LOk w0 D (K.take d ++ [(n, Q)]) (updL L d C) (E ++ [cs]) := by
  intro d' n' Q' hK
  have hlen : (K.take d).length = d := by rw [List.length_take]; omega
  by_cases e : d' < d
  · rw [List.getElem?_append_left (by omega), List.getElem?_take, if_pos e] at hK
    obtain ⟨h1, h2⟩ := hL.ext (E' := [cs]) d' n' Q' hK
    exact ⟨h1, fun cs' u G avs hQ hk => by unfold updL; rw [if_neg (by omega)]; exact h2 cs' u G avs hQ hk⟩
  · rw [List.getElem?_append_right (by omega), hlen] at hK
    have he : d' = d := by
      by_cases h0 : d' - d = 0
      · omega
      · rw [List.getElem?_eq_none (by simp; omega)] at hK; cases hK
    subst he
    simp only [Nat.sub_self, List.getElem?_cons_zero, Option.some.injEq, Prod.mk.injEq] at hK
    obtain ⟨rfl, rfl⟩ := hK
    refine ⟨by rw [List.length_append]; omega, fun cs' u G avs hQ hk => ?_⟩
    unfold updL
    rw [if_pos rfl]
    refine h cs' u G avs hQ ?_
    rwa [List.take_append_of_le_length (by omega), hn, List.take_length] at hk
theorem aLoopG {σ : Type} {d : Nat} {init : List A} {body : Tr} (G : σ → List (List AV)) (I : σ → List AV) (pr : σ → Prop) (μ : σ → Nat) (s0 : σ) (h0 : takeL Γ init = some (I s0, G s0)) (hp : pr s0) {K' : σ → LK} {Γ' : σ → List (List AV)}
    (hk : ∀ s, pr s → AW P J w0 D Post (K' s) (Γ' s) body) (hd : Nat.ble d K.length = true)
    (hK : ∀ s, K.take d ++ [(Γ.length, fun G' avs => ∃ s', G' = G s' ∧ avs = I s' ∧ pr s' ∧ μ s' < μ s)] = K' s) (hΓ : ∀ s, G s ++ [I s] = Γ' s) :
    AW P J w0 D Post K Γ (.loop d init body) := by
  intro hJ L E u hL hk0
  obtain ⟨h1, _⟩ := takeL_ok hk0 h0
  have hEl : E.length = Γ.length := let ⟨_, _, _, _, h⟩ := hk0; h.len
  refine ⟨fun m cs u => ∃ s, μ s = m ∧ pr s ∧ Knows w0 D (G s ++ [I s]) (E ++ [cs]) u, μ s0, ⟨s0, rfl, hp, h1⟩, ?_⟩
  rintro m cs u' _ _ _ ⟨s, rfl, hps, hks⟩
  refine hk s hps hJ _ _ u' ?_ (hΓ s ▸ hks)
  rw [← hK s]
  refine hL.upd (Nat.le_of_ble_eq_true hd) hEl.symm ?_
  rintro cs' u'' G' avs ⟨s', rfl, rfl, h2, h3⟩ h4
  exact ⟨μ s', h3, s', rfl, h2, h4⟩
theorem aLoop {σ : Type} {d : Nat} {init : List A} {body : Tr} (I : σ → List AV) (pr : σ → Prop) (μ : σ → Nat) (s0 : σ) (h0 : takeL Γ init = some (I s0, Γ)) (hp : pr s0) {K' : σ → LK} {Γ' : σ → List (List AV)}
    (hk : ∀ s, pr s → AW P J w0 D Post (K' s) (Γ' s) body) (hd : Nat.ble d K.length = true := by rfl)
    (hK : ∀ s, K.take d ++ [(Γ.length, fun G' avs => ∃ s', G' = Γ ∧ avs = I s' ∧ pr s' ∧ μ s' < μ s)] = K' s := by intros; (simp only [List.take_nil, List.take_zero, List.take_succ_cons, List.nil_append, List.cons_append]) <;> exact rfl)
    (hΓ : ∀ s, Γ ++ [I s] = Γ' s := by intros; (simp only [List.cons_append, List.nil_append]) <;> exact rfl) :
    AW P J w0 D Post K Γ (.loop d init body) :=
  aLoopG (fun _ => Γ) I pr μ s0 h0 hp hk hd hK hΓ
theorem RepE.take {B : Bd} {w : World} : ∀ {Γ : List (List AV)} {E : Env} {os : List Nat} (n : Nat), RepE B w Γ E os → ∃ o1 o2, os = o1 ++ o2 ∧ RepE B w (Γ.take n) (E.take n) o1
  | Γ, E, os, 0, _ => ⟨[], os, rfl, by simp [RepE]⟩
  | [], E, os, n + 1, h => by rw [h.1, h.2]; exact ⟨[], [], rfl, by simp [RepE]⟩
  | s :: Γ, _, _, n + 1, ⟨cs, E', o1, o2, e, e2, h1, h2⟩ => by
    obtain ⟨p1, p2, e3, h3⟩ := h2.take n
    exact ⟨o1 ++ p1, p2, by rw [e2, e3, List.append_assoc], cs, E'.take n, o1, p1, by rw [e]; rfl, rfl, h1, h3⟩
theorem Knows.drop {Γ : List (List AV)} {avs : List AV} {E : Env} {cs : List Value} {u : Gh} (n : Nat) (hl : E.length = Γ.length) (h : Knows w0 D (Γ ++ [avs]) (E ++ [cs]) u) : Knows w0 D (Γ.take n ++ [avs]) (E.take n ++ [cs]) u := by
  obtain ⟨hb, hD, os, hn, hr⟩ := h
  obtain ⟨E1, E2, o1, o2, e1, e2, h2, h3⟩ := hr.split
  have hE := List.append_inj e1 (by rw [h2.len, hl])
  obtain ⟨p1, p2, e4, h4⟩ := h2.take n
  refine ⟨hb, ?_, p1 ++ o2, ?_, by rw [hE.1]; exact h4.app (by rw [hE.2]; exact h3)⟩
  · unfold okE at *
    rw [List.all_append, Bool.and_eq_true] at hD ⊢
    refine ⟨?_, hD.2⟩
    rw [List.all_eq_true] at hD ⊢
    exact fun s hs => hD.1 s (List.mem_of_mem_take hs)
  · rw [e2, e4] at hn
    refine List.Nodup.sublist ?_ hn
    exact List.Sublist.append_right (List.sublist_append_left p1 p2) o2
theorem aBack {d n : Nat} {vals : List A} {Q : List (List AV) → List AV → Prop} {avs : List AV} {Γ' : List (List AV)} (hK : K[d]? = some (n, Q)) (ht : takeL Γ vals = some (avs, Γ')) (hQ : Q (Γ'.take n) avs) : AW P J w0 D Post K Γ (.back d vals) := by
  intro hJ L E u hL hk0
  obtain ⟨h1, hl⟩ := takeL_ok hk0 ht
  have hEl : E.length = Γ.length := let ⟨_, _, _, _, h⟩ := hk0; h.len
  exact (hL d n Q hK).2 _ u _ _ hQ (h1.drop n (by omega))
theorem RepE.set {B : Bd} {w : World} {s s' : List AV} (h : ∀ cs os, RepS B w s cs os → RepS B w s' cs os) : ∀ {Γ : List (List AV)} {i : Nat} {E : Env} {os : List Nat}, RepE B w Γ E os → Γ[i]? = some s → RepE B w (Γ.set i s') E os
  | [], _, _, _, _, hi => by simp at hi
  | t :: Γ, 0, _, _, ⟨cs, E', o1, o2, e, e2, h1, h2⟩, hi => by
    simp only [List.getElem?_cons_zero, Option.some.injEq] at hi
    subst hi
    exact ⟨cs, E', o1, o2, e, e2, h _ _ h1, h2⟩
  | t :: Γ, i + 1, _, _, ⟨cs, E', o1, o2, e, e2, h1, h2⟩, hi => ⟨cs, E', o1, o2, e, e2, h1, RepE.set h h2 (i := i) (by simpa using hi)⟩
theorem okE_set {s' : List AV} (hs : s'.all (AV.okD D) = true) : ∀ {Γ : List (List AV)} {i : Nat}, okE D Γ = true → okE D (Γ.set i s') = true
  | [], _, _ => rfl
  | t :: Γ, 0, h => by simp only [okE, List.all_cons, Bool.and_eq_true] at h; simp only [okE, List.set_cons_zero, List.all_cons, Bool.and_eq_true]; exact ⟨hs, h.2⟩
  | t :: Γ, i + 1, h => by
    simp only [okE, List.all_cons, Bool.and_eq_true] at h
    have := okE_set hs (Γ := Γ) (i := i) h.2
    simp only [okE, List.set_cons_succ, List.all_cons, Bool.and_eq_true] at this ⊢; exact ⟨h.1, this⟩
theorem aConv (i : Nat) {s : List AV} (s' : List AV) {Γ' : List (List AV)} (hi : Γ[i]? = some s) (h : ∀ B w cs os, RepS B w s cs os → RepS B w s' cs os) (hk : AW P J w0 D Post K Γ' k) (hs : s'.all (AV.okD D) = true := by rfl)
    (hΓ : Γ.set i s' = Γ' := by (simp only [List.set_cons_succ, List.set_cons_zero]) <;> exact rfl) : AW P J w0 D Post K Γ k := by
  subst hΓ
  intro hJ L E u hL ⟨hb, hD, os, hn, hr⟩
  exact hk hJ L E u hL ⟨hb, okE_set hs hD, os, hn, hr.set (h _ _) hi⟩
end rules
def preA (o : Opt) (asx : List (List Pd)) : Prop := ∀ i v, o.at i = some v → asx[i]? = some [pV v]
theorem argsR_at {l : Lm} {w : World} {d : Value} : ∀ {i : Nat} {sh : List (Option Nat)} {asx : List (List Pd)} {E : Env} {v : Value}, ArgsR l w sh asx E → asx[i]? = some [pV v] → (E.getD i []).getD 0 d = v
  | i, [], [], E, v, _, h => by simp at h
  | i, [], _ :: _, E, v, h, _ => h.elim
  | i, _ :: _, [], E, v, h, _ => h.elim
  | 0, s :: sh, ps :: asx, E, v, ⟨cs, E', e, _, h2, _⟩, h => by
    simp only [List.getElem?_cons_zero, Option.some.injEq] at h
    subst h
    obtain ⟨c1, c2, rfl, h3, h4⟩ := h2
    have e1 : c1 = [v] := h3.1
    subst e1
    subst e
    rfl
  | i + 1, s :: sh, ps :: asx, E, v, ⟨cs, E', e, _, _, h3⟩, h => by
    subst e
    simpa using argsR_at (i := i) h3 (by simpa using h)
theorem aCtO (o : Opt) {P : Program} {J : Jd} {f : FuncId} {shI : List (Option Nat)} {asx : List (List Pd)} {sh : List (Option Nat)} {rs : (Nat → Nat) → List AV} {D : TypeId → Bool} {tr : Tr} (hm : P.follows .mixedOrders = true) (hr : rowOf P D f o = some tr)
    (hq : (eqsOf P D f o).map (·.1) = (eqsOf P D f o).map (·.2)) (hsh : ((P.funcs[f]?).map fun fn => fn.params.toList.mapM (shapeOf P)) = some (some shI)) (hD : okE D (asx.map (·.map (.ro true))) = true) (hpre : preA o asx) {Γ : List (List AV)}
    (hk : ∀ w0, AW P J w0 D (TellsA w0 sh rs) [] Γ tr) (hΓ : asx.map (·.map (.ro true)) = Γ := by (simp only [List.map_cons, List.map_nil]) <;> exact rfl) : Ct P J f shI asx sh rs := by
  subst hΓ
  intro w1 E hJ hA
  have key : ∀ {shI : List (Option Nat)} {asx : List (List Pd)} {E : Env}, ArgsR ⟨w1.b0, some w1.w.heap.size, w1.S⟩ w1.w shI asx E → E.length = shI.length ∧ (E.all fun cs => cs.all Value.oneCell') = true ∧ RepE (w1.bd w1.S) w1.w (asx.map (·.map (.ro true))) E [] := by
    intro shI
    induction shI with
    | nil =>
      intro asx E h
      cases asx with
      | nil => rw [show E = [] from h]; exact ⟨rfl, rfl, rfl, rfl⟩
      | cons _ _ => exact h.elim
    | cons s shI ih =>
      intro asx E h
      cases asx with
      | nil => exact h.elim
      | cons ps asx =>
        obtain ⟨cs, E', rfl, h0, h1, h2⟩ := h
        obtain ⟨h3, h4, h5⟩ := ih h2
        clear h0
        refine ⟨by simp [h3], by simp only [List.all_cons, h1.one, h4]; rfl, cs, E', [], [], rfl, rfl, ?_, h5⟩
        clear h3 h4 h5 h2
        induction ps generalizing cs with
        | nil => exact ⟨h1, rfl⟩
        | cons p ps ihp =>
          obtain ⟨c1, c2, e, k1, k2⟩ := h1
          exact ⟨c1, c2, [], [], e, rfl, ⟨k1, rfl⟩, ihp c2 k2⟩
  obtain ⟨h1, h2, h3⟩ := key hA
  exact rxS (fun _ h => by cases h) hm hr hq shI hsh h1 rfl h2 (fun i v h _ => argsR_at hA (hpre i v h)) (fun _ _ _ => False) w1.S w1.sh (hk w1 hJ _ E w1.gh (fun d n Q h => by simp at h) ⟨⟨Below.refl _ _, fun b h => .inl h⟩, hD, [], List.nodup_nil, h3⟩)
theorem aCt {P : Program} {J : Jd} {f : FuncId} {shI : List (Option Nat)} {asx : List (List Pd)} {sh : List (Option Nat)} {rs : (Nat → Nat) → List AV} {D : TypeId → Bool} {tr : Tr} (hm : P.follows .mixedOrders = true) (hr : rowOf P D f = some tr)
    (hq : (eqsOf P D f).map (·.1) = (eqsOf P D f).map (·.2)) (hsh : ((P.funcs[f]?).map fun fn => fn.params.toList.mapM (shapeOf P)) = some (some shI)) (hD : okE D (asx.map (·.map (.ro true))) = true) {Γ : List (List AV)}
    (hk : ∀ w0, AW P J w0 D (TellsA w0 sh rs) [] Γ tr) (hΓ : asx.map (·.map (.ro true)) = Γ := by (simp only [List.map_cons, List.map_nil]) <;> exact rfl) : Ct P J f shI asx sh rs :=
  aCtO {} hm hr hq hsh hD (fun _ _ h => by cases h) hk hΓ
end Cin

namespace Cin
open Go Go.RowKit
def slTb (P : Program) (T : TypeId) (r : Rty) : Bool := match P.underlying T, P.info? r.t with
  | some (.slice e), some ie => e == r.t && ie.size == r.n
  | _, _ => false
theorem slT_of {P : Program} {T : TypeId} {r : Rty} (h : slTb P T r = true) : P.underlying T = some (.slice r.t) ∧ ∃ ie, P.info? r.t = some ie ∧ ie.size = r.n := by
  unfold slTb at h
  split at h
  · rename_i e ie h1 h2
    simp only [Bool.and_eq_true, beq_iff_eq] at h
    exact ⟨by rw [h1, h.1], ie, h2, h.2⟩
  · cases h
def tyOk (P : Program) (t : TypeId) (n : Nat) : Option Nat → Bool
  | some m => (match P.info? t, P.underlying t with | some i, some d => i.size == n && d.isRow && m == n | _, _ => false)
  | none => (match P.info? t, P.underlying t with | some i, some d => i.size == n && !d.isRow && n == 1 | _, _ => false)
theorem run_ldOk {P : Program} {t : TypeId} {sh : Option Nat} {b o : Nat} {cs : List Value} {w : World} (h : tyOk P t cs.length sh = true) (hc : w.rangeAt b o cs) : (Instr.loadAt t (.pointer (some ⟨b, o, none⟩))).run P w = .ok ((v1of 0 0 sh).den [] [cs]) w := by
  cases sh with
  | some m =>
    simp only [tyOk] at h
    split at h
    · rename_i i d hi hd
      simp only [Bool.and_eq_true, beq_iff_eq] at h
      obtain ⟨⟨h1, h2⟩, h3⟩ := h
      rw [run_loadAt_mid w b o t cs d hc hd h2 (by rw [hi, Option.map_some, h1])]
      congr 1
      simp only [v1of, V1.den, h3]
      congr 2
      refine List.ext_getElem? fun j => ?_
      simp only [List.getElem?_map]
      by_cases hj : j < cs.length
      · rw [List.getElem?_range' hj, List.getElem?_eq_getElem hj]; simp [A.den, hj]
      · have hj' : cs.length ≤ j := by omega
        simp [hj']
    · cases h
  | none =>
    simp only [tyOk] at h
    split at h
    · rename_i i d hi hd
      simp only [Bool.and_eq_true, beq_iff_eq, Bool.not_eq_true'] at h
      obtain ⟨⟨h1, h2⟩, h3⟩ := h
      match cs, h3 with
      | [v], _ =>
        have hv := hc 0 v rfl
        have hagg : (isAgg t).run P w = .ok false w := by
          unfold isAgg
          rw [Sem.run_bind, run_underlying hd w]
          cases d <;> first | rfl | cases h2
        simp only [Nat.add_zero] at hv
        simp [Instr.loadAt, Instr.sureAddr, loadVar, Sem.run_bind, hagg, hv, v1of, V1.den, A.den]
    · cases h
def takeP : Nat → List Pd → Option (List Pd)
  | 0, _ => some []
  | _ + 1, [] => none
  | n + 1, p :: ps => bif Nat.ble p.n (n + 1) then (match takeP (n + 1 - p.n) ps with | some qs => some (p :: qs) | none => none) else none
def dropP : Nat → List Pd → Option (List Pd)
  | 0, ps => some ps
  | _ + 1, [] => none
  | n + 1, p :: ps => bif Nat.ble p.n (n + 1) then dropP (n + 1 - p.n) ps else none
theorem takeP_ok : ∀ {n : Nat} {ps qs : List Pd}, takeP n ps = some qs → ∃ rs, ps = qs ++ rs ∧ szL qs = n
  | 0, ps, qs, h => by
    have : qs = [] := by cases ps <;> simpa [takeP, eq_comm] using h
    exact ⟨ps, by rw [this]; rfl, by rw [this]; rfl⟩
  | n + 1, [], qs, h => by simp [takeP] at h
  | n + 1, p :: ps, qs, h => by
    simp only [takeP] at h
    cases hb : Nat.ble p.n (n + 1) with
    | false => rw [hb] at h; cases h
    | true =>
      rw [hb] at h
      simp only [cond_true] at h
      split at h
      · rename_i q hq
        cases h
        obtain ⟨rs, e, hs⟩ := takeP_ok hq
        have := Nat.le_of_ble_eq_true hb
        exact ⟨rs, by rw [e]; rfl, by simp only [szL, hs]; omega⟩
      · cases h
theorem dropP_ok : ∀ {n : Nat} {ps qs : List Pd}, dropP n ps = some qs → ∃ pre, ps = pre ++ qs ∧ szL pre = n
  | 0, ps, qs, h => by
    have : ps = qs := by cases ps <;> simpa [dropP] using h
    exact ⟨[], by rw [this]; rfl, rfl⟩
  | n + 1, [], qs, h => by simp [dropP] at h
  | n + 1, p :: ps, qs, h => by
    simp only [dropP] at h
    cases hb : Nat.ble p.n (n + 1) with
    | false => rw [hb] at h; cases h
    | true =>
      rw [hb] at h
      obtain ⟨pre, e, hs⟩ := dropP_ok (n := n + 1 - p.n) h
      have := Nat.le_of_ble_eq_true hb
      exact ⟨p :: pre, by rw [e]; rfl, by simp only [szL, hs]; omega⟩
def fieldOff (P : Program) (s : TypeId) (f : Nat) : Option Nat := match P.underlying s with
  | some (.struct fs) => (match fs[f]? with
    | some fd => (match P.info? fd.type with | some i => bif Nat.beq i.size 0 then none else some fd.offset | none => none)
    | none => none)
  | _ => none
theorem prField {P : Program} {s ty : TypeId} {f : Nat} {p : Operand} {vs : List Value} {b o off : Nat} (hp : pe vs p = .pointer (some ⟨b, o, none⟩)) (hf : fieldOff P s f = some off) : PrimOk P (.fieldAddr s p f) ty vs (.pointer (some ⟨b, o + off, none⟩)) := fun w => by
  unfold fieldOff at hf
  split at hf
  · rename_i fs hu
    split at hf
    · rename_i fd hfd
      split at hf
      · rename_i i hi
        cases hz : Nat.beq i.size 0 with
        | true => rw [hz] at hf; cases hf
        | false =>
          rw [hz] at hf
          cases hf
          have hz' : ¬ i.size = 0 := fun e => by rw [e] at hz; cases hz
          simp [execOp, hp, Instr.fieldAt, run_underlying hu, hfd, Instr.sureAddr, fieldPlace, Go.sizeOf, typeInfo, hi, hz', Addr.add_mid]
      · cases hf
    · cases hf
  · cases hf
section rules
variable {P : Program} {J : Jd} {w0 : W0} {D : TypeId → Bool} {Post : Ending → World → Prop} {K : LK} {Γ : List (List AV)} {k : Tr}
theorem RowsR.sh {r : Rty} {rows : List (List Pd)} {l : Lm} {w : World} {cs : List Value} (h : RowsR r rows l w cs) : ∃ ad cap, cs = [.slice ad rows.length cap] := by
  rcases h.2 with ⟨ad, cap, e, _, h0⟩ | ⟨b, o, cap, c, t, f, e, _⟩
  · subst h0; exact ⟨ad, cap, e⟩
  · exact ⟨_, cap, e⟩
theorem look_pd {B : Bd} {w : World} {E : Env} {os : List Nat} {i j : Nat} {p : Pd} (hr : RepE B w Γ E os) (hl : (look Γ i j).bind AV.pd = some p) : ∃ c, p.R B.nn w c ∧ ∀ (m : Nat) (v : Value), c[m]? = some v → (A.c i (j + m)).den [] E = v := by
  cases ha : look Γ i j with
  | none => rw [ha] at hl; cases hl
  | some a =>
    rw [ha] at hl
    obtain ⟨c, o, h1, h2, _⟩ := look_ok hr ha
    exact ⟨c, AV.pd_ok hl h1, h2⟩
theorem aLen {T ty : TypeId} {i j n : Nat} {r : Rty} {rows : List (List Pd)} {Γ' : List (List AV)} (hl : (look Γ i j).bind AV.pd = some (pRows r rows)) (hn : rows.length = n) (hk : AW P J w0 D Post K Γ' k) (hT : slTb P T r = true := by kernel_rfl)
    (hΓ : Γ ++ [[.ro true (pV (.int .i64 n))]] = Γ' := by (simp only [List.cons_append, List.nil_append]) <;> exact rfl) : AW P J w0 D Post K Γ (.em (.pr (.call { callee := .builtin .len, args := #[.tmp 0], argTypes := #[T] }) ty [.s (.c i j)]) k) := fun hJ L E u hL h0 => by
  subst hn
  obtain ⟨hu, _⟩ := slT_of hT
  obtain ⟨os, hr⟩ := h0.rep
  obtain ⟨c, h1, h2⟩ := look_pd hr hl
  obtain ⟨ad, cap, rfl⟩ := RowsR.sh h1
  have hd : (A.c i j).den [] E = .slice ad rows.length cap := h2 0 _ rfl
  refine ⟨.int .i64 rows.length, ?_, rfl, hk hJ L _ u hL.ext (hΓ ▸ h0.val rfl)⟩
  simp only [List.map_cons, List.map_nil, V1.den, hd]
  exact prLen hu rfl
theorem aIdx {T ty : TypeId} {i j : Nat} {x : V1} {q : Operand} {o : Bool} {r : Rty} {rows : List (List Pd)} {row : List Pd} {κ : IntKind} {m : Int} {vi : Value} {Γ' : List (List AV)} (hl : look Γ i j = some (.ro o (pRows r rows))) (hi : knownV Γ x = some vi) (hq : ∀ s, pe [s, vi] q = .int κ m) (h0 : 0 ≤ m) (hrow : rows[m.toNat]? = some row) (hk : AW P J w0 D Post K Γ' k) (hT : slTb P T r = true := by kernel_rfl)
    (hΓ : Γ ++ [[.ro o (pElem r row)]] = Γ' := by (simp only [List.cons_append, List.nil_append]) <;> exact rfl) : AW P J w0 D Post K Γ (.em (.pr (.indexAddr T (.tmp 0) q) ty [.s (.c i j), x]) k) := fun hJ L E u hL hk0 => by
  obtain ⟨os, hr⟩ := hk0.rep
  obtain ⟨c, oo, ⟨h1, _⟩, h2, _⟩ := look_ok hr hl
  obtain ⟨hu, ie, hie, hn⟩ := slT_of hT
  have hlt := (List.getElem?_eq_some_iff.1 hrow).1
  rcases h1.2 with ⟨_, _, _, _, e0⟩ | ⟨b, off, cap, cc, tt, f, rfl, hb, hlim, hmx, hat⟩
  · rw [e0] at hrow; simp at hrow
  · have hd : (A.c i j).den [] E = .slice (some ⟨b, off, none⟩) rows.length cap := h2 0 _ rfl
    have hx := knownV_ok hr hi
    refine ⟨.pointer (some ⟨b, off + m.toNat * r.n, none⟩), ?_, rfl, hk hJ L _ u hL.ext (hΓ ▸ hk0.snoc (fun os hr => ⟨[], RepS.one_of ⟨?_, rfl⟩, List.nodup_nil, fun g hg => by cases hg⟩) ?_)⟩
    · have hd' : (V1.s (A.c i j)).den [] E = .slice (some ⟨b, off, none⟩) rows.length cap := hd
      simp only [List.map_cons, List.map_nil, hd', hx]
      exact prIdxR hu hie hn rfl (hq _) h0 (by omega)
    · obtain ⟨x, hxl, hx1, hx2⟩ := hat m.toNat row hrow
      exact ⟨h1.1 row (List.mem_of_getElem? hrow), b, _, cc, tt, f, rfl, hb, hlim, x, hx1, hx2⟩
    · have := look_okD hk0.2.1 hl
      simpa [AV.okD, pRows, pElem] using this
theorem aIdxB {T ty : TypeId} {i j : Nat} {x : V1} {q : Operand} {g : Nat} {r : Rty} {rows : List (List Pd)} {row : List Pd} {κ : IntKind} {m : Int} {vi : Value} {Γ' : List (List AV)} (hl : look Γ i j = some (.own g r rows)) (hi : knownV Γ x = some vi) (hq : ∀ s, pe [s, vi] q = .int κ m) (h0 : 0 ≤ m) (hrow : rows[m.toNat]? = some row) (hk : AW P J w0 D Post K Γ' k) (hT : slTb P T r = true := by kernel_rfl)
    (hΓ : Γ ++ [[.ro false (pElem r row)]] = Γ' := by (simp only [List.cons_append, List.nil_append]) <;> exact rfl) : AW P J w0 D Post K Γ (.em (.pr (.indexAddr T (.tmp 0) q) ty [.s (.c i j), x]) k) := fun hJ L E u hL hk0 => by
  obtain ⟨os, hr⟩ := hk0.rep
  obtain ⟨c, oo, h1, h2, _⟩ := look_ok hr hl
  have h1 := OwnR.rows h1
  obtain ⟨hu, ie, hie, hn⟩ := slT_of hT
  have hlt := (List.getElem?_eq_some_iff.1 hrow).1
  rcases h1.2 with ⟨_, _, _, _, e0⟩ | ⟨b, off, cap, cc, tt, f, rfl, hb, hlim, hmx, hat⟩
  · rw [e0] at hrow; simp at hrow
  · have hd : (A.c i j).den [] E = .slice (some ⟨b, off, none⟩) rows.length cap := h2 0 _ rfl
    have hx := knownV_ok hr hi
    refine ⟨.pointer (some ⟨b, off + m.toNat * r.n, none⟩), ?_, rfl, hk hJ L _ u hL.ext (hΓ ▸ hk0.snoc (fun os hr => ⟨[], RepS.one_of ⟨?_, rfl⟩, List.nodup_nil, fun g hg => by cases hg⟩) ?_)⟩
    · have hd' : (V1.s (A.c i j)).den [] E = .slice (some ⟨b, off, none⟩) rows.length cap := hd
      simp only [List.map_cons, List.map_nil, hd', hx]
      exact prIdxR hu hie hn rfl (hq _) h0 (by omega)
    · obtain ⟨x, hxl, hx1, hx2⟩ := hat m.toNat row hrow
      exact ⟨h1.1 row (List.mem_of_getElem? hrow), b, _, cc, tt, f, rfl, hb, hlim, x, hx1, hx2⟩
    · have := look_okD hk0.2.1 hl
      simpa [AV.okD, pElem] using this
theorem aField {s ty : TypeId} {f i j off : Nat} {o : Bool} {r : Rty} {row row' : List Pd} {Γ' : List (List AV)} (hl : look Γ i j = some (.ro o (pElem r row))) (hf : fieldOff P s f = some off) (hd : dropP off row = some row') (hk : AW P J w0 D Post K Γ' k)
    (hΓ : Γ ++ [[.ro o (pElem r row')]] = Γ' := by (simp only [List.cons_append, List.nil_append]) <;> exact rfl) : AW P J w0 D Post K Γ (.em (.pr (.fieldAddr s (.tmp 0) f) ty [.s (.c i j)]) k) := fun hJ L E u hL hk0 => by
  obtain ⟨os, hr⟩ := hk0.rep
  obtain ⟨c, oo, ⟨h1, _⟩, h2, _⟩ := look_ok hr hl
  obtain ⟨hfit, b, p, cc, tt, fz, rfl, hb, hlim, x, hx1, hx2⟩ := h1
  obtain ⟨pre, e, hs⟩ := dropP_ok hd
  subst e
  obtain ⟨c1, c2, rfl, k1, k2⟩ := hx1.split
  have hl1 := k1.len
  have hden : (A.c i j).den [] E = .pointer (some ⟨b, p, none⟩) := h2 0 _ rfl
  refine ⟨.pointer (some ⟨b, p + off, none⟩), ?_, rfl, hk hJ L _ u hL.ext (hΓ ▸ hk0.snoc (fun os hr => ⟨[], RepS.one_of ⟨⟨fun q hq => hfit q (List.mem_append_right _ hq), b, _, cc, tt, fz, rfl, hb, hlim, c2, k2, fun m y hy => ?_⟩, rfl⟩, List.nodup_nil, fun g hg => by cases hg⟩) ?_)⟩
  · simp only [List.map_cons, List.map_nil, V1.den, hden]
    exact prField rfl hf
  · have := hx2 (off + m) y (by rw [List.getElem?_append_right (by omega), show off + m - c1.length = m by omega]; exact hy)
    rwa [← Nat.add_assoc] at this
  · have := look_okD hk0.2.1 hl
    simpa [AV.okD, pElem] using this
theorem RL.slot {B : Bd} {w : World} {o : Bool} : ∀ {ps : List Pd} {cs : List Value}, RL (limOf B o) w ps cs → RepS B w (ps.map (.ro o)) cs []
  | [], _, h => ⟨h, rfl⟩
  | _ :: _, _, ⟨c1, c2, e, h1, h2⟩ => ⟨c1, c2, [], [], e, rfl, ⟨h1, rfl⟩, h2.slot⟩
theorem fit_okD {o : Bool} {r : Rty} {row : List Pd} (hf : r.Fit row) (h1 : r.nu.all D = true) : (row.map (AV.ro o)).all (AV.okD D) = true := by
  rw [List.all_eq_true]
  intro a ha
  obtain ⟨p, hp, rfl⟩ := List.mem_map.1 ha
  simp only [AV.okD, List.all_eq_true]
  refine fun t ht => List.all_eq_true.1 h1 t ?_
  simpa using (hf p hp).1 t (by simpa using ht)
theorem aLd {t ty : TypeId} {i j n : Nat} {sh : Option Nat} {o : Bool} {r : Rty} {row mid : List Pd} {Γ' : List (List AV)} (hl : look Γ i j = some (.ro o (pElem r row))) (_hn : sh.getD 1 = n) (hm : takeP n row = some mid) (hk : AW P J w0 D Post K Γ' k) (ht : tyOk P t n sh = true := by kernel_rfl)
    (hΓ : Γ ++ [mid.map (.ro o)] = Γ' := by (simp only [List.cons_append, List.nil_append, List.map_cons, List.map_nil]) <;> exact rfl) : AW P J w0 D Post K Γ (.em (.ld (.load t (.tmp 0)) ty [.s (.c i j)] sh) k) := fun hJ L E u hL hk0 => by
  obtain ⟨os, hr⟩ := hk0.rep
  obtain ⟨c, oo, ⟨h1, _⟩, h2, _⟩ := look_ok hr hl
  obtain ⟨hfit, b, p, cc, tt, fz, rfl, hb, hlim, x, hx1, hx2⟩ := h1
  obtain ⟨rs, e, hs⟩ := takeP_ok hm
  subst e
  obtain ⟨c1, c2, rfl, k1, k2⟩ := hx1.split
  have hl1 := k1.len
  have hden : (A.c i j).den [] E = .pointer (some ⟨b, p, none⟩) := h2 0 _ rfl
  have hD := look_okD hk0.2.1 hl
  simp only [AV.okD, pElem] at hD
  refine ⟨c1, k1.one, fun w he hbw => ?_, hk hJ L _ u hL.ext (hΓ ▸ hk0.snoc (fun os hr => ⟨[], k1.slot, List.nodup_nil, fun g hg => by cases hg⟩) (fit_okD (fun q hq => hfit q (List.mem_append_left _ hq)) hD))⟩
  have hg : w.heap[b]? = some (.cells cc tt fz) := by
    have hold : b < w0.w.heap.size → w.heap[b]? = some (.cells cc tt fz) := fun hlt => by rw [hbw.block b hlt, ← hk0.1.1.block b hlt]; exact hb
    cases o with
    | true => exact hold (hlim.2 _ rfl)
    | false =>
      rcases hlim.1 with h | h
      · exact hold (Nat.lt_of_lt_of_le h w0.le)
      · exact he.block b cc tt fz hb (.inr h.2)
  have hden' : (V1.s (A.c i j)).den [] E = .pointer (some ⟨b, p, none⟩) := hden
  simp only [List.map_cons, List.map_nil, hden']
  show (execOp _ _).run P w = _
  have hrun := run_ldOk (P := P) (w := w) (b := b) (o := p) (cs := c1) (t := t) (sh := sh) (by rw [hl1, hs]; exact ht) (fun m y hy => by
    have := hx2 m y (by rw [List.getElem?_append_left (List.getElem?_eq_some_iff.1 hy).1]; exact hy)
    simp [World.cell?, hg, this])
  simp only [execOp, pe, List.getD_cons_zero]
  simp [hrun]
end rules
end Cin

namespace Cin
open Go Go.RowKit
def setS (v : AV) : List AV → Nat → List AV
  | [], _ => []
  | _ :: r, 0 => v :: r
  | a :: r, k + 1 => a :: setS v r (k + 1 - a.n)
def setAt (v : AV) : List (List AV) → Nat → Nat → List (List AV)
  | [], _, _ => []
  | s :: Γ, 0, k => setS v s k :: Γ
  | s :: Γ, i + 1, k => s :: setAt v Γ i k
def safeE (t : TypeId) (Γ : List (List AV)) : Bool := Γ.all fun s => s.all (AV.safe t)
section write
variable {B : Bd} {g : Nat} {t : TypeId} {D : TypeId → Bool} {S' : Nat → Prop} {u w : World} {a v : AV}
theorem setS_w (hw : Goes B.b B.S (· = g) D u w) (hS : ∀ b, B.S b → S' b) (ht : ∀ b c t' f, u.heap[b]? = some (Obj.cells c t' f) → b = g → t' = t) (ha : ∀ c o, RepV B u a c o → o = [g] ∧ RepV (B.sh S') w v c o) :
    ∀ {s : List AV} {k : Nat} {cs : List Value} {os : List Nat}, RepS B u s cs os → lookS s k = some a → (junkS s k).all (AV.okD D) = true → (junkS s k).all (AV.safe t) = true → os.Nodup → RepS (B.sh S') w (setS v s k) cs os
  | [], _, _, _, _, h, _, _, _ => by simp [lookS] at h
  | b :: r, 0, _, _, ⟨c1, c2, o1, o2, e, e2, h1, h2⟩, h, hD, hs, hn => by
    simp only [lookS, Option.some.injEq] at h
    subst h
    obtain ⟨rfl, hv⟩ := ha _ _ h1
    simp only [junkS, List.all_cons, Bool.and_eq_true] at hD hs
    subst e2
    have hg : g ∉ o2 := by have := hn; simp at this; exact this.1
    exact ⟨c1, c2, [g], o2, e, rfl, hv, h2.goes hw hS hD.2 (fun b c t' f hb hx => by rw [ht b c t' f hb hx]; exact hs.2) (fun g' hg' e' => hg (e' ▸ hg'))⟩
  | b :: r, k + 1, _, _, ⟨c1, c2, o1, o2, e, e2, h1, h2⟩, h, hD, hs, hn => by
    simp only [lookS] at h
    simp only [junkS, List.all_cons, Bool.and_eq_true] at hD hs
    cases hb : Nat.ble b.n (k + 1) with
    | false => rw [hb] at h; cases h
    | true =>
      rw [hb] at h
      obtain ⟨_, c, _, p1, p, p2, _, _, e5, h3⟩ := lookS_ok h2 h
      obtain ⟨rfl, _⟩ := ha _ _ h3
      subst e2
      have hg : g ∉ o1 := fun hg => (List.nodup_append.1 hn).2.2 g hg g (by rw [e5]; simp) rfl
      exact ⟨c1, c2, o1, o2, e, rfl, h1.goes hw hS hD.1 (fun b c t' f hb hx => by rw [ht b c t' f hb hx]; exact hs.1) (fun g' hg' e' => hg (e' ▸ hg')), setS_w hw hS ht ha h2 h hD.2 hs.2 (List.nodup_append.1 hn).2.1⟩
theorem setAt_w (hw : Goes B.b B.S (· = g) D u w) (hS : ∀ b, B.S b → S' b) (ht : ∀ b c t' f, u.heap[b]? = some (Obj.cells c t' f) → b = g → t' = t) (ha : ∀ c o, RepV B u a c o → o = [g] ∧ RepV (B.sh S') w v c o) :
    ∀ {Γ : List (List AV)} {i k : Nat} {E : Env} {os : List Nat}, RepE B u Γ E os → look Γ i k = some a → okE D (junkAt Γ i k) = true → safeE t (junkAt Γ i k) = true → os.Nodup → RepE (B.sh S') w (setAt v Γ i k) E os
  | [], _, _, _, _, _, h, _, _, _ => by simp [look] at h
  | s :: Γ, 0, k, _, _, ⟨cs, E', o1, o2, e, e2, h1, h2⟩, h, hD, hs, hn => by
    have h' : lookS s k = some a := by simpa [look] using h
    obtain ⟨_, c, _, p1, p, p2, _, _, e5, h3⟩ := lookS_ok h1 h'
    obtain ⟨rfl, _⟩ := ha _ _ h3
    simp only [okE, safeE, junkAt, List.all_cons, Bool.and_eq_true] at hD hs
    subst e2
    have hg : g ∉ o2 := fun hg => (List.nodup_append.1 hn).2.2 g (by rw [e5]; simp) g hg rfl
    exact ⟨cs, E', o1, o2, e, rfl, setS_w hw hS ht ha h1 h' hD.1 hs.1 (List.nodup_append.1 hn).1, h2.goes hw hS hD.2 (fun b c t' f hb hx => by rw [ht b c t' f hb hx]; exact hs.2) (fun g' hg' e' => hg (e' ▸ hg'))⟩
  | s :: Γ, i + 1, k, _, _, ⟨cs, E', o1, o2, e, e2, h1, h2⟩, h, hD, hs, hn => by
    have h' : look Γ i k = some a := by simpa [look] using h
    obtain ⟨c, o, h3, _, hin⟩ := look_ok h2 h'
    obtain ⟨rfl, _⟩ := ha _ _ h3
    simp only [okE, safeE, junkAt, List.all_cons, Bool.and_eq_true] at hD hs
    subst e2
    have hg : g ∉ o1 := fun hg => (List.nodup_append.1 hn).2.2 g hg g (hin g (by simp)) rfl
    exact ⟨cs, E', o1, o2, e, rfl, h1.goes hw hS hD.1 (fun b c t' f hb hx => by rw [ht b c t' f hb hx]; exact hs.1) (fun g' hg' e' => hg (e' ▸ hg')), setAt_w hw hS ht ha h2 h' hD.2 hs.2 (List.nodup_append.1 hn).2.1⟩
theorem setS_okD (hv : v.okD D = true) : ∀ {s : List AV} {k : Nat}, s.all (AV.okD D) = true → (setS v s k).all (AV.okD D) = true
  | [], _, _ => rfl
  | a :: r, 0, h => by simp only [List.all_cons, Bool.and_eq_true] at h; simp only [setS, List.all_cons, Bool.and_eq_true]; exact ⟨hv, h.2⟩
  | a :: r, k + 1, h => by simp only [List.all_cons, Bool.and_eq_true] at h; simp only [setS, List.all_cons, Bool.and_eq_true]; exact ⟨h.1, setS_okD hv h.2⟩
theorem setAt_okE (hv : v.okD D = true) : ∀ {Γ : List (List AV)} {i k : Nat}, okE D Γ = true → okE D (setAt v Γ i k) = true
  | [], _, _, _ => rfl
  | s :: Γ, 0, k, h => by simp only [okE, List.all_cons, Bool.and_eq_true] at h; simp only [okE, setAt, List.all_cons, Bool.and_eq_true]; exact ⟨setS_okD hv h.1, h.2⟩
  | s :: Γ, i + 1, k, h => by
    simp only [okE, List.all_cons, Bool.and_eq_true] at h
    have := setAt_okE hv (Γ := Γ) (i := i) (k := k) h.2
    simp only [okE, setAt, List.all_cons, Bool.and_eq_true] at this ⊢; exact ⟨h.1, this⟩
end write
def fitB (r : Rty) (row : List Pd) : Bool := row.all fun p => p.nu.all r.nu.contains && p.sl.all r.sl.contains
theorem fit_of {r : Rty} {row : List Pd} (h : fitB r row = true) : r.Fit row := fun p hp => by
  have := List.all_eq_true.1 h p hp
  simp only [Bool.and_eq_true, List.all_eq_true] at this
  exact ⟨fun t ht => this.1 t (by simpa using ht), fun t ht => this.2 t (by simpa using ht)⟩
def zeroC (P : Program) (t : TypeId) : Option (List Value) := match (P.info? t).bind (·.zero) with
  | some z => some z.cells.toList
  | none => none
theorem zeroC_of {P : Program} {t : TypeId} {zs : List Value} (h : zeroC P t = some zs) : ∃ ie z, P.info? t = some ie ∧ ie.zero = some z ∧ z.cells.toList = zs := by
  unfold zeroC at h
  cases hi : P.info? t with
  | none => rw [hi] at h; cases h
  | some ie =>
    rw [hi] at h
    simp only [Option.bind_some] at h
    cases hz : ie.zero with
    | none => rw [hz] at h; cases h
    | some z => rw [hz] at h; cases h; exact ⟨ie, z, rfl, hz, rfl⟩
theorem flat_rows {r : Rty} {l : Lm} {w : World} : ∀ {rows : List (List Pd)} {xs : List (List Value)}, xs.length = rows.length → (∀ (i : Nat) (row : List Pd) (x : List Value), rows[i]? = some row → xs[i]? = some x → x.length = r.n ∧ RL l w row x) → RowsAt r l w xs.flatten.toArray 0 rows := by
  intro rows xs hl h i row hi
  have hlt := (List.getElem?_eq_some_iff.1 hi).1
  obtain ⟨h1, h2⟩ := h i row xs[i] hi (List.getElem?_eq_getElem (by omega))
  refine ⟨xs[i], h1, h2, fun j y hy => ?_⟩
  rw [Nat.zero_add]
  have := flat_at (n := r.n) (xs := xs) (i := i) (j := j) (x := xs[i]) (y := y) (fun x hx => by
    obtain ⟨k, hk, rfl⟩ := List.getElem_of_mem hx
    exact (h k _ _ (List.getElem?_eq_getElem (by omega)) (List.getElem?_eq_getElem hk)).1) (List.getElem?_eq_getElem (by omega)) hy
  simpa using this
section rules
variable {P : Program} {J : Jd} {w0 : W0} {D : TypeId → Bool} {Post : Ending → World → Prop} {K : LK} {Γ : List (List AV)} {k : Tr}
theorem Knows.new {Γ : List (List AV)} {E : Env} {u : Gh} {w w' : World} (h : Knows w0 D Γ E ⟨w, u.S⟩) (hb : Below w.heap.size w w') : ∃ os, os.Nodup ∧ RepE (w0.bd (u.more w w').S) w' Γ E os ∧ ∀ g ∈ os, g < w.heap.size := by
  obtain ⟨⟨h0, _⟩, h1, os, hn, hr⟩ := h
  have hb' := bel_on h0 hb
  exact ⟨os, hn, RepE.goes (B := w0.bd u.S) (S' := (u.more w w').S) (Goes.of_ext (u := ⟨w, u.S⟩) h0 hb' ((ExtS.refl D ⟨w, u.S⟩).below hb)) (fun _ h => .inl h) hr h1 (fun _ _ _ _ _ h => h.elim) (fun _ _ h => h), fun g hg => (hr.ge g hg).2⟩
theorem Knows.alloc {Γ : List (List AV)} {E : Env} {u : Gh} {w : World} {cur : Array Value} {t : TypeId} {s : List AV} {cs : List Value} (h : Knows w0 D Γ E ⟨w, u.S⟩) (hs : RepS (w0.bd (u.more w (w.alloc (.cells cur t))).S) (w.alloc (.cells cur t)) s cs [w.heap.size]) (hD : s.all (AV.okD D) = true) : Knows w0 D (Γ ++ [s]) (E ++ [cs]) (u.more w (w.alloc (.cells cur t))) := by
  have hb0 := bel_alloc w (.cells cur t)
  obtain ⟨os, hn, hr, hlt⟩ := h.new hb0
  refine ⟨⟨bel_on h.1.1 hb0, ShOk.more (u := ⟨w, u.S⟩) h.1.2 (Nat.le_refl _) hb0.size h.1.1.size⟩, ?_, os ++ [w.heap.size], ?_, RepE.snoc (B := w0.bd (u.more w (w.alloc (.cells cur t))).S) hr hs⟩
  · have h1 := h.2.1
    unfold okE at *; rw [List.all_append, h1]; simp [hD]
  · refine List.nodup_append.2 ⟨hn, by simp, fun a ha b hb e => ?_⟩
    have := hlt a ha
    simp at hb
    omega
theorem Gh.more_new {u : Gh} {w : World} (o : Obj) : (u.more w (w.alloc o)).S w.heap.size := .inr ⟨Nat.le_refl _, by rw [World.alloc]; simp⟩
theorem aBuild {T ty : TypeId} {len : Nat} {parts : Array (Nat × Operand)} {ar : List V1} {rows : List (List Pd)} {Γ' : Nat → List (List AV)} (r : Rty) (hg : gathL Γ ar = some rows) (hk : ∀ g, AW P J w0 D Post K (Γ' g) k)
    (hT : slTb P T r = true := by kernel_rfl) (hz : (zeroC P r.t).isSome = true := by kernel_rfl)
    (hparts : ∀ E : Env, (parts.toList.map fun p => (p.1, pe (ar.map (V1.den [] E)) p.2)) = ((ar.map (V1.den [] E)).zipIdx 0).map fun x => (x.2, x.1) := by intro; rfl)
    (hlen : Nat.beq ar.length len = true := by rfl) (hsz : (rows.all fun row => Nat.beq (szL row) r.n && fitB r row) = true := by rfl) (hb : (Nat.ble 1 (len * r.n) && Nat.ble (len * r.n) 16777216) = true := by rfl)
    (hD : r.nu.all D = true := by rfl) (hΓ : ∀ g, Γ ++ [[.own g r rows]] = Γ' g := by intros; (simp only [List.cons_append, List.nil_append]) <;> exact rfl) :
    AW P J w0 D Post K Γ (.em (.wx (.buildSlice T len parts) ty ar (some none)) k) := by
  intro hJ L E u hL hk0 w he hbw
  have h1 := hk0.ext he hbw
  obtain ⟨os, hr⟩ := h1.rep
  obtain ⟨hu, ie, hie, hn⟩ := slT_of hT
  obtain ⟨zs, hzs⟩ := Option.isSome_iff_exists.1 hz
  obtain ⟨ie', z, hie', hz, _⟩ := zeroC_of hzs
  rw [hie] at hie'
  cases hie'
  simp only [Bool.and_eq_true] at hb
  have hb1 := Nat.le_of_ble_eq_true hb.1
  have hb2 := Nat.le_of_ble_eq_true hb.2
  have hlen' : ar.length = len := Nat.eq_of_beq_eq_true hlen
  have key : ∀ {ar : List V1} {rows : List (List Pd)}, gathL Γ ar = some rows → (rows.all fun row => Nat.beq (szL row) r.n && fitB r row) = true → rows.length = ar.length ∧
      ∀ (i : Nat) (row : List Pd) (x : List Value), rows[i]? = some row → (ar.map fun y => y.atoms.map (A.den [] E))[i]? = some x → x.length = r.n ∧ RL (w0.bd u.S).nn w row x ∧ r.Fit row := by
    intro ar
    induction ar with
    | nil => intro rows h _; cases h; exact ⟨rfl, fun i row x h => by simp at h⟩
    | cons y ar ih =>
      intro rows h hs
      simp only [gathL] at h
      split at h
      · rename_i ps hp
        split at h
        · rename_i qs hq
          cases h
          simp only [List.all_cons, Bool.and_eq_true] at hs
          obtain ⟨k1, k2⟩ := ih hq hs.2
          refine ⟨by simp [k1], fun i row x hi hx => ?_⟩
          cases i with
          | zero =>
            simp only [List.getElem?_cons_zero, Option.some.injEq, List.map_cons] at hi hx
            subst hi hx
            have := gath_ok hr hp
            exact ⟨by rw [this.len]; exact Nat.eq_of_beq_eq_true hs.1.1, this, fit_of hs.1.2⟩
          | succ i => exact k2 i row x (by simpa using hi) (by simpa using hx)
        · cases h
      · cases h
  obtain ⟨hrl, hrow⟩ := key hg hsz
  have hrn : 0 < r.n := by
    rcases Nat.eq_zero_or_pos r.n with h | h
    · rw [h] at hb1; omega
    · exact h
  have hcell : ∀ y ∈ ar, (V1.den [] E y).cells.toList = y.atoms.map (A.den [] E) ∧ (y.atoms.map (A.den [] E)).length = r.n := by
    intro y hy
    obtain ⟨i, hi, rfl⟩ := List.getElem_of_mem hy
    obtain ⟨k1, k2, _⟩ := hrow i rows[i] _ (List.getElem?_eq_getElem (by omega)) (by rw [List.getElem?_map, List.getElem?_eq_getElem hi]; rfl)
    refine ⟨?_, k1⟩
    generalize ar[i] = y at k1 k2 ⊢
    cases y with
    | g l => simp [V1.den, Value.cells, V1.atoms]
    | s a =>
      have h1 := k2.one
      simp only [V1.atoms, List.map_cons, List.map_nil, List.all_cons, List.all_nil, Bool.and_true] at h1
      show (A.den [] E a).cells.toList = _
      rw [cells_one h1]; rfl
  have hxs : ((ar.map (V1.den [] E)).flatMap fun v => v.cells.toList) = (ar.map fun y => y.atoms.map (A.den [] E)).flatten := by
    rw [List.flatMap_def, List.map_map]
    congr 1
    exact List.map_congr_left fun y hy => (hcell y hy).1
  have hfill := Great.fill_whole (s := r.n) hrn (ar.map (V1.den [] E)) ((Array.range (len * r.n)).map (z.cells[· % z.cells.size]!)) (by
    intro v hv
    obtain ⟨y, hy, rfl⟩ := List.mem_map.1 hv
    have := hcell y hy
    rw [← Array.length_toList, this.1, this.2]) (by simp [hlen'])
  rw [hxs, ← hparts E, show (parts.toList.map fun p => (p.1, pe (ar.map (V1.den [] E)) p.2)) = (parts.map fun (i, x) => (i, pe (ar.map (V1.den [] E)) x)).toList by simp] at hfill
  have hrun := run_buildSlice (P := P) w T r.t len _ _ ie z hu hie hz (by rw [hn]; omega) (by rw [hn]; omega) (by rw [hn]; exact hfill)
  refine ⟨[.slice (some ⟨w.heap.size, 0, none⟩) len len], w.alloc (.cells (ar.map fun y => y.atoms.map (A.den [] E)).flatten.toArray r.t), ?_, rfl, ChgS.of_below (bel_alloc _ _), bel_on hbw (bel_alloc _ _), hk w.heap.size hJ L _ _ hL.ext ?_⟩
  · show (execOp _ _).run P w = .ok (.value (.slice (some ⟨w.heap.size, 0, none⟩) len len)) _
    simp only [execOp]
    simp [hrun]
  · rw [← hΓ]
    refine h1.alloc (RepS.one_of ⟨fun row hm => ?_, .inr ⟨len, _, by rw [hrl, hlen'], rfl, ⟨hbw.size, Gh.more_new _⟩, heap_alloc_new w _, by omega, ?_, ?_, ?_⟩⟩) (by simpa [AV.okD] using hD)
    · obtain ⟨i, hi, rfl⟩ := List.getElem_of_mem hm
      exact (hrow i _ _ (List.getElem?_eq_getElem hi) (List.getElem?_eq_getElem (by simp; omega))).2.2
    · have : len ≤ len * r.n := Nat.le_mul_of_pos_right _ hrn
      simp only [maxLen]; omega
    · have := flat_len (n := r.n) (xs := ar.map fun y => y.atoms.map (A.den [] E)) (fun x hx => by
        obtain ⟨y, hy, rfl⟩ := List.mem_map.1 hx
        exact (hcell y hy).2)
      rw [List.size_toArray, this]; simp [hlen']
    · refine flat_rows (by simp [hrl]) (fun i row x hi hx => ?_)
      obtain ⟨k1, k2, k3⟩ := hrow i row x hi hx
      refine ⟨k1, RL.mono (S' := (u.more w _).S) (nu := r.nu) (sl := r.sl) (fun _ h => .inl h) ⟨by simp, fun b o hb _ => ?_⟩ k3 k2⟩
      rw [Below.heap_alloc _ _ _ (Array.getElem?_eq_some_iff.1 hb).1]; exact hb
end rules
end Cin
