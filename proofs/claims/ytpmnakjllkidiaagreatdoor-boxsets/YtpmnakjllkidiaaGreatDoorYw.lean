/- Rules: memory of one's own, read and written; slices made and grown; loops that write. No program. -/
import Derived.Test.YtpmnakjllkidiaaGreatDoorYv
import Derived.Test.YtpmnakjllkidiaaGreatDoorYt
import Derived.Test.YtpmnakjllkidiaaGreatDoorYu
namespace Cin
open Go Go.RowKit
def AV.obj : AV → Option (Nat × Rty × List (List Pd))
  | .own g r rows => some (g, r, rows)
  | .var g r row => some (g, r, [row])
  | _ => none
def AV.setRow : AV → Nat → List Pd → AV
  | .own g r rows, m, row => .own g r (rows.set m row)
  | .var g r _, _, row => .var g r row
  | a, _, _ => a
theorem obj_ok {B : Bd} {g : Nat} {r : Rty} {rows : List (List Pd)} {w : World} {a : AV} {cs : List Value} {os : List Nat} {m : Nat} {row : List Pd} (h : RepV B w a cs os) (ho : a.obj = some (g, r, rows)) (hm : rows[m]? = some row) :
    os = [g] ∧ (B.b ≤ g ∧ B.S g) ∧ r.Fit row ∧ ∃ cur, w.heap[g]? = some (.cells cur r.t (0, 0)) ∧ (m + 1) * r.n ≤ cur.size ∧ RowsAt r B.nn w cur 0 rows ∧
      ∀ (S' : Nat → Prop) w' row' cur', (∀ b, B.S b → S' b) → r.Fit row' → w'.heap[g]? = some (.cells cur' r.t (0, 0)) → cur'.size = cur.size → RowsAt r (B.sh S').nn w' cur' 0 (rows.set m row') → RepV (B.sh S') w' (a.setRow m row') cs [g] := by
  have hlt := (List.getElem?_eq_some_iff.1 hm).1
  cases a with
  | ro _ _ => cases ho
  | junk _ => cases ho
  | own g' r' rows' =>
    cases ho
    rcases h.2 with ⟨_, e, _⟩ | ⟨cap, cur, e, ho, hB, hg, i1, i2, i3, hrow⟩
    · rw [e] at hm; simp at hm
    · refine ⟨ho, hB, h.1 row (List.mem_of_getElem? hm), cur, hg, ?_, hrow, fun S' w' row' cur' hS hf hg' hs hr' => ⟨fun x hx => ?_, .inr ⟨cap, cur', by rw [List.length_set]; exact e, rfl, ⟨hB.1, hS _ hB.2⟩, hg', by rw [List.length_set]; exact i1, i2, by rw [hs]; exact i3, hr'⟩⟩⟩
      · rw [i3]; exact Nat.mul_le_mul_right _ (by omega)
      · rcases List.mem_or_eq_of_mem_set hx with hx | rfl
        · exact h.1 x hx
        · exact hf
  | var g' r' row0 =>
    cases ho
    obtain ⟨hf, e, ho, hB, cur, hg, hs, hrow⟩ := h
    have hm0 : m = 0 := by simpa using hlt
    subst hm0
    simp only [List.getElem?_cons_zero, Option.some.injEq] at hm
    subst hm
    exact ⟨ho, hB, hf, cur, hg, by omega, hrow, fun S' w' row' cur' hS hf' hg' hs' hr' => ⟨hf', e, rfl, ⟨hB.1, hS _ hB.2⟩, cur', hg', by omega, hr'⟩⟩
def ptrOf (Γ : List (List AV)) : V1 → Option (Nat × Nat)
  | .s a => (match knownA Γ a with
    | some (.pointer (some ⟨g, o, none⟩)) => some (g, o)
    | _ => (match a with
      | .c i j => (match look Γ i j with | some (.var g _ _) => some (g, 0) | _ => none)
      | _ => none))
  | .g _ => none
theorem ptrOf_ok {B : Bd} {w : World} {Γ : List (List AV)} {E : Env} {os : List Nat} (hr : RepE B w Γ E os) {x : V1} {g o : Nat} (h : ptrOf Γ x = some (g, o)) : x.den [] E = .pointer (some ⟨g, o, none⟩) := by
  cases x with
  | g l => cases h
  | s a =>
    simp only [ptrOf] at h
    split at h
    · rename_i g' o' hk
      cases h
      exact knownA_ok hr hk
    · split at h
      · rename_i i j _ _
        split at h
        · rename_i g' r row hl
          cases h
          obtain ⟨c, o', h1, h2, _⟩ := look_ok hr hl
          have := h1.2.1
          subst this
          exact h2 0 _ rfl
        · cases h
      · cases h
theorem szL_app : ∀ (ps qs : List Pd), szL (ps ++ qs) = szL ps + szL qs
  | [], qs => by simp [szL]
  | p :: ps, qs => by rw [List.cons_append, szL, szL, szL_app ps qs, Nat.add_assoc]
theorem known_rl {l : Lm} {w : World} : ∀ {zs : List Value}, zs.all Value.oneCell' = true → RL l w (zs.map pV) zs
  | [], _ => rfl
  | z :: zs, h => by
    simp only [List.all_cons, Bool.and_eq_true] at h
    exact ⟨[z], zs, rfl, ⟨rfl, h.1⟩, known_rl h.2⟩
theorem seg_get (l cs : List Value) (o k : Nat) (h : o + cs.length ≤ l.length) : (l.take o ++ cs ++ l.drop (o + cs.length))[k]? = if k < o then l[k]? else if k < o + cs.length then cs[k - o]? else l[k]? := by
  by_cases h1 : k < o
  · rw [if_pos h1, List.append_assoc, List.getElem?_append_left (by simp; omega), List.getElem?_take, if_pos h1]
  · rw [if_neg h1]
    by_cases h2 : k < o + cs.length
    · rw [if_pos h2, List.getElem?_append_left (by simp; omega), List.getElem?_append_right (by simp; omega)]
      congr 1; simp; omega
    · rw [if_neg h2, List.getElem?_append_right (by simp; omega), List.getElem?_drop]
      congr 1; simp; omega
theorem RowsAt.write {l l' : Lm} {r : Rty} {rows : List (List Pd)} {m f : Nat} {row pre post new : List Pd} {w w' : World} {cur : Array Value} {cs : List Value} (h : RowsAt r l w cur 0 rows) (hm : rows[m]? = some row) (hpre : takeP f row = some pre) (hpost : dropP (f + szL new) row = some post) (hnew : RL l' w' new cs)
    (hst : ∀ row ∈ rows, ∀ x, RL l w row x → RL l' w' row x) (hsz : m * r.n + f + cs.length ≤ cur.size) : RowsAt r l' w' (cur.toList.take (m * r.n + f) ++ cs ++ cur.toList.drop (m * r.n + f + cs.length)).toArray 0 (rows.set m (pre ++ new ++ post)) := by
  have hmlt := (List.getElem?_eq_some_iff.1 hm).1
  have hcl := hnew.len
  obtain ⟨rs, e1, s1⟩ := takeP_ok hpre
  obtain ⟨rs2, e2, s2⟩ := dropP_ok hpost
  obtain ⟨x1, hl1, hx1, hx2⟩ := h m row hm
  have hx1' := hst row (List.mem_of_getElem? hm) x1 hx1
  obtain ⟨c1, c2, q1, k1, _⟩ := (by rw [e1] at hx1'; exact hx1'.split : ∃ c1 c2, x1 = c1 ++ c2 ∧ RL l' w' pre c1 ∧ RL l' w' rs c2)
  obtain ⟨d1, d2, q2, k3, k4⟩ := (by rw [e2] at hx1'; exact hx1'.split : ∃ d1 d2, x1 = d1 ++ d2 ∧ RL l' w' rs2 d1 ∧ RL l' w' post d2)
  have hc1 : c1.length = f := by rw [k1.len, s1]
  have hd1 : d1.length = f + szL new := by rw [k3.len, s2]
  have hd2 : f + szL new + d2.length = r.n := by rw [← hl1, q2, List.length_append, hd1]
  intro i row' hi
  rw [List.getElem?_set] at hi
  by_cases him : m = i
  · subst him
    rw [if_pos rfl, if_pos hmlt] at hi
    cases hi
    refine ⟨c1 ++ cs ++ d2, by simp only [List.length_append]; omega, (k1.app hnew).app k4, fun j y hj => ?_⟩
    rw [Nat.zero_add, List.getElem?_toArray, seg_get _ _ _ _ (by simpa using hsz)]
    by_cases j1 : j < f
    · rw [if_pos (by omega)]
      have := hx2 j y (by rw [q1, List.getElem?_append_left (by omega)]; rw [List.append_assoc, List.getElem?_append_left (by omega)] at hj; exact hj)
      simpa using this
    · rw [if_neg (by omega)]
      by_cases j2 : j < f + cs.length
      · rw [if_pos (by omega), show m * r.n + j - (m * r.n + f) = j - f by omega]
        rw [List.getElem?_append_left (by simp; omega), List.getElem?_append_right (by omega), hc1] at hj
        exact hj
      · rw [if_neg (by omega)]
        have := hx2 j y (by rw [q2, List.getElem?_append_right (by omega), hd1]; rw [List.getElem?_append_right (by simp; omega)] at hj; simp only [List.length_append, hc1, hcl] at hj; exact hj)
        simpa using this
  · rw [if_neg him] at hi
    obtain ⟨x, hl, hx, hc⟩ := h i row' hi
    refine ⟨x, hl, hst row' (List.mem_of_getElem? hi) x hx, fun j y hj => ?_⟩
    have hjl := (List.getElem?_eq_some_iff.1 hj).1
    have := hc j y hj
    rw [Nat.zero_add] at this ⊢
    rw [List.getElem?_toArray, seg_get _ _ _ _ (by simpa using hsz)]
    have hlo : i < m → i * r.n + j < m * r.n := fun hlt => by
      have : (i + 1) * r.n ≤ m * r.n := Nat.mul_le_mul_right _ (by omega)
      rw [Nat.succ_mul] at this; omega
    have hhi : m < i → m * r.n + r.n ≤ i * r.n := fun hlt => by
      have : (m + 1) * r.n ≤ i * r.n := Nat.mul_le_mul_right _ (by omega)
      rw [Nat.succ_mul] at this; omega
    by_cases hlt : i < m
    · rw [if_pos (by have := hlo hlt; omega)]; simpa using this
    · have h3 := hhi (by omega)
      rw [if_neg (by omega), if_neg (by omega)]; simpa using this
section rules
variable {P : Program} {J : Jd} {w0 : W0} {D : TypeId → Bool} {Post : Ending → World → Prop} {K : LK} {Γ : List (List AV)} {k : Tr}
theorem aIdxO {T ty : TypeId} {i j g : Nat} {x : V1} {q : Operand} {r : Rty} {rows : List (List Pd)} {κ : IntKind} {m : Int} {vi : Value} {Γ' : List (List AV)} (hl : look Γ i j = some (.own g r rows)) (hi : knownV Γ x = some vi) (hq : ∀ s, pe [s, vi] q = .int κ m) (h0 : 0 ≤ m) (h1 : m < rows.length) (hk : AW P J w0 D Post K Γ' k) (hT : slTb P T r = true := by kernel_rfl)
    (hΓ : Γ ++ [[.ro true (pV (.pointer (some ⟨g, m.toNat * r.n, none⟩)))]] = Γ' := by (simp only [List.cons_append, List.nil_append]) <;> exact rfl) : AW P J w0 D Post K Γ (.em (.pr (.indexAddr T (.tmp 0) q) ty [.s (.c i j), x]) k) := fun hJ L E u hL hk0 => by
  obtain ⟨os, hr⟩ := hk0.rep
  obtain ⟨c, oo, hv, h2, _⟩ := look_ok hr hl
  obtain ⟨hu, ie, hie, hn⟩ := slT_of hT
  rcases hv.2 with ⟨_, e0, _⟩ | ⟨cap, cur, rfl, _⟩
  · rw [e0] at h1; simp at h1; omega
  · have hd' : (V1.s (A.c i j)).den [] E = .slice (some ⟨g, 0, none⟩) rows.length cap := h2 0 _ rfl
    have hx := knownV_ok hr hi
    refine ⟨.pointer (some ⟨g, m.toNat * r.n, none⟩), ?_, rfl, hk hJ L _ u hL.ext (hΓ ▸ hk0.val rfl)⟩
    simp only [List.map_cons, List.map_nil, hd', hx]
    have := prIdxR (P := P) (T := T) (e := r.t) (ty := ty) (vs := [.slice (some ⟨g, 0, none⟩) rows.length cap, vi]) (p := .tmp 0) (q := q) (κ := κ) (i := m) (b := g) (o := 0) hu hie hn rfl (hq _) h0 h1
    rwa [Nat.zero_add] at this
theorem aLdK (a b m f : Nat) {t ty : TypeId} {x : V1} {sh : Option Nat} {g off n : Nat} {r : Rty} {rows : List (List Pd)} {row mid : List Pd} {Γ' : List (List AV)} (hx : ptrOf Γ x = some (g, off)) (ho : (look Γ a b).bind AV.obj = some (g, r, rows)) (hrow : rows[m]? = some row) (hoff : off = m * r.n + f) (_hn : sh.getD 1 = n) (hm : (dropP f row).bind (takeP n) = some mid) (hk : AW P J w0 D Post K Γ' k) (ht : tyOk P t n sh = true := by kernel_rfl)
    (hΓ : Γ ++ [mid.map (.ro false)] = Γ' := by (simp only [List.cons_append, List.nil_append, List.map_cons, List.map_nil]) <;> exact rfl) : AW P J w0 D Post K Γ (.em (.ld (.load t (.tmp 0)) ty [x] sh) k) := fun hJ L E u hL hk0 => by
  obtain ⟨os, hr⟩ := hk0.rep
  have hden := ptrOf_ok hr hx
  cases hla : look Γ a b with
  | none => rw [hla] at ho; cases ho
  | some av =>
    rw [hla] at ho
    obtain ⟨c, oo, hv, h2, _⟩ := look_ok hr hla
    obtain ⟨_, hB, hfit, cur, hg, _, hat, _⟩ := obj_ok hv ho hrow
    obtain ⟨x1, hl1, hx1, hx2⟩ := hat m row hrow
    cases hd : dropP f row with
    | none => rw [hd] at hm; cases hm
    | some row' =>
      rw [hd] at hm
      obtain ⟨pre, e1, s1⟩ := dropP_ok hd
      obtain ⟨post, e2, s2⟩ := takeP_ok (show takeP n row' = some mid from hm)
      subst e1 e2
      obtain ⟨c1, c2, rfl, k1, k2⟩ := hx1.split
      obtain ⟨c3, c4, rfl, k3, k4⟩ := k2.split
      have hcl1 := k1.len
      have hcl3 := k3.len
      have hDa := look_okD hk0.2.1 hla
      have hD3 : r.nu.all D = true := by
        cases av with
        | own g' r' rows' => cases ho; simpa [AV.okD] using hDa
        | var g' r' row' => cases ho; simpa [AV.okD] using hDa
        | ro _ _ => cases ho
        | junk _ => cases ho
      have hg' : ∀ w, ExtS D u w → w.heap[g]? = some (.cells cur r.t (0, 0)) := fun w he => he.block g _ _ _ hg (.inr hB.2)
      refine ⟨c3, k3.one, fun w he hbw => ?_, hk hJ L _ u hL.ext (hΓ ▸ hk0.snoc (fun os hr => ⟨[], RL.slot (B := w0.bd u.S) (o := false) k3, List.nodup_nil, fun g hg => by cases hg⟩) (fit_okD (o := false) (fun q hq => hfit q (by simp [hq])) hD3))⟩
      simp only [List.map_cons, List.map_nil, hden]
      show (execOp _ _).run P w = _
      have hrun := run_ldOk (P := P) (w := w) (b := g) (o := off) (cs := c3) (t := t) (sh := sh) (by rw [hcl3, s2]; exact ht) (fun j y hy => by
        have h3 := (List.getElem?_eq_some_iff.1 hy).1
        have := hx2 (f + j) y (by rw [List.getElem?_append_right (by omega), show f + j - c1.length = j by omega, List.getElem?_append_left h3]; exact hy)
        rw [Nat.zero_add, ← Nat.add_assoc, ← hoff] at this
        simp [World.cell?, hg' w he, this])
      simp only [execOp, pe, List.getD_cons_zero]
      simp [hrun]
def tySz (P : Program) (t : TypeId) (n : Nat) : Bool := match P.info? t with | some i => i.size == n | none => false
theorem run_stOk {P : Program} {w : World} {t e : TypeId} {g o : Nat} {cur : Array Value} {v : Value} {cs : List Value} (hs : tySz P t cs.length = true) (hg : w.heap[g]? = some (.cells cur e (0, 0))) (hv : v.cells = cs.toArray) (h1 : ∀ v ∈ cs, v.oneCell' = true) (hl : o + cs.length ≤ cur.size) :
    (Instr.storeAt t (.pointer (some ⟨g, o, none⟩)) v).run P w = .ok () (w.setRow g (cur.toList.take o ++ cs ++ cur.toList.drop (o + cs.length)).toArray) := by
  unfold tySz at hs
  split at hs
  · rename_i i hi
    have h := run_storeCells_at P g o e cs 0 cur w hg (by simpa using hl) h1
    simp only [Nat.add_zero] at h
    have hs' : i.size = cs.length := by simpa using hs
    rw [List.append_assoc] at h
    simp [Instr.storeAt, Instr.sureAddr, storeVar, Go.sizeOf, typeInfo, hi, hv, hs', h]
  · cases hs
theorem Knows.write {Γ : List (List AV)} {E : Env} {u : Gh} {w : World} {g a b : Nat} {cur cur' : Array Value} {t : TypeId} {av v : AV} (h : Knows w0 D Γ E ⟨w, u.S⟩) (hg : w.heap[g]? = some (.cells cur t (0, 0))) (hB : w0.w.heap.size ≤ g) (hl : look Γ a b = some av) (hs : safeE t (junkAt Γ a b) = true) (hv : v.okD D = true)
    (ha : ∀ c o, RepV (w0.bd u.S) w av c o → o = [g] ∧ RepV (w0.bd (u.more w (w.setRow g cur')).S) (w.setRow g cur') v c o) : Knows w0 D (setAt v Γ a b) E (u.more w (w.setRow g cur')) := by
  obtain ⟨h1, h2, os, hn, hr⟩ := h
  have hgo : Goes w0.w.heap.size u.S (· = g) D w (w.setRow g cur') := ⟨by simp, fun b hb => setRow_other w g b cur' (by omega), fun b c t' f hb _ hne => by rw [setRow_other w g b cur' hne]; exact hb⟩
  exact ⟨⟨below_setRow h1.1 hB cur', ShOk.more (u := ⟨w, u.S⟩) h1.2 (Nat.le_refl _) (by simp) h1.1.size⟩, setAt_okE hv h2, os, hn, setAt_w (B := w0.bd u.S) (S' := (u.more w (w.setRow g cur')).S) hgo (fun _ h => .inl h) (fun b c t' f hb e => by subst e; rw [hg] at hb; cases hb; rfl) ha hr hl (junkAt_okE h2) hs hn⟩
theorem aStore (a b m f : Nat) {t ty : TypeId} {x y : V1} {q : Operand} {g off : Nat} {r : Rty} {rows : List (List Pd)} {row pre post new : List Pd} {av : AV} {Γ' : List (List AV)} (hx : ptrOf Γ x = some (g, off)) (hla : look Γ a b = some av) (ho : av.obj = some (g, r, rows)) (hy : gath Γ y.atoms.length y.atoms = some new)
    (hrow : rows[m]? = some row) (hoff : off = m * r.n + f) (hpre : takeP f row = some pre) (hpost : dropP (f + szL new) row = some post) (hk : AW P J w0 D Post K Γ' k) (hq : ∀ (E : Env) s, pe [s, y.den [] E] q = y.den [] E := by intros; rfl) (hi : tySz P t (szL new) = true := by kernel_rfl)
    (hfit : fitB r new = true := by rfl) (hs : safeE r.t (junkAt Γ a b) = true := by rfl) (hself : (!r.nu.contains r.t && !r.sl.contains r.t) = true := by rfl)
    (hΓ : setAt (av.setRow m (pre ++ new ++ post)) Γ a b ++ [[]] = Γ' := by (simp only [setAt, setS, AV.setRow, List.cons_append, List.nil_append, List.append_nil]) <;> exact rfl) : AW P J w0 D Post K Γ (.em (.wx (.store t (.tmp 0) q) ty [x, y] none) k) := by
  intro hJ L E u hL hk0 w he hbw
  have h1 := hk0.ext he hbw
  obtain ⟨os, hr⟩ := h1.rep
  have hden := ptrOf_ok hr hx
  obtain ⟨c, oo, hv, _, _⟩ := look_ok hr hla
  obtain ⟨_, hB, hfr, cur, hg, hsz, hat, _⟩ := obj_ok hv ho hrow
  have hB0 : w0.w.heap.size ≤ g := hB.1
  have hnew := gath_ok hr hy
  have hnl := hnew.len
  obtain ⟨rs, e1, s1⟩ := takeP_ok hpre
  obtain ⟨rs2, e2, s2⟩ := dropP_ok hpost
  have hDa := look_okD hk0.2.1 hla
  have hD3 : r.nu.all D = true ∧ ∀ m row, (av.setRow m row).okD D = true := by
    cases av with
    | own g' r' rows' => cases ho; exact ⟨hDa, fun _ _ => hDa⟩
    | var g' r' row' => cases ho; exact ⟨hDa, fun _ _ => hDa⟩
    | ro _ _ => cases ho
    | junk _ => cases ho
  simp only [Bool.and_eq_true, Bool.not_eq_true'] at hself
  have hcs : ∀ v ∈ y.atoms.map (A.den [] E), v.oneCell' = true := fun v hv => List.all_eq_true.1 hnew.one v hv
  have hlen : f + szL new ≤ r.n := by
    obtain ⟨x1, hl1, hx1, _⟩ := hat m row hrow
    have := hx1.len
    rw [e2, szL_app, s2] at this
    omega
  have hoff2 : off + (y.atoms.map (A.den [] E)).length ≤ cur.size := by
    rw [hnl, hoff]
    rw [Nat.succ_mul] at hsz; omega
  have hcell : (y.den [] E).cells = (y.atoms.map (A.den [] E)).toArray := by
    cases y with
    | g l => rfl
    | s a => have := cells_one (hcs (A.den [] E a) (by simp [V1.atoms])); simpa [V1.atoms, V1.den] using this
  have hrun := run_stOk (P := P) (w := w) (t := t) (e := r.t) (g := g) (o := off) (cur := cur) (v := y.den [] E) (cs := y.atoms.map (A.den [] E)) (by rw [hnl]; exact hi) hg hcell hcs hoff2
  generalize hc' : (cur.toList.take off ++ y.atoms.map (A.den [] E) ++ cur.toList.drop (off + (y.atoms.map (A.den [] E)).length)).toArray = cur' at hrun
  have hgo : Goes w0.w.heap.size u.S (· = g) D w (w.setRow g cur') := ⟨by simp, fun b hb => setRow_other w g b cur' (by omega), fun b c t' f hb _ hne => by rw [setRow_other w g b cur' hne]; exact hb⟩
  have hrl : ∀ {row : List Pd} {x : List Value}, r.Fit row → RL (w0.bd u.S).nn w row x → RL (w0.bd (u.more w (w.setRow g cur')).S).nn (w.setRow g cur') row x := fun hf hx => Goes.rl (B := w0.bd u.S) (S' := (u.more w (w.setRow g cur')).S) hgo (fun _ h => .inl h) hD3.1 (fun b c t' f hb e => by subst e; rw [hg] at hb; cases hb; exact hself) hf hx
  have hput : ∀ c o, RepV (w0.bd u.S) w av c o → o = [g] ∧ RepV (w0.bd (u.more w (w.setRow g cur')).S) (w.setRow g cur') (av.setRow m (pre ++ new ++ post)) c o := by
    intro c o hv
    obtain ⟨rfl, _, hfr, cur2, hg2, hsz2, hat2, hput2⟩ := obj_ok hv ho hrow
    rw [hg] at hg2
    cases hg2
    have hfrows : ∀ row ∈ rows, r.Fit row := by
      cases av with
      | own g' r' rows' => cases ho; exact hv.1
      | var g' r' row' => cases ho; intro row hr; simp at hr; subst hr; exact hv.1
      | ro _ _ => cases ho
      | junk _ => cases ho
    refine ⟨rfl, hput2 (u.more w (w.setRow g cur')).S _ _ cur' (fun _ h => .inl h) ?_ (setRow_heap w g cur cur' r.t (0, 0) hg) ?_ ?_⟩
    · intro p hp
      rcases List.mem_append.1 hp with hp | hp
      · rcases List.mem_append.1 hp with hp | hp
        · exact hfr p (by rw [e1]; simp [hp])
        · exact fit_of hfit p hp
      · exact hfr p (by rw [e2]; simp [hp])
    · rw [← hc']
      simp only [List.size_toArray, List.length_append, List.length_take, List.length_drop, Array.length_toList]
      omega
    · have h9 := hat2.write hrow hpre hpost (hrl (fit_of hfit) hnew) (fun row hm x hx => hrl (hfrows row hm) hx) (by rw [← hoff]; exact hoff2)
      rw [← hoff, hc'] at h9
      exact h9
  refine ⟨[], w.setRow g cur', ?_, rfl, ⟨by simp, fun b c t' f hb hor => ?_⟩, below_setRow hbw hB0 cur', hk hJ L _ _ hL.ext ?_⟩
  · show (execOp _ _).run P w = .ok .skip _
    have hq' := hq E (.pointer (some ⟨g, off, none⟩))
    have hp0 : pe ([x, y].map (V1.den [] E)) (.tmp 0) = .pointer (some ⟨g, off, none⟩) := hden
    have hq0 : pe ([x, y].map (V1.den [] E)) q = y.den [] E := by
      have := hq E (x.den [] E)
      exact this
    simp only [execOp, hp0, hq0]
    simp [hrun]
  · by_cases hne : b = g
    · subst hne
      rw [hg] at hb
      cases hb
      rcases hor with h | h
      · exact absurd hB.2 h.2
      · cases h
    · rw [setRow_other w g b cur' hne]; exact hb
  · rw [← hΓ]
    have := h1.write hg hB0 hla hs (hD3.2 _ _) hput
    exact this.snoc (fun os hr => ⟨[], ⟨rfl, rfl⟩, List.nodup_nil, fun g hg => by cases hg⟩) rfl
theorem aAlloc {t ty : TypeId} (r : Rty) {zs : List Value} {row : List Pd} {Γ' : Nat → List (List AV)} (hrow : zs.map pV = row) (hk : ∀ g, AW P J w0 D Post K (Γ' g) k) (ht : Nat.beq r.t t = true := by rfl) (hz : zeroC P t = some zs := by kernel_rfl) (hn : Nat.beq zs.length r.n = true := by rfl) (h1 : zs.all Value.oneCell' = true := by rfl)
    (hD : r.nu.all D = true := by rfl) (hΓ : ∀ g, Γ ++ [[.var g r row]] = Γ' g := by intros; (simp only [List.cons_append, List.nil_append]) <;> exact rfl) :
    AW P J w0 D Post K Γ (.em (.wx (.alloc t) ty [] (some none)) k) := by
  intro hJ L E u hL hk0 w he hbw
  have h2 := hk0.ext he hbw
  have ht' : r.t = t := Nat.eq_of_beq_eq_true ht
  subst ht'
  obtain ⟨ie, z, hie, hz, hzs⟩ := zeroC_of hz
  have hza : z.cells = zs.toArray := by rw [← hzs]
  refine ⟨[.pointer (some ⟨w.heap.size, 0, none⟩)], w.alloc (.cells zs.toArray r.t), ?_, rfl, ChgS.of_below (bel_alloc _ _), bel_on hbw (bel_alloc _ _), hk w.heap.size hJ L _ _ hL.ext ?_⟩
  · show (execOp _ _).run P w = .ok (.value (.pointer (some ⟨w.heap.size, 0, none⟩))) _
    simp [execOp, Instr.alloc, zeroValue, typeInfo, hie, hz, newVar, newRow, hza]
  · rw [← hΓ]
    subst hrow
    refine h2.alloc (RepS.one_of ⟨fun p hp => ?_, rfl, rfl, ⟨hbw.size, Gh.more_new _⟩, zs.toArray, heap_alloc_new w _, by simpa using Nat.eq_of_beq_eq_true hn, ?_⟩) (by simpa [AV.okD] using hD)
    · obtain ⟨v, _, rfl⟩ := List.mem_map.1 hp
      exact ⟨fun t h => by simp [pV] at h, fun t h => by simp [pV] at h⟩
    · intro i row hi
      have hi0 : i = 0 := by have := (List.getElem?_eq_some_iff.1 hi).1; simp at this; exact this
      subst hi0
      simp only [List.getElem?_cons_zero, Option.some.injEq] at hi
      subst hi
      refine ⟨zs, Nat.eq_of_beq_eq_true hn, known_rl h1, fun j y hy => by simpa using hy⟩
end rules
end Cin

namespace Cin
open Go Go.RowKit
theorem RowsAt.flat {l : Lm} {r : Rty} {w : World} {cur : Array Value} {rows : List (List Pd)} (h : RowsAt r l w cur 0 rows) (hs : rows.length * r.n ≤ cur.size) :
    ∃ xs : List (List Value), xs.length = rows.length ∧ (∀ (i : Nat) (row : List Pd) (x : List Value), rows[i]? = some row → xs[i]? = some x → x.length = r.n ∧ RL l w row x) ∧ cur.toList.take (rows.length * r.n) = xs.flatten := by
  have hx : ∀ i, ∃ x : List Value, ∀ row, rows[i]? = some row → x.length = r.n ∧ RL l w row x ∧ ∀ (j : Nat) (y : Value), x[j]? = some y → cur[0 + i * r.n + j]? = some y := by
    intro i
    cases hi : rows[i]? with
    | none => exact ⟨[], fun row h => by cases h⟩
    | some row =>
      obtain ⟨x, h1, h2, h3⟩ := h i row hi
      exact ⟨x, fun row' e => by cases e; exact ⟨h1, h2, h3⟩⟩
  obtain ⟨F, hF⟩ : ∃ F : Nat → List Value, ∀ (i : Nat) (row : List Pd), rows[i]? = some row → (F i).length = r.n ∧ RL l w row (F i) ∧ ∀ (j : Nat) (y : Value), (F i)[j]? = some y → cur[0 + i * r.n + j]? = some y := ⟨fun i => Classical.choose (hx i), fun i => Classical.choose_spec (hx i)⟩
  refine ⟨(List.range rows.length).map F, by simp, ?_, ?_⟩
  · intro i row x hi hxi
    have hlt := (List.getElem?_eq_some_iff.1 hi).1
    simp only [List.getElem?_map, List.getElem?_range hlt, Option.map_some, Option.some.injEq] at hxi
    subst hxi
    obtain ⟨h1, h2, _⟩ := hF i row hi
    exact ⟨h1, h2⟩
  · have hall : ∀ x ∈ (List.range rows.length).map F, x.length = r.n := by
      intro x hm
      obtain ⟨i, hi, rfl⟩ := List.mem_map.1 hm
      have hlt : i < rows.length := by simpa using hi
      exact (hF i rows[i] (List.getElem?_eq_getElem hlt)).1
    have hfl := flat_len hall
    rw [List.length_map, List.length_range] at hfl
    refine List.ext_getElem? fun k => ?_
    by_cases hk : k < rows.length * r.n
    · have hn : 0 < r.n := by rcases Nat.eq_zero_or_pos r.n with h | h; rw [h] at hk; omega; exact h
      have hi : k / r.n < rows.length := (Nat.div_lt_iff_lt_mul hn).2 hk
      have hj : k % r.n < r.n := Nat.mod_lt _ hn
      obtain ⟨h1, _, h3⟩ := hF (k / r.n) rows[k / r.n] (List.getElem?_eq_getElem hi)
      have hkk : k / r.n * r.n + k % r.n = k := by rw [Nat.mul_comm]; exact Nat.div_add_mod k r.n
      have e1 := flat_at (n := r.n) (xs := (List.range rows.length).map F) (i := k / r.n) (j := k % r.n) (x := F (k / r.n)) (y := (F (k / r.n))[k % r.n]'(by omega)) hall (by simp [hi]) (List.getElem?_eq_getElem (by omega))
      have e2 := h3 (k % r.n) _ (List.getElem?_eq_getElem (by omega))
      rw [hkk] at e1
      rw [Nat.zero_add, hkk] at e2
      rw [e1, List.getElem?_take, if_pos hk]
      simpa using e2
    · rw [List.getElem?_eq_none (by simp; omega), List.getElem?_eq_none (by omega)]
theorem OwnR.owns {B : Bd} {g : Nat} {r : Rty} {rows : List (List Pd)} {w : World} {cs : List Value} {os : List Nat} (h : OwnR B g r rows w cs os) : ∃ (v : Value) (xs : List (List Value)), cs = [v] ∧ w.ownsRow B.b r.t r.n v rows.length xs.flatten ∧ xs.length = rows.length ∧
    (∀ (i : Nat) (row : List Pd) (x : List Value), rows[i]? = some row → xs[i]? = some x → x.length = r.n ∧ RL B.nn w row x) ∧ ((v.ownBlock = some g ∧ os = [g] ∧ B.S g ∧ ∃ cur, w.heap[g]? = some (.cells cur r.t (0, 0))) ∨ (v.ownBlock = none ∧ os = [])) := by
  rcases h.2 with ⟨rfl, rfl, rfl⟩ | ⟨cap, cur, rfl, rfl, hB, hg, i1, i2, i3, hrow⟩
  · exact ⟨_, [], rfl, ⟨by simp, .inl ⟨rfl, rfl⟩⟩, rfl, fun i row x h => by simp at h, .inr ⟨rfl, rfl⟩⟩
  · obtain ⟨xs, h1, h2, h3⟩ := hrow.flat (by rw [i3]; exact Nat.mul_le_mul_right _ i1)
    refine ⟨_, xs, rfl, ⟨?_, .inr ⟨g, cap, cur, rfl, hB.1, hg, i1, i2, i3, h3⟩⟩, h1, h2, .inl ⟨rfl, rfl, hB.2, cur, hg⟩⟩
    have h4 := Nat.mul_le_mul_right r.n i1
    have h5 : cur.toList.length = cap * r.n := by rw [Array.length_toList, i3]
    rw [← h3, List.length_take, h5]
    omega
theorem rowsAt_of {l : Lm} {r : Rty} {w : World} {cur : Array Value} {rows : List (List Pd)} {xs : List (List Value)} (hl : xs.length = rows.length) (h : ∀ (i : Nat) (row : List Pd) (x : List Value), rows[i]? = some row → xs[i]? = some x → x.length = r.n ∧ RL l w row x) (ht : cur.toList.take (rows.length * r.n) = xs.flatten) : RowsAt r l w cur 0 rows := by
  intro i row hi
  have hlt := (List.getElem?_eq_some_iff.1 hi).1
  obtain ⟨x, h1, h2, h3⟩ := flat_rows hl h i row hi
  refine ⟨x, h1, h2, fun j y hy => ?_⟩
  have h4 := h3 j y hy
  rw [Nat.zero_add] at h4 ⊢
  rw [List.getElem?_toArray, ← ht, List.getElem?_take] at h4
  split at h4
  · simpa using h4
  · cases h4
def junkL : List (List AV) → List (Nat × Nat) → List (List AV)
  | Γ, [] => Γ
  | Γ, (i, j) :: r => junkL (junkAt Γ i j) r
theorem junkAt_rep {B : Bd} {w : World} : ∀ {Γ : List (List AV)} {i k : Nat} {E : Env} {os : List Nat}, RepE B w Γ E os → ∃ os', RepE B w (junkAt Γ i k) E os' ∧ os'.Sublist os := by
  intro Γ
  induction Γ with
  | nil => intro i k E os h; exact ⟨os, h, List.Sublist.refl _⟩
  | cons s Γ ih =>
    intro i k E os h
    obtain ⟨cs, E', o1, o2, e, e2, h1, h2⟩ := h
    cases i with
    | zero =>
      have key : ∀ {s : List AV} {k : Nat} {cs : List Value} {o : List Nat}, RepS B w s cs o → ∃ o', RepS B w (junkS s k) cs o' ∧ o'.Sublist o := by
        intro s
        induction s with
        | nil => intro k cs o h; exact ⟨o, h, List.Sublist.refl _⟩
        | cons a s ihs =>
          intro k cs o h
          obtain ⟨c1, c2, p1, p2, f1, f2, h1, h2⟩ := h
          cases k with
          | zero => exact ⟨p2, ⟨c1, c2, [], p2, f1, rfl, h1.junk, h2⟩, by rw [f2]; exact List.sublist_append_right _ _⟩
          | succ k =>
            obtain ⟨o', h3, h4⟩ := ihs (k := k + 1 - a.n) h2
            exact ⟨p1 ++ o', ⟨c1, c2, p1, o', f1, rfl, h1, h3⟩, by rw [f2]; exact List.Sublist.append_left h4 _⟩
      obtain ⟨o', h3, h4⟩ := key (k := k) h1
      exact ⟨o' ++ o2, ⟨cs, E', o', o2, e, rfl, h3, h2⟩, by rw [e2]; exact List.Sublist.append_right h4 _⟩
    | succ i =>
      obtain ⟨o', h3, h4⟩ := ih (i := i) (k := k) h2
      exact ⟨o1 ++ o', ⟨cs, E', o1, o', e, rfl, h1, h3⟩, by rw [e2]; exact List.Sublist.append_left h4 _⟩
theorem Knows.junk {w0 : W0} {D : TypeId → Bool} {E : Env} {u : Gh} : ∀ {js : List (Nat × Nat)} {Γ : List (List AV)}, Knows w0 D Γ E u → Knows w0 D (junkL Γ js) E u
  | [], _, h => h
  | (i, j) :: js, Γ, ⟨h1, h2, os, hn, hr⟩ => by
    obtain ⟨os', h3, h4⟩ := junkAt_rep (i := i) (k := j) hr
    exact Knows.junk (js := js) (Γ := junkAt Γ i j) ⟨h1, junkAt_okE h2, os', hn.sublist h4, h3⟩
section rules
variable {P : Program} {J : Jd} {w0 : W0} {D : TypeId → Bool} {Post : Ending → World → Prop} {K : LK} {Γ : List (List AV)} {k : Tr}
theorem aMake {T ty : TypeId} {ar : List V1} {p q : Operand} {vs : List Value} {κ κ' : IntKind} (n : Nat) (r : Rty) {zs : List Value} {zrow : List Pd} {Γ' : Nat → List (List AV)} (hv : knownL Γ ar = some vs) (hp : pe vs p = .int κ n) (hq : pe vs q = .int κ' n) (hzr : zs.map pV = zrow) (hk : ∀ g, AW P J w0 D Post K (Γ' g) k)
    (hn : n * r.n ≤ 16777216 := by omega) (hby : (P.info? r.t).map (fun i => Nat.ble i.bytes 65536) = some true := by kernel_rfl) (h63 : n ≤ 1000000 := by omega)
    (hT : slTb P T r = true := by kernel_rfl) (hz : zeroC P r.t = some zs := by kernel_rfl) (hzn : Nat.beq zs.length r.n = true := by rfl) (h1 : zs.all Value.oneCell' = true := by rfl) (hn0 : Nat.ble 1 r.n = true := by rfl)
    (hD : r.nu.all D = true := by rfl) (hΓ : ∀ g, Γ ++ [[.own g r (List.replicate n zrow)]] = Γ' g := by intros; (simp only [List.cons_append, List.nil_append]) <;> exact rfl) :
    AW P J w0 D Post K Γ (.em (.wx (.makeSlice T p q) ty ar (some none)) k) := by
  intro hJ L E u hL hk0 w he hbw
  have h2 := hk0.ext he hbw
  obtain ⟨_, _, os, hn3, hr⟩ := id h2
  obtain ⟨hu, ie, hie, hsz⟩ := slT_of hT
  obtain ⟨ie', z, hie', hz, hzs⟩ := zeroC_of hz
  rw [hie] at hie' hby
  cases hie'
  have hbytes : ie.bytes ≤ 65536 := by
    simp only [Option.map_some, Option.some.injEq] at hby
    exact Nat.le_of_ble_eq_true hby
  obtain ⟨w', hrun, ho, hgr⟩ := run_makeSlice_full (P := P) w w0.w.heap.size T r.t ie z r.n hu hie hz hsz κ κ' n hn (by
    have := Nat.mul_le_mul hbytes h63
    omega) (by simp only [maxLen]; omega) hbw.size
  have hw' : Below w.heap.size w w' := ⟨hgr.os, hgr.tape, hgr.output, hgr.size, fun k hk => hgr.block k hk (by simp)⟩
  have hb' := bel_on hbw hw'
  rcases ho.2 with ⟨e, _⟩ | ⟨g, cap, cur, e, hB, hg, i1, i2, i3, i4⟩
  · cases e
  · injection e with e1 e2 e3
    injection e1 with e1
    injection e1 with e1
    subst e1 e3
    refine ⟨[.slice (some ⟨w.heap.size, 0, none⟩) n n], w', ?_, rfl, ChgS.of_below hw', hb', hk w.heap.size hJ L _ _ hL.ext ?_⟩
    · show (execOp _ _).run P w = .ok (.value (.slice (some ⟨w.heap.size, 0, none⟩) n n)) _
      have e : ar.map (V1.den [] E) = vs := knownL_ok hr hv
      simp only [execOp, e, hp, hq]
      simp [hrun]
    · rw [← hΓ]
      have hDx := h2.2.1
      obtain ⟨os, hn3, hr, hlt⟩ := h2.new hw'
      refine ⟨⟨hb', ShOk.more (u := ⟨w, u.S⟩) h2.1.2 (Nat.le_refl _) hw'.size h2.1.1.size⟩, ?_, os ++ [w.heap.size], ?_, RepE.snoc (B := w0.bd (u.more w w').S) hr (RepS.one_of ⟨?_, .inr ⟨n, cur, ?_, rfl, ⟨hbw.size, .inr ⟨Nat.le_refl _, lt_of_heap hg⟩⟩, hg, by simp, by simp only [maxLen]; omega, i3, ?_⟩⟩)⟩
      · unfold okE at *; rw [List.all_append, hDx]; simpa [AV.okD] using hD
      · refine List.nodup_append.2 ⟨hn3, by simp, fun a ha b hb e => ?_⟩
        have := hlt a ha
        simp at hb
        omega
      · intro row hm
        obtain rfl := List.eq_of_mem_replicate hm
        subst hzr
        intro p hp
        obtain ⟨v, _, rfl⟩ := List.mem_map.1 hp
        exact ⟨fun t h => by simp [pV] at h, fun t h => by simp [pV] at h⟩
      · simp
      · intro i row hi
        have hlt := (List.getElem?_eq_some_iff.1 hi).1
        rw [List.length_replicate] at hlt
        have hrow : row = zrow := List.eq_of_mem_replicate (List.mem_of_getElem? hi)
        subst hrow hzr
        have hzl : zs.length = r.n := Nat.eq_of_beq_eq_true hzn
        refine ⟨zs, hzl, known_rl h1, fun j y hy => ?_⟩
        have hj := (List.getElem?_eq_some_iff.1 hy).1
        have hn1 := Nat.le_of_ble_eq_true hn0
        have hlt2 : i * r.n + j < n * r.n := by
          have := Nat.mul_le_mul_right r.n (show i + 1 ≤ n by omega)
          rw [Nat.succ_mul] at this; omega
        have hc : cur[i * r.n + j]? = (madeCells z.cells (n * r.n)).toList[i * r.n + j]? := by
          rw [← i4, List.getElem?_take, if_pos hlt2]; simp
        rw [Nat.zero_add, hc]
        have hzc : z.cells.size = r.n := by rw [← Array.length_toList, hzs, hzl]
        have : (i * r.n + j) % r.n = j := by rw [Nat.mul_comm, Nat.mul_add_mod]; exact Nat.mod_eq_of_lt (by omega)
        simp [madeCells, hlt2, hzc, this]
        have hj2 : j < z.cells.size := by omega
        rw [getElem!_pos z.cells j hj2, ← Array.getElem_toList]
        have h5 := (List.getElem?_eq_some_iff.1 hy).2
        subst hzs
        exact h5
end rules
end Cin

namespace Cin
open Go Go.RowKit
theorem RowsAt.cells {l : Lm} {r : Rty} {w : World} {c : Array Value} {o : Nat} {rows : List (List Pd)} (h : RowsAt r l w c o rows) :
    ∃ xs : List (List Value), xs.length = rows.length ∧ (∀ (i : Nat) (row : List Pd) (x : List Value), rows[i]? = some row → xs[i]? = some x → x.length = r.n ∧ RL l w row x) ∧ ∀ (k : Nat) (y : Value), xs.flatten[k]? = some y → c[o + k]? = some y := by
  have hx : ∀ i, ∃ x : List Value, ∀ row, rows[i]? = some row → x.length = r.n ∧ RL l w row x ∧ ∀ (j : Nat) (y : Value), x[j]? = some y → c[o + i * r.n + j]? = some y := by
    intro i
    cases hi : rows[i]? with
    | none => exact ⟨[], fun row h => by cases h⟩
    | some row =>
      obtain ⟨x, h1, h2, h3⟩ := h i row hi
      exact ⟨x, fun row' e => by cases e; exact ⟨h1, h2, h3⟩⟩
  obtain ⟨F, hF⟩ : ∃ F : Nat → List Value, ∀ (i : Nat) (row : List Pd), rows[i]? = some row → (F i).length = r.n ∧ RL l w row (F i) ∧ ∀ (j : Nat) (y : Value), (F i)[j]? = some y → c[o + i * r.n + j]? = some y := ⟨fun i => Classical.choose (hx i), fun i => Classical.choose_spec (hx i)⟩
  refine ⟨(List.range rows.length).map F, by simp, ?_, ?_⟩
  · intro i row x hi hxi
    have hlt := (List.getElem?_eq_some_iff.1 hi).1
    simp only [List.getElem?_map, List.getElem?_range hlt, Option.map_some, Option.some.injEq] at hxi
    subst hxi
    obtain ⟨h1, h2, _⟩ := hF i row hi
    exact ⟨h1, h2⟩
  · intro k y hk
    have hall : ∀ x ∈ (List.range rows.length).map F, x.length = r.n := by
      intro x hm
      obtain ⟨i, hi, rfl⟩ := List.mem_map.1 hm
      have hlt : i < rows.length := by simpa using hi
      exact (hF i rows[i] (List.getElem?_eq_getElem hlt)).1
    have hfl := flat_len hall
    rw [List.length_map, List.length_range] at hfl
    have hkl := (List.getElem?_eq_some_iff.1 hk).1
    rw [hfl] at hkl
    have hn : 0 < r.n := by rcases Nat.eq_zero_or_pos r.n with h | h; rw [h] at hkl; omega; exact h
    have hi : k / r.n < rows.length := (Nat.div_lt_iff_lt_mul hn).2 hkl
    have hj : k % r.n < r.n := Nat.mod_lt _ hn
    obtain ⟨h1, _, h3⟩ := hF (k / r.n) rows[k / r.n] (List.getElem?_eq_getElem hi)
    have hkk : k / r.n * r.n + k % r.n = k := by rw [Nat.mul_comm]; exact Nat.div_add_mod k r.n
    have e1 := flat_at (n := r.n) (xs := (List.range rows.length).map F) (i := k / r.n) (j := k % r.n) (x := F (k / r.n)) (y := (F (k / r.n))[k % r.n]'(by omega)) hall (by simp [hi]) (List.getElem?_eq_getElem (by omega))
    have e2 := h3 (k % r.n) _ (List.getElem?_eq_getElem (by omega))
    rw [hkk] at e1
    rw [Nat.add_assoc, hkk] at e2
    rw [e1] at hk
    cases hk
    exact e2
theorem append_core {P : Program} {B : Bd} {g : Nat} {r : Rty} {rows rows' : List (List Pd)} {w : World} {v v2 : Value} {os : List Nat} {T ty : TypeId} (h : OwnR B g r rows w [v] os) (h2 : RowsR r rows' B.nn w [v2]) (hT : slTb P T r = true) (hz : ∃ zs, zeroC P r.t = some zs ∧ zs.length = r.n) (hn0 : 1 ≤ r.n)
    (hby : (P.info? r.t).map (fun i => Nat.ble i.bytes 65536) = some true) (hlen : rows.length + rows'.length ≤ 1000000) (hB : B.b ≤ w.heap.size) (hself : r.nu.contains r.t = false ∧ r.sl.contains r.t = false) :
    ∃ (v' : Value) (w' : World) (g' : Nat) (os' : List Nat), (Builtin.append_ #[T, T] ty #[v, v2]).run P w = .ok v' w' ∧ w.grownBy w' v.ownBlock ∧ (∀ S' : Nat → Prop, (∀ b, B.S b → S' b) → (∀ x, w.heap.size ≤ x → x < w'.heap.size → S' x) → OwnR (B.sh S') g' r (rows ++ rows') w' [v'] os') ∧ (∀ x : Nat, x ∈ os' → x ∈ os ∨ w.heap.size ≤ x) ∧ os'.Nodup ∧ (∀ b : Nat, v.ownBlock = some b → b ∈ os ∧ ∃ c, w.heap[b]? = some (Obj.cells c r.t (0, 0))) := by
  obtain ⟨hu, ie, hie, hsz⟩ := slT_of hT
  obtain ⟨zs, hzc, hzl⟩ := hz
  obtain ⟨ie', z, hie', hz, hzs⟩ := zeroC_of hzc
  rw [hie] at hie' hby
  cases hie'
  have hbytes : ie.bytes ≤ 65536 := by
    simp only [Option.map_some, Option.some.injEq] at hby
    exact Nat.le_of_ble_eq_true hby
  obtain ⟨v0, xs, e0, hown, hxl, hxr, hbk⟩ := h.owns
  cases e0
  have hob : ∀ b : Nat, v.ownBlock = some b → b ∈ os ∧ ∃ c, w.heap[b]? = some (Obj.cells c r.t (0, 0)) := by
    intro b hb
    rcases hbk with ⟨e, ho, _, c, hc⟩ | ⟨e, _⟩
    · rw [hb] at e; cases e; exact ⟨by rw [ho]; simp, c, hc⟩
    · rw [hb] at e; cases e
  have hobS : ∀ b : Nat, v.ownBlock = some b → B.S b := by
    intro b hb
    rcases hbk with ⟨e, ho, hs, c, hc⟩ | ⟨e, _⟩
    · rw [hb] at e; cases e; exact hs
    · rw [hb] at e; cases e
  have hge : ∀ b, b ∈ os → B.b ≤ b := fun b hb => ((show RepV B w (.own g r rows) [v] os from h).ge b hb).1
  obtain ⟨ys, hyl, hyr, hyc⟩ : ∃ ys : List (List Value), ys.length = rows'.length ∧ (∀ (i : Nat) (row : List Pd) (x : List Value), rows'[i]? = some row → ys[i]? = some x → x.length = r.n ∧ RL B.nn w row x) ∧
      ((v2 = .slice none 0 0 ∧ ys = []) ∨ ∃ a m c, v2 = .slice (some a) m c ∧ m = rows'.length ∧ ∀ (k : Nat) (y : Value), ys.flatten[k]? = some y → w.cell? (a.add k) = some y) := by
    rcases h2.2 with ⟨ad, cap, e, hc, h0⟩ | ⟨b, o, cap, c, tt, f, e, hb, _, hm, hat⟩
    · injection e with e
      subst e h0
      cases ad with
      | none => exact ⟨[], rfl, fun i row x h => by simp at h, .inl ⟨by rw [hc rfl], rfl⟩⟩
      | some a => exact ⟨[], rfl, fun i row x h => by simp at h, .inr ⟨a, 0, cap, rfl, rfl, fun k y h => by simp at h⟩⟩
    · injection e with e
      subst e
      obtain ⟨ys, k1, k2, k3⟩ := hat.cells
      refine ⟨ys, k1, k2, .inr ⟨_, _, _, rfl, rfl, fun k y hk => ?_⟩⟩
      rw [Addr.add_mid]
      simp [World.cell?, hb, k3 k y hk]
  have hyall : ∀ x ∈ ys, x.length = r.n := by
    intro x hx
    obtain ⟨i, hi, rfl⟩ := List.getElem_of_mem hx
    exact (hyr i rows'[i] _ (List.getElem?_eq_getElem (by omega)) (List.getElem?_eq_getElem hi)).1
  have hfl := flat_len hyall
  have hone : ∀ y ∈ ys.flatten, y.oneCell' = true := by
    intro y hy
    obtain ⟨x, hx, hy⟩ := List.mem_flatten.1 hy
    obtain ⟨i, hi, rfl⟩ := List.getElem_of_mem hx
    exact List.all_eq_true.1 (hyr i rows'[i] _ (List.getElem?_eq_getElem (by omega)) (List.getElem?_eq_getElem hi)).2.one y hy
  have key : ∃ v' w', (Builtin.append_ #[T, T] ty #[v, v2]).run P w = .ok v' w' ∧ w'.ownsRow B.b r.t r.n v' (rows.length + rows'.length) (xs ++ ys).flatten ∧ w.grownBy w' v.ownBlock ∧ (v'.ownBlock = v.ownBlock ∨ v'.ownBlock = some w.heap.size) := by
    rcases hyc with ⟨rfl, rfl⟩ | ⟨a, m, c, rfl, rfl, hcell⟩
    · have hr0 : rows'.length = 0 := by rw [← hyl]; rfl
      refine ⟨v, w, run_append_owned_none (P := P) (w := w) B.b T ty r.t ie r.n hu hie v rows.length xs.flatten hown, ?_, ⟨rfl, rfl, rfl, Nat.le_refl _, fun _ _ _ => rfl⟩, .inl rfl⟩
      rw [hr0, Nat.add_zero, List.append_nil]; exact hown
    · obtain ⟨v', w', k1, k2, k3, _, k5⟩ := run_append_own_at (P := P) (w := w) B.b T ty r.t ie z r.n ie.bytes hu hie hz hsz rfl (by rw [← Array.length_toList, hzs, hzl]) (by omega) v rows.length xs.flatten hown a rows'.length c ys.flatten (by rw [hfl, hyl]) hcell hone (by simp only [maxLen]; omega)
        (by have := Nat.mul_le_mul hlen hbytes; omega) hB
      exact ⟨v', w', k1, by rw [List.flatten_append]; exact k2, k3, k5⟩
  obtain ⟨v', w', hrun, hown', hgr, hbb⟩ := key
  have hkeep : ∀ {S' : Nat → Prop} {row : List Pd} {x : List Value}, (∀ b, B.S b → S' b) → r.Fit row → RL B.nn w row x → RL (B.sh S').nn w' row x := fun hS hf hx => RL.mono hS ⟨hgr.size, fun b o hb hc => by
    rcases hc with ⟨c, t, f, rfl, hc⟩ | hlt | ⟨_, h, _⟩
    · rw [hgr.block b (Array.getElem?_eq_some_iff.1 hb).1 (fun e => ?_)]; exact hb
      obtain ⟨_, c', hc'⟩ := hob b e.symm
      rw [hb] at hc'
      cases hc'
      rcases hc with hc | ⟨_, _, hc⟩
      · rw [hself.1] at hc; cases hc
      · rw [hself.2] at hc; cases hc
    · rw [hgr.block b (Array.getElem?_eq_some_iff.1 hb).1 (fun e => ?_)]; exact hb
      have h1 := hge b (hob b e.symm).1
      have h2 : b < B.b0 := hlt
      have := B.le; omega
    · cases h⟩ hf hx
  have hfit : ∀ row ∈ rows ++ rows', r.Fit row := fun row hm => (List.mem_append.1 hm).elim (h.1 row) (h2.1 row)
  have hrows : ∀ {S' : Nat → Prop}, (∀ b, B.S b → S' b) → ∀ (i : Nat) (row : List Pd) (x : List Value), (rows ++ rows')[i]? = some row → (xs ++ ys)[i]? = some x → x.length = r.n ∧ RL (B.sh S').nn w' row x := by
    intro S' hS i row x hi hx
    have hf := hfit row (List.mem_of_getElem? hi)
    by_cases hlt : i < rows.length
    · rw [List.getElem?_append_left hlt] at hi
      rw [List.getElem?_append_left (by omega)] at hx
      exact ⟨(hxr i row x hi hx).1, hkeep hS hf (hxr i row x hi hx).2⟩
    · rw [List.getElem?_append_right (by omega)] at hi
      rw [List.getElem?_append_right (by omega), hxl] at hx
      exact ⟨(hyr _ row x hi hx).1, hkeep hS hf (hyr _ row x hi hx).2⟩
  rcases hown'.2 with ⟨e, h0⟩ | ⟨gg, cap, cur, e, hBg, hg, i1, i2, i3, i4⟩
  · have hnil : rows ++ rows' = [] := List.eq_nil_of_length_eq_zero (by rw [List.length_append]; exact h0)
    exact ⟨v', w', 0, [], hrun, hgr, fun _ _ _ => ⟨hfit, .inl ⟨by rw [e], hnil, rfl⟩⟩, fun x hx => (by cases hx), List.nodup_nil, hob⟩
  · have hgg : v.ownBlock = some gg ∨ gg = w.heap.size := by
      rw [e] at hbb
      simp only [Value.ownBlock] at hbb
      rcases hbb with hbb | hbb
      · exact .inl hbb.symm
      · injection hbb with hbb; exact .inr hbb
    refine ⟨v', w', gg, [gg], hrun, hgr, fun S' hS hN => ⟨hfit, .inr ⟨cap, cur, by rw [e, List.length_append], rfl, ⟨hBg, hgg.elim (fun h => hS _ (hobS _ h)) (fun h => hN _ (by omega) (lt_of_heap hg))⟩, hg, by rw [List.length_append]; exact i1, i2, i3, rowsAt_of (by simp [hxl, hyl]) (hrows hS) (by rw [List.length_append]; exact i4)⟩⟩, fun x hx => ?_, by simp, hob⟩
    simp only [List.mem_singleton] at hx
    subst hx
    rcases hgg with h | h
    · exact .inl (hob _ h).1
    · exact .inr (by omega)
theorem RepV.sh {B : Bd} {w : World} {a : AV} {cs : List Value} {os : List Nat} (h : RepV B w a cs os) : ∀ g ∈ os, B.S g := by
  cases a with
  | ro old p => rw [h.2]; intro g hg; cases hg
  | own g r rows =>
    rcases h.2 with ⟨_, _, rfl⟩ | ⟨_, _, _, rfl, h1, _⟩
    · intro g hg; cases hg
    · intro g hg; simp at hg; subst hg; exact h1.2
  | var g r row => obtain ⟨_, _, rfl, h1, _⟩ := h; intro g hg; simp at hg; subst hg; exact h1.2
  | junk n => rw [h.2.2]; intro g hg; cases hg
section rules
variable {P : Program} {J : Jd} {w0 : W0} {D : TypeId → Bool} {Post : Ending → World → Prop} {K : LK} {Γ : List (List AV)} {k : Tr}
theorem junkL_rep {B : Bd} {w : World} {E : Env} : ∀ {js : List (Nat × Nat)} {Γ : List (List AV)} {os : List Nat}, RepE B w Γ E os → ∃ os', RepE B w (junkL Γ js) E os' ∧ os'.Sublist os
  | [], Γ, os, h => ⟨os, h, List.Sublist.refl _⟩
  | (i, j) :: js, Γ, os, h => by
    obtain ⟨o1, h1, h2⟩ := junkAt_rep (i := i) (k := j) h
    obtain ⟨o2, h3, h4⟩ := junkL_rep (js := js) h1
    exact ⟨o2, h3, h4.trans h2⟩
theorem junkL_okE : ∀ {js : List (Nat × Nat)} {Γ : List (List AV)}, okE D Γ = true → okE D (junkL Γ js) = true
  | [], _, h => h
  | (_, _) :: js, _, h => junkL_okE (js := js) (junkAt_okE h)
theorem aAppend (js : List (Nat × Nat)) {T ty : TypeId} {i j i' j' g : Nat} {r : Rty} {rows rows' : List (List Pd)} {zs : List Value} {Γ' : Nat → List (List AV)} (hl : look Γ i j = some (.own g r rows)) (hl2 : (look Γ i' j').bind AV.pd = some (pRows r rows')) (hlen : rows.length + rows'.length ≤ 1000000) (hk : ∀ g, AW P J w0 D Post K (Γ' g) k)
    (hT : slTb P T r = true := by kernel_rfl) (hz : zeroC P r.t = some zs := by kernel_rfl) (hzn : Nat.beq zs.length r.n = true := by rfl) (hn0 : Nat.ble 1 r.n = true := by rfl) (hby : (P.info? r.t).map (fun i => Nat.ble i.bytes 65536) = some true := by kernel_rfl)
    (hD : r.nu.all D = true := by rfl) (hself : (!r.nu.contains r.t && !r.sl.contains r.t) = true := by rfl) (hs : safeE r.t (junkL Γ ((i, j) :: js)) = true := by rfl)
    (hΓ : ∀ g, junkL Γ ((i, j) :: js) ++ [[.own g r (rows ++ rows')]] = Γ' g := by intros; (simp only [junkL, junkAt, junkS, AV.n, List.cons_append, List.nil_append]) <;> exact rfl) :
    AW P J w0 D Post K Γ (.em (.wx (.call { callee := .builtin .append, args := #[.tmp 0, .tmp 1], argTypes := #[T, T] }) ty [.s (.c i j), .s (.c i' j')] (some none)) k) := by
  intro hJ L E u hL hk0 w he hbw
  have h2 := hk0.ext he hbw
  obtain ⟨_, hDE, os, hn, hr⟩ := id h2
  simp only [Bool.and_eq_true, Bool.not_eq_true'] at hself
  obtain ⟨c, o1, o, o2, eo, hv, hc, hr1⟩ := junkAt_ok hr hl
  obtain ⟨v, rfl⟩ : ∃ v, c = [v] := by
    have := RepV.len hv
    match c, this with
    | [v], _ => exact ⟨v, rfl⟩
  have hd1 : (V1.s (A.c i j)).den [] E = v := hc 0 v rfl
  obtain ⟨c2, hR2, hc2⟩ := look_pd hr hl2
  obtain ⟨ad, cap, rfl⟩ := RowsR.sh hR2
  have hd2 : (V1.s (A.c i' j')).den [] E = .slice ad rows'.length cap := hc2 0 _ rfl
  obtain ⟨v', w', g', os', hrun, hgr, hown', hos', hnd', hob⟩ := append_core (P := P) (T := T) (ty := ty) hv hR2 hT ⟨zs, hz, Nat.eq_of_beq_eq_true hzn⟩ (Nat.le_of_ble_eq_true hn0) hby hlen hbw.size hself
  have hbk : ∀ b, v.ownBlock = some b → w0.w.heap.size ≤ b := fun b hb => (hv.ge b (hob b hb).1).1
  have hbw' : Below w0.w.heap.size w0.w w' := hbw.trans ⟨hgr.os, hgr.tape, hgr.output, hgr.size, fun k hk => hgr.block k (Nat.lt_of_lt_of_le hk hbw.size) (fun e => by have := hbk k e.symm; omega)⟩
  obtain ⟨o3, hr3, hsub⟩ := junkL_rep (js := js) hr1
  have hgo : Goes w0.w.heap.size u.S (fun b => v.ownBlock = some b) D w w' := ⟨hgr.size, fun b hb => (hbw'.block b hb).trans (hbw.block b hb).symm, fun b c t f hb _ hne => by rw [hgr.block b (lt_of_heap hb) (fun e => hne e.symm)]; exact hb⟩
  have hDJ : okE D (junkL Γ ((i, j) :: js)) = true := junkL_okE hDE
  have hno : ∀ x ∈ o3, x ∉ o := fun x hx hxo => by
    have h5 := hsub.subset hx
    rw [eo] at hn
    simp only [List.nodup_append, List.mem_append] at hn
    rcases List.mem_append.1 h5 with h6 | h6
    · exact hn.1.2.2 x h6 x hxo rfl
    · exact hn.2.2 x (.inr hxo) x h6 rfl
  have hown' := hown' (u.more w w').S (fun _ h => .inl h) (fun x h1 h2 => .inr ⟨h1, h2⟩)
  have hr4 : RepE (w0.bd (u.more w w').S) w' (junkL Γ ((i, j) :: js)) E o3 := RepE.goes (B := w0.bd u.S) (S' := (u.more w w').S) hgo (fun _ h => .inl h) hr3 hDJ (fun b c t f hb hx => by
    obtain ⟨_, c', hc'⟩ := hob b hx
    rw [hb] at hc'
    cases hc'
    exact hs) (fun x hx e => hno x hx (hob x e).1)
  refine ⟨[v'], w', ?_, ?_, ⟨hgr.size, fun b c t f hb hor => ?_⟩, hbw', hk g' hJ L _ _ hL.ext ?_⟩
  · show (execOp _ _).run P w = .ok (.value v') w'
    have e : [V1.s (A.c i j), V1.s (A.c i' j')].map (V1.den [] E) = [v, .slice ad rows'.length cap] := by simp only [List.map_cons, List.map_nil, hd1, hd2]
    rw [e]
    simp only [execOp]
    simp [resolve, pe, invoke, builtin, hrun]
  · exact RepV.one (B := w0.bd (u.more w w').S) (w := w') (a := .own g' r (rows ++ rows')) hown'
  · rw [hgr.block b (lt_of_heap hb) (fun e => ?_)]; exact hb
    rcases hor with h | h
    · exact absurd ((show RepV (w0.bd u.S) w (.own g r rows) [v] o from hv).sh b (hob b e.symm).1) h.2
    · cases h
  · rw [← hΓ]
    refine ⟨⟨hbw', ShOk.more (u := ⟨w, u.S⟩) h2.1.2 (Nat.le_refl _) hgr.size h2.1.1.size⟩, ?_, o3 ++ os', ?_, RepE.snoc (B := w0.bd (u.more w w').S) hr4 (RepS.one_of hown')⟩
    · unfold okE at *; rw [List.all_append, hDJ]; simpa [AV.okD] using hD
    · refine List.nodup_append.2 ⟨?_, hnd', fun a ha b hb e => ?_⟩
      · refine hsub.nodup ?_
        rw [eo] at hn
        refine List.Nodup.sublist ?_ hn
        rw [List.append_assoc]
        exact List.Sublist.append_left (List.sublist_append_right _ _) _
      · subst e
        rcases hos' a hb with h | h
        · exact hno a ha h
        · have := (hr3.ge a ha).2; omega
def ConvS (asx bs : List AV) : Prop := ∀ B w cs os, RepS B w asx cs os → RepS B w bs cs os
theorem ConvS.nil : ConvS [] [] := fun _ _ _ _ h => h
theorem ConvS.same {a : AV} {asx bs : List AV} (h : ConvS asx bs) : ConvS (a :: asx) (a :: bs) := fun B w _ _ ⟨c1, c2, o1, o2, e, e2, h1, h2⟩ => ⟨c1, c2, o1, o2, e, e2, h1, h B w _ _ h2⟩
theorem ConvS.own {o : Bool} {g : Nat} {r : Rty} {asx bs : List AV} (h : ConvS asx bs) : ConvS (.ro o (pV (.slice none 0 0)) :: asx) (.own g r [] :: bs) := fun B w _ _ ⟨c1, c2, o1, o2, e, e2, h1, h2⟩ =>
  ⟨c1, c2, o1, o2, e, e2, ⟨fun row h => (by cases h), .inl ⟨h1.1.1, rfl, h1.2⟩⟩, h B w _ _ h2⟩
theorem ConvS.rows {o : Bool} {r : Rty} {asx bs : List AV} (h : ConvS asx bs) : ConvS (.ro o (pV (.slice none 0 0)) :: asx) (.ro o (pRows r []) :: bs) := fun B w _ _ ⟨c1, c2, o1, o2, e, e2, h1, h2⟩ =>
  ⟨c1, c2, o1, o2, e, e2, ⟨⟨fun row h => (by cases h), .inl ⟨none, 0, h1.1.1, fun _ => rfl, rfl⟩⟩, h1.2⟩, h B w _ _ h2⟩
def RowC (r : Rty) (rows rows' : List (List Pd)) : Prop := rows'.length = rows.length ∧ ∀ (i : Nat) (row row' : List Pd), rows[i]? = some row → rows'[i]? = some row' → r.Fit row → r.Fit row' ∧ ∀ l w x, RL l w row x → RL l w row' x
theorem RowC.at {r : Rty} {rows rows' : List (List Pd)} {l : Lm} {w : World} {c : Array Value} {o : Nat} (h : RowC r rows rows') (hf : ∀ row ∈ rows, r.Fit row) (ha : RowsAt r l w c o rows) : RowsAt r l w c o rows' := fun i row' hi => by
  have hlt := (List.getElem?_eq_some_iff.1 hi).1
  obtain ⟨row, hr⟩ : ∃ row, rows[i]? = some row := ⟨_, List.getElem?_eq_getElem (by rw [h.1] at hlt; exact hlt)⟩
  obtain ⟨x, h1, h2, h3⟩ := ha i row hr
  exact ⟨x, h1, (h.2 i row row' hr hi (hf row (List.mem_of_getElem? hr))).2 _ _ _ h2, h3⟩
theorem Knows.convS {Γ : List (List AV)} {asx bs : List AV} {E : Env} {u : Gh} (h : Knows w0 D (Γ ++ [asx]) E u) (hc : ConvS asx bs) (hD : bs.all (AV.okD D) = true) : Knows w0 D (Γ ++ [bs]) E u := by
  obtain ⟨hb, h1, os, hn, hr⟩ := h
  obtain ⟨E1, E2, o1, o2, rfl, rfl, h2, cs, E', o3, o4, e3, e4, h3, h4⟩ := hr.split
  refine ⟨hb, ?_, o1 ++ o2, hn, h2.app ⟨cs, E', o3, o4, e3, e4, hc _ _ _ _ h3, h4⟩⟩
  unfold okE at *
  rw [List.all_append, Bool.and_eq_true] at h1 ⊢
  exact ⟨h1.1, by simp [hD]⟩
theorem aLoopC {σ : Type} {d : Nat} {init : List A} {body : Tr} {as0 : List AV} (us : List (Nat × Nat × (σ → AV))) (I : σ → List AV) (pr : σ → Prop) (μ : σ → Nat) (s0 : σ) (hp : pr s0) {G : σ → List (List AV)} {K' : σ → LK} {Γ' : σ → List (List AV)}
    (hk : ∀ s, pr s → AW P J w0 D Post (K' s) (Γ' s) body) (_hG : ∀ s, us.foldl (fun Γ x => setAt (x.2.2 s) Γ x.1 x.2.1) Γ = G s := by intros; (simp only [List.foldl_cons, List.foldl_nil, setAt, setS]) <;> exact rfl)
    (h0 : takeL Γ init = some (as0, G s0) := by rfl) (hc : ConvS as0 (I s0) := by repeat' (first | exact ConvS.nil | refine ConvS.own ?_ | refine ConvS.rows ?_ | refine ConvS.same ?_)) (hcD : (I s0).all (AV.okD D) = true := by rfl) (hd : Nat.ble d K.length = true := by rfl)
    (hK : ∀ s, K.take d ++ [(Γ.length, fun G' avs => ∃ s', G' = G s' ∧ avs = I s' ∧ pr s' ∧ μ s' < μ s)] = K' s := by intros; (simp only [List.take_nil, List.take_zero, List.take_succ_cons, List.nil_append, List.cons_append]) <;> exact rfl)
    (hΓ : ∀ s, G s ++ [I s] = Γ' s := by intros; (simp only [List.cons_append, List.nil_append]) <;> exact rfl) :
    AW P J w0 D Post K Γ (.loop d init body) := by
  intro hJ L E u hL hk0
  obtain ⟨h1, _⟩ := takeL_ok hk0 h0
  have h1 := h1.convS hc hcD
  have hEl : E.length = Γ.length := let ⟨_, _, _, _, h⟩ := hk0; h.len
  refine ⟨fun m cs u => ∃ s, μ s = m ∧ pr s ∧ Knows w0 D (G s ++ [I s]) (E ++ [cs]) u, μ s0, ⟨s0, rfl, hp, h1⟩, ?_⟩
  rintro m cs u' _ _ _ ⟨s, rfl, hps, hks⟩
  refine hk s hps hJ _ _ u' ?_ (hΓ s ▸ hks)
  rw [← hK s]
  refine hL.upd (Nat.le_of_ble_eq_true hd) hEl.symm ?_
  rintro cs' u'' G' avs ⟨s', rfl, rfl, h2, h3⟩ h4
  exact ⟨μ s', h3, s', rfl, h2, h4⟩
theorem aLoopU {σ : Type} {d : Nat} {init : List A} {body : Tr} (us : List (Nat × Nat × (σ → AV))) (I : σ → List AV) (pr : σ → Prop) (μ : σ → Nat) (s0 : σ) (hp : pr s0) {G : σ → List (List AV)} {K' : σ → LK} {Γ' : σ → List (List AV)}
    (hk : ∀ s, pr s → AW P J w0 D Post (K' s) (Γ' s) body) (_hG : ∀ s, us.foldl (fun Γ x => setAt (x.2.2 s) Γ x.1 x.2.1) Γ = G s := by intros; (simp only [List.foldl_cons, List.foldl_nil, setAt, setS]) <;> exact rfl)
    (h0 : takeL Γ init = some (I s0, G s0) := by rfl) (hd : Nat.ble d K.length = true := by rfl)
    (hK : ∀ s, K.take d ++ [(Γ.length, fun G' avs => ∃ s', G' = G s' ∧ avs = I s' ∧ pr s' ∧ μ s' < μ s)] = K' s := by intros; (simp only [List.take_nil, List.take_zero, List.take_succ_cons, List.nil_append, List.cons_append]) <;> exact rfl)
    (hΓ : ∀ s, G s ++ [I s] = Γ' s := by intros; (simp only [List.cons_append, List.nil_append]) <;> exact rfl) :
    AW P J w0 D Post K Γ (.loop d init body) :=
  aLoopG G I pr μ s0 h0 hp hk hd hK hΓ
end rules
end Cin

namespace Go.Proofs.YtpmnakjllkidiaaGreatDoor
open Go.RowKit Cin
def D2 : TypeId → Bool := fun t => t == 161 || t == 48
theorem hR2 : D2 48 = true := rfl
theorem DQ.mono {w : World} {a b d : Value} {q : Rat} {k j : Nat} (h : DQ w a b d q k) (hj : k ≤ j) : DQ w a b d q j := ⟨h.1.mono hj, h.2.1, lt_pw_mono h.2.2 hj⟩
def ListD (w : World) (k : Nat) : List (List Value) → List Rat → Prop
  | [], [] => True
  | x :: xs, q :: qs => (∃ a b d, x = [a, b, d] ∧ DQ w a b d q k) ∧ ListD w k xs qs
  | _, _ => False
theorem ListD.len {w : World} {k : Nat} : ∀ {xs : List (List Value)} {qs : List Rat}, ListD w k xs qs → xs.length = qs.length
  | [], [], _ => rfl
  | _ :: _, _ :: _, h => by simp [h.2.len]
theorem ListD.at {w : World} {k : Nat} : ∀ {xs : List (List Value)} {qs : List Rat} {i : Nat}, ListD w k xs qs → i < qs.length → ∃ q a b d, qs[i]? = some q ∧ xs[i]? = some [a, b, d] ∧ DQ w a b d q k
  | [], [], _, _, hi => absurd hi (Nat.not_lt_zero _)
  | [], _ :: _, _, h, _ => h.elim
  | _ :: _, [], _, h, _ => h.elim
  | x :: xs, q :: qs, 0, h, _ => by obtain ⟨⟨a, b, d, rfl, hq⟩, _⟩ := h; exact ⟨q, a, b, d, rfl, rfl, hq⟩
  | x :: xs, q :: qs, i + 1, h, hi => by
    obtain ⟨q', a, b, d, h1, h2, h3⟩ := h.2.at (i := i) (by simpa using hi)
    exact ⟨q', a, b, d, by simpa using h1, by simpa using h2, h3⟩
end Go.Proofs.YtpmnakjllkidiaaGreatDoor

namespace Go.Proofs.YtpmnakjllkidiaaGreatDoor
open Go.RowKit Cin
theorem dswithin_any (v u : Value) (x y x' y' : Rat) (k j : Nat) (w : World) (h : DsB w v x y k) (h' : DsB w u x' y' j) (hk : k ≤ 3000) (hj : j ≤ 3000) :
    Calls Tryz.prog 33 #[v, u] w fun e w' => e = .returned (.bool (decide (x' ≤ x) && decide (y ≤ y'))) ∧ Below w.heap.size w w' := by
  obtain ⟨a, b, d, a', b', d', rfl, h⟩ := h
  obtain ⟨p, q, r, p', q', r', rfl, h'⟩ := h'
  refine go (fun w => DsQ w a b d a' b' d' x y k ∧ DsQ w p q r p' q' r' x' y' j) [[a, b, d, a', b', d'], [p, q, r, p', q', r']] [some 6, some 6] (tr := (.em (.call 30 [.g [.c 1 0, .c 1 1, .c 1 2], .g [.c 0 0, .c 0 1, .c 0 2]] [none]) (.em (.pr (.binOp .leq 3 (.tmp 0) (.const (.int .i64 0)) 3) 4 [.s (.c 2 0), .s (.k (.int .i64 0))]) (.cond (.c 3 0) (.em (.call 30 [.g [.c 0 3, .c 0 4, .c 0 5], .g [.c 1 3, .c 1 4, .c 1 5]] [none]) (.em (.pr (.binOp .leq 3 (.tmp 0) (.const (.int .i64 0)) 3) 4 [.s (.c 4 0), .s (.k (.int .i64 0))]) (.ret (.v (.s (.c 5 0)))))) (.ret (.v (.s (.k (.bool false))))))))) (by kernel_rfl) (by kernel_rfl) (by kernel_rfl) ((mDs _ _ _ _ _ _ _ _ _).and (mDs _ _ _ _ _ _ _ _ _)) ⟨h, h'⟩ ⟨dspl h, dspl h', trivial⟩ ?_
  refine wVal (fun w b ⟨h, h'⟩ => dcmp_any _ _ x' x j k w ⟨_, _, _, rfl, h'.1⟩ ⟨_, _, _, rfl, h.1⟩ hj hk) rfl ?_
  refine wPr (prLe rfl rfl) rfl ?_
  refine wIf _ rfl (fun e => ?_) (fun e => ?_)
  · refine wVal (fun w b ⟨h, h'⟩ => dcmp_any _ _ y y' k j w ⟨_, _, _, rfl, h.2⟩ ⟨_, _, _, rfl, h'.2⟩ hk hj) rfl ?_
    refine wPr (prLe rfl rfl) rfl ?_
    refine wRet fun w b _ => ⟨?_, b⟩
    rw [← v_le, ← v_le, e, Bool.true_and]; rfl
  · refine wRet fun w b _ => ⟨?_, b⟩
    rw [← v_le, ← v_le, e, Bool.false_and]; rfl
theorem dshas_any (v u : Value) (x y z : Rat) (k j : Nat) (w : World) (h : DsB w v x y k) (h' : DRatB w u z j) (hk : k ≤ 3000) (hj : j ≤ 3000) :
    Calls Tryz.prog 38 #[v, u] w fun e w' => e = .returned (.bool (decide (x ≤ z) && decide (z ≤ y))) ∧ Below w.heap.size w w' := by
  obtain ⟨a, b, d, a', b', d', rfl, h⟩ := h
  obtain ⟨p, q, r, rfl, h'⟩ := h'
  refine go (fun w => DsQ w a b d a' b' d' x y k ∧ DQ w p q r z j) [[a, b, d, a', b', d'], [p, q, r]] [some 6, some 3] (tr := (.em (.call 30 [.g [.c 0 0, .c 0 1, .c 0 2], .g [.c 1 0, .c 1 1, .c 1 2]] [none]) (.em (.pr (.binOp .leq 3 (.tmp 0) (.const (.int .i64 0)) 3) 4 [.s (.c 2 0), .s (.k (.int .i64 0))]) (.cond (.c 3 0) (.em (.call 30 [.g [.c 1 0, .c 1 1, .c 1 2], .g [.c 0 3, .c 0 4, .c 0 5]] [none]) (.em (.pr (.binOp .leq 3 (.tmp 0) (.const (.int .i64 0)) 3) 4 [.s (.c 4 0), .s (.k (.int .i64 0))]) (.ret (.v (.s (.c 5 0)))))) (.ret (.v (.s (.k (.bool false))))))))) (by kernel_rfl) (by kernel_rfl) (by kernel_rfl) ((mDs _ _ _ _ _ _ _ _ _).and (mD _ _ _ _ _)) ⟨h, h'⟩ ⟨dspl h, dpl h', trivial⟩ ?_
  refine wVal (fun w b ⟨h, h'⟩ => dcmp_any _ _ x z k j w ⟨_, _, _, rfl, h.1⟩ ⟨_, _, _, rfl, h'⟩ hk hj) rfl ?_
  refine wPr (prLe rfl rfl) rfl ?_
  refine wIf _ rfl (fun e => ?_) (fun e => ?_)
  · refine wVal (fun w b ⟨h, h'⟩ => dcmp_any _ _ z y j k w ⟨_, _, _, rfl, h'⟩ ⟨_, _, _, rfl, h.2⟩ hj hk) rfl ?_
    refine wPr (prLe rfl rfl) rfl ?_
    refine wRet fun w b _ => ⟨?_, b⟩
    rw [← v_le, ← v_le, e, Bool.true_and]; rfl
  · refine wRet fun w b _ => ⟨?_, b⟩
    rw [← v_le, ← v_le, e, Bool.false_and]; rfl
end Go.Proofs.YtpmnakjllkidiaaGreatDoor
