/- Rules for rows: slices of structs. No program. -/
import Derived.Test.YtpmnakjllkidiaaGreatDoorYg
import Derived.Great.BuildSlice
import Derived.Maps.AppendAt
import Derived.Laws.CopyOwn
namespace Cin
open Go Go.RowKit
def RowO (B : Nat) (t : TypeId) (n : Nat) (w : World) (v : Value) (xs : List (List Value)) : Prop := (∀ x ∈ xs, x.length = n) ∧ w.ownsRow B t n v xs.length xs.flatten
section
variable {D Z : TypeId → Bool} {B n : Nat} {t : TypeId} {u w : World} {v : Value} {xs : List (List Value)}
theorem RowO.weak {B' : Nat} (h : RowO B t n w v xs) (hB : B' ≤ B) : RowO B' t n w v xs := by
  refine ⟨h.1, h.2.1, ?_⟩
  rcases h.2.2 with h' | ⟨g, cap, cur, e, hb, r⟩
  · exact .inl h'
  · exact .inr ⟨g, cap, cur, e, by omega, r⟩
theorem RowO.ext (h : RowO B t n u v xs) (e : Ext D u w) (ht : D t = true) : RowO B t n w v xs := by
  refine ⟨h.1, h.2.1, ?_⟩
  rcases h.2.2 with h' | ⟨g, cap, cur, e1, hb, hg, r⟩
  · exact .inl h'
  · exact .inr ⟨g, cap, cur, e1, hb, e.block g _ _ _ hg ht, r⟩
theorem RowO.below {w' : World} (h : RowO B t n w v xs) (hb : Below w.heap.size w w') : RowO B t n w' v xs := h.ext (D := fun _ => true) (Ext.of_below hb) rfl
theorem RowO.pl (h : RowO B t n w v xs) : [v].all Value.oneCell' = true := by
  rcases h.2.2 with ⟨rfl, _⟩ | ⟨g, cap, cur, rfl, _⟩ <;> rfl
theorem RowO.shape (h : RowO B t n w v xs) (hx : xs ≠ []) : ∃ g cap, v = .slice (some ⟨g, 0, none⟩) xs.length cap := by
  rcases h.2.2 with ⟨_, h0⟩ | ⟨g, cap, cur, rfl, _⟩
  · exact absurd (List.eq_nil_of_length_eq_zero h0) hx
  · exact ⟨g, cap, rfl⟩
theorem flat_at : ∀ {xs : List (List Value)} {i j : Nat} {x : List Value} {y : Value}, (∀ x ∈ xs, x.length = n) → xs[i]? = some x → x[j]? = some y → xs.flatten[i * n + j]? = some y
  | [], i, _, _, _, _, h, _ => by cases i <;> simp at h
  | a :: r, 0, j, x, y, hl, h, hy => by
    simp only [List.getElem?_cons_zero, Option.some.injEq] at h
    subst h
    have := (List.getElem?_eq_some_iff.1 hy).1
    rw [List.flatten_cons, Nat.zero_mul, Nat.zero_add, List.getElem?_append_left this]; exact hy
  | a :: r, i + 1, j, x, y, hl, h, hy => by
    have ha := hl a List.mem_cons_self
    rw [List.flatten_cons, List.getElem?_append_right (by rw [ha, Nat.succ_mul]; omega), ha, show (i + 1) * n + j - n = i * n + j by rw [Nat.succ_mul]; omega]
    exact flat_at (fun x hx => hl x (List.mem_cons_of_mem _ hx)) (by simpa using h) hy
theorem RowO.at {g cap len i : Nat} {x : List Value} (h : RowO B t n w (.slice (some ⟨g, 0, none⟩) len cap) xs) (hx : xs[i]? = some x) : w.rangeAt g (i * n) x := by
  intro j y hy
  have hf := flat_at h.1 hx hy
  rcases h.2.2 with ⟨h0, _⟩ | ⟨g', cap', cur, e, hb, hg, h1, h2, h3, h4⟩
  · cases h0
  · injection e with e1 e2 e3
    injection e1 with e1
    injection e1 with e1
    subst e1
    have : cur[i * n + j]? = some y := by
      rw [← Array.getElem?_toList]
      rw [← h4] at hf
      rw [List.getElem?_take] at hf
      split at hf
      · exact hf
      · cases hf
    simp [World.cell?, hg, this]
theorem RowO.len {g cap len : Nat} (h : RowO B t n w (.slice (some ⟨g, 0, none⟩) len cap) xs) : len = xs.length := by
  rcases h.2.2 with ⟨h0, _⟩ | ⟨g', cap', cur, e, _⟩
  · cases h0
  · injection e
end
section prims
variable {P : Program} {T e ty : TypeId} {vs : List Value} {p q : Operand} {κ : IntKind} {i : Int}
end prims
section rules
variable {P : Program} {w0 : World} {D Z : TypeId → Bool} {Post : Ending → World → Prop} {F : World → Prop} {E : Env} {k : Tr} {L : LC}
def VarV (B : Nat) (t : TypeId) (w : World) (g : Nat) (cs : List Value) : Prop := B ≤ g ∧ w.heap[g]? = some (.cells cs.toArray t (0, 0))
theorem VarV.range {B g : Nat} {t : TypeId} {w : World} {cs : List Value} (h : VarV B t w g cs) : w.rangeAt g 0 cs := by
  intro j v hj
  simp [World.cell?, h.2, hj]
theorem flat_len {n : Nat} : ∀ {xs : List (List Value)}, (∀ x ∈ xs, x.length = n) → xs.flatten.length = xs.length * n
  | [], _ => by simp
  | a :: r, h => by rw [List.flatten_cons, List.length_append, h a List.mem_cons_self, flat_len (fun x hx => h x (List.mem_cons_of_mem _ hx)), List.length_cons, Nat.succ_mul]; omega
end rules
end Cin

namespace Cin
open Go Go.RowKit
def Keeps (t : TypeId) (g : Nat) (G : World → Prop) : Prop := ∀ (w : World) (cs cs' : List Value), w.heap[g]? = some (.cells cs.toArray t (0, 0)) → G w → G (w.setRow g cs'.toArray)
section keeps
variable {Z : TypeId → Bool} {t t' : TypeId} {g g' B n len cap : Nat} {G H : World → Prop} {xs : List (List Value)} {ds : List Value}
theorem Keeps.and (h : Keeps t g G) (h' : Keeps t g H) : Keeps t g fun w => G w ∧ H w := fun w cs cs' hv ⟨a, b⟩ => ⟨h w cs cs' hv a, h' w cs cs' hv b⟩
theorem Keeps.mono (hG : Mono Z G) (hZ : Z t = false) : Keeps t g G := fun w cs cs' hv hg => hG w _ ⟨by simp, fun b c tt f hb ht => by
  by_cases hne : b = g
  · subst hne
    rw [hv] at hb
    injection hb with hb
    injection hb with _ h2 _
    subst h2
    rw [hZ] at ht; cases ht
  · rw [setRow_other w g b _ hne]; exact hb⟩ hg
theorem Keeps.var (h : g' ≠ g) : Keeps t g fun w => VarV B t' w g' ds := fun w _ cs' _ ⟨h1, h2⟩ => ⟨h1, by rw [setRow_other w g g' _ h]; exact h2⟩
theorem Keeps.row (h : g' ≠ g) : Keeps t g fun w => RowO B t' n w (.slice (some ⟨g', 0, none⟩) len cap) xs := fun w _ cs' _ ⟨h1, h2, h3⟩ => by
  refine ⟨h1, h2, ?_⟩
  rcases h3 with ⟨h0, _⟩ | ⟨k, cp, cur, e, hb, hg, r⟩
  · cases h0
  · have hk : k = g' := by
      injection e with e1 _ _
      injection e1 with e1
      injection e1 with e1
      exact e1.symm
    subst hk
    exact .inr ⟨k, cp, cur, e, hb, by rw [setRow_other w g k _ h]; exact hg, r⟩
theorem RowO.lt {w : World} (h : RowO B t n w (.slice (some ⟨g, 0, none⟩) len cap) xs) : g < w.heap.size := by
  rcases h.2.2 with ⟨h0, _⟩ | ⟨k, cp, cur, e, hb, hg, r⟩
  · cases h0
  · have hk : k = g := by
      injection e with e1 _ _
      injection e1 with e1
      injection e1 with e1
      exact e1.symm
    subst hk
    exact lt_of_heap hg
theorem VarV.lt {w : World} (h : VarV B t w g ds) : g < w.heap.size := lt_of_heap h.2
end keeps
section rules
variable {P : Program} {w0 : World} {D Z : TypeId → Bool} {Post : Ending → World → Prop} {F : World → Prop} {E : Env} {k : Tr} {L : LC}
end rules
end Cin

namespace Cin
open Go Go.RowKit
def RowR (n : Nat) (w : World) (v : Value) (xs : List (List Value)) : Prop :=
  (∀ x ∈ xs, x.length = n) ∧ ((∃ ad cap, v = .slice ad 0 cap ∧ (ad = none → cap = 0) ∧ xs = []) ∨ ∃ b o cap, v = .slice (some ⟨b, o, none⟩) xs.length cap ∧ b < w.heap.size ∧ xs.length ≤ maxLen ∧ ∀ i x, xs[i]? = some x → w.rangeAt b (o + i * n) x)
section
variable {n : Nat} {w w' : World} {v : Value} {xs : List (List Value)}
theorem RowR.below (h : RowR n w v xs) (hb : Below w.heap.size w w') : RowR n w' v xs := by
  refine ⟨h.1, ?_⟩
  rcases h.2 with h' | ⟨b, o, cap, e, hs, hm, hr⟩
  · exact .inl h'
  · exact .inr ⟨b, o, cap, e, Nat.lt_of_lt_of_le hs hb.size, hm, fun i x hx j y hy => by
      rw [hb.cell (p := ⟨b, o + i * n + j, none⟩) hs]; exact hr i x hx j y hy⟩
theorem RowR.nil (ad : Option Addr) (cap : Nat) (hc : ad = none → cap = 0) : RowR n w (.slice ad 0 cap) [] := ⟨fun _ h => (by cases h), .inl ⟨ad, cap, rfl, hc, rfl⟩⟩
theorem RowR.shape (h : RowR n w v xs) : ∃ ad cap, v = .slice ad xs.length cap ∧ xs.length ≤ maxLen ∧ (xs ≠ [] → ∃ b o, ad = some ⟨b, o, none⟩ ∧ ∀ i x, xs[i]? = some x → w.rangeAt b (o + i * n) x) := by
  rcases h.2 with ⟨ad, cap, e, _, h0⟩ | ⟨b, o, cap, e, hs, hm, hr⟩
  · subst h0; exact ⟨ad, cap, e, Nat.zero_le _, fun h => absurd rfl h⟩
  · exact ⟨_, cap, e, hm, fun _ => ⟨b, o, rfl, hr⟩⟩
theorem RowR.len {ad : Option Addr} {len cap : Nat} (h : RowR n w (.slice ad len cap) xs) : len = xs.length := by
  obtain ⟨_, _, e, _⟩ := h.shape
  injection e
theorem RowR.at {b o len cap i : Nat} {x : List Value} (h : RowR n w (.slice (some ⟨b, o, none⟩) len cap) xs) (hx : xs[i]? = some x) : w.rangeAt b (o + i * n) x := by
  obtain ⟨ad, c, e, _, hr⟩ := h.shape
  obtain ⟨b', o', e2, hr⟩ := hr (fun e0 => by rw [e0] at hx; simp at hx)
  injection e with e1 _ _
  rw [e2] at e1
  injection e1 with e1
  injection e1 with e3 e4
  subst e3 e4
  exact hr i x hx
end
section prims
variable {P : Program} {T e ty : TypeId} {vs : List Value} {p q : Operand} {κ : IntKind} {i : Int}
theorem prIdxR {b o len cap n : Nat} {ie : TypeInfo} (hu : P.underlying T = some (.slice e)) (hi : P.info? e = some ie) (hn : ie.size = n) (hp : pe vs p = .slice (some ⟨b, o, none⟩) len cap) (hq : pe vs q = .int κ i) (h0 : 0 ≤ i) (h1 : i < len) :
    PrimOk P (.indexAddr T p q) ty vs (.pointer (some ⟨b, o + i.toNat * n, none⟩)) := fun w => by
  simp only [execOp, hp, hq]
  simp [Instr.indexAt, asIntOf, run_underlying hu, h0, h1, Go.sizeOf, typeInfo, hi, hn, Addr.add_mid]
end prims
end Cin

namespace Cin
open Go Go.RowKit
structure Lm where
  b0 : Nat
  o : Option Nat
  S : Nat → Prop
def Kept (nu sl : List TypeId) (lim : Lm) (u w : World) : Prop :=
  u.heap.size ≤ w.heap.size ∧ ∀ b o, u.heap[b]? = some o → ((∃ c t f, o = Obj.cells c t f ∧ (nu.contains t = true ∨ (lim.o = none ∧ lim.S b ∧ sl.contains t = true))) ∨ b < lim.b0 ∨ (∃ B, lim.o = some B ∧ b < B)) → w.heap[b]? = some o
def Sub (l l' : List TypeId) : Prop := ∀ t, l.contains t = true → l'.contains t = true
theorem Kept.sub {nu sl nu' sl' : List TypeId} {lim : Lm} {u w : World} (h : Kept nu sl lim u w) (h1 : Sub nu' nu) (h2 : Sub sl' sl) : Kept nu' sl' lim u w :=
  ⟨h.1, fun b o hb hc => h.2 b o hb (hc.imp (fun ⟨c, t, f, e, k⟩ => ⟨c, t, f, e, k.imp (h1 t) (fun ⟨a, s, b⟩ => ⟨a, s, h2 t b⟩)⟩) id)⟩
structure Pd where
  n : Nat
  nu : List TypeId
  sl : List TypeId
  kv : Option Value
  R : Lm → World → List Value → Prop
  len : ∀ {l w cs}, R l w cs → cs.length = n
  one : ∀ {l w cs}, R l w cs → cs.all Value.oneCell' = true
  mono : ∀ {b0 o S S' u w cs}, (∀ b, S b → S' b) → Kept nu sl ⟨b0, o, S⟩ u w → R ⟨b0, o, S⟩ u cs → R ⟨b0, o, S'⟩ w cs
  lim : ∀ {b0 B S w cs}, R ⟨b0, some B, S⟩ w cs → R ⟨b0, none, S⟩ w cs
  up : ∀ {b0 B B' S w cs}, B ≤ B' → R ⟨b0, some B, S⟩ w cs → R ⟨b0, some B', S⟩ w cs
  all : ∀ {b0 S w cs}, R ⟨b0, none, S⟩ w cs → R ⟨b0, some w.heap.size, S⟩ w cs
  kv_ok : ∀ {v l w cs}, kv = some v → R l w cs → cs = [v]
def pV (v : Value) : Pd where
  n := 1
  nu := []
  sl := []
  kv := some v
  R _ _ cs := cs = [v] ∧ v.oneCell' = true
  len h := by rw [h.1]; rfl
  one h := by rw [h.1]; simp [h.2]
  mono _ _ h := h
  lim h := h
  up _ h := h
  all h := h
  kv_ok e h := by cases e; exact h.1
def pdOf (U : TypeId) (n : Nat) (R : World → List Value → Prop) (hl : ∀ w cs, R w cs → cs.length = n) (ho : ∀ w cs, R w cs → cs.all Value.oneCell' = true) (hm : ∀ u w cs, Ext (fun t => t == U) u w → R u cs → R w cs) : Pd where
  n := n
  nu := [U]
  sl := []
  kv := none
  R _ w cs := R w cs
  len h := hl _ _ h
  one h := ho _ _ h
  mono _ hk h := hm _ _ _ ⟨hk.1, fun b c t f hb ht => hk.2 b _ hb (.inl ⟨c, t, f, rfl, .inl (by simpa using ht)⟩)⟩ h
  lim h := h
  up _ h := h
  all h := h
  kv_ok e := by cases e
def RL (l : Lm) (w : World) : List Pd → List Value → Prop
  | [], cs => cs = []
  | p :: ps, cs => ∃ c1 c2, cs = c1 ++ c2 ∧ p.R l w c1 ∧ RL l w ps c2
def szL : List Pd → Nat
  | [] => 0
  | p :: ps => p.n + szL ps
section RL
variable {l : Lm} {b0 : Nat} {u w : World}
theorem RL.len : ∀ {ps : List Pd} {cs : List Value}, RL l w ps cs → cs.length = szL ps
  | [], _, h => by rw [h]; rfl
  | p :: _, _, ⟨c1, c2, e, h1, h2⟩ => by rw [e, List.length_append, p.len h1, h2.len]; rfl
theorem RL.one : ∀ {ps : List Pd} {cs : List Value}, RL l w ps cs → cs.all Value.oneCell' = true
  | [], _, h => by rw [h]; rfl
  | p :: _, _, ⟨c1, c2, e, h1, h2⟩ => by rw [e, List.all_append, p.one h1, h2.one]; rfl
theorem RL.mono {o : Option Nat} {S S' : Nat → Prop} {nu sl : List TypeId} (hS : ∀ b, S b → S' b) (hk : Kept nu sl ⟨b0, o, S⟩ u w) : ∀ {ps : List Pd} {cs : List Value}, (∀ p ∈ ps, Sub p.nu nu ∧ Sub p.sl sl) → RL ⟨b0, o, S⟩ u ps cs → RL ⟨b0, o, S'⟩ w ps cs
  | [], _, _, h => h
  | p :: _, _, hs, ⟨c1, c2, e, h1, h2⟩ => ⟨c1, c2, e, p.mono hS (hk.sub (hs p List.mem_cons_self).1 (hs p List.mem_cons_self).2) h1, RL.mono hS hk (fun q hq => hs q (List.mem_cons_of_mem _ hq)) h2⟩
theorem RL.lim {B : Nat} {S : Nat → Prop} : ∀ {ps : List Pd} {cs : List Value}, RL ⟨b0, some B, S⟩ w ps cs → RL ⟨b0, none, S⟩ w ps cs
  | [], _, h => h
  | p :: _, _, ⟨c1, c2, e, h1, h2⟩ => ⟨c1, c2, e, p.lim h1, h2.lim⟩
theorem RL.up {B B' : Nat} {S : Nat → Prop} (hB : B ≤ B') : ∀ {ps : List Pd} {cs : List Value}, RL ⟨b0, some B, S⟩ w ps cs → RL ⟨b0, some B', S⟩ w ps cs
  | [], _, h => h
  | p :: _, _, ⟨c1, c2, e, h1, h2⟩ => ⟨c1, c2, e, p.up hB h1, h2.up hB⟩
theorem RL.all' {S : Nat → Prop} : ∀ {ps : List Pd} {cs : List Value}, RL ⟨b0, none, S⟩ w ps cs → RL ⟨b0, some w.heap.size, S⟩ w ps cs
  | [], _, h => h
  | p :: _, _, ⟨c1, c2, e, h1, h2⟩ => ⟨c1, c2, e, p.all h1, h2.all'⟩
theorem RL.split : ∀ {ps qs : List Pd} {cs : List Value}, RL l w (ps ++ qs) cs → ∃ c1 c2, cs = c1 ++ c2 ∧ RL l w ps c1 ∧ RL l w qs c2
  | [], _, cs, h => ⟨[], cs, rfl, rfl, h⟩
  | p :: _, qs, _, ⟨c1, c2, e, h1, h2⟩ => by
    obtain ⟨d1, d2, e2, h3, h4⟩ := RL.split h2
    exact ⟨c1 ++ d1, d2, by rw [e, e2, List.append_assoc], ⟨c1, d1, rfl, h1, h3⟩, h4⟩
theorem RL.app : ∀ {ps qs : List Pd} {c1 c2 : List Value}, RL l w ps c1 → RL l w qs c2 → RL l w (ps ++ qs) (c1 ++ c2)
  | [], _, _, _, h1, h2 => by rw [h1]; exact h2
  | p :: ps, qs, _, c2, ⟨d1, d2, e, h1, h3⟩, h2 => ⟨d1, d2 ++ c2, by rw [e, List.append_assoc], h1, h3.app h2⟩
end RL
structure Rty where
  t : TypeId
  n : Nat
  nu : List TypeId
  sl : List TypeId
def Rty.Fit (r : Rty) (row : List Pd) : Prop := ∀ p ∈ row, Sub p.nu r.nu ∧ Sub p.sl r.sl
def RowsAt (r : Rty) (l : Lm) (w : World) (c : Array Value) (o : Nat) (rows : List (List Pd)) : Prop :=
  ∀ i row, rows[i]? = some row → ∃ x : List Value, x.length = r.n ∧ RL l w row x ∧ ∀ (j : Nat) (y : Value), x[j]? = some y → c[o + i * r.n + j]? = some y
theorem RowsAt.imp {r : Rty} {l l' : Lm} {w w' : World} {c : Array Value} {o : Nat} {rows : List (List Pd)} (h : RowsAt r l w c o rows) (hi : ∀ row ∈ rows, ∀ x, RL l w row x → RL l' w' row x) : RowsAt r l' w' c o rows :=
  fun i row hr => let ⟨x, h1, h2, h3⟩ := h i row hr; ⟨x, h1, hi row (List.mem_of_getElem? hr) x h2, h3⟩
theorem kept_of {r : Rty} {l : Lm} {b : Nat} {c : Array Value} {t : TypeId} {f : Nat × Nat} (hl : (b < l.b0 ∨ (t = r.t ∧ l.S b)) ∧ ∀ B, l.o = some B → b < B) :
    (∃ c' t' f', Obj.cells c t f = Obj.cells c' t' f' ∧ (r.nu.contains t' = true ∨ (l.o = none ∧ l.S b ∧ (r.t :: r.sl).contains t' = true))) ∨ b < l.b0 ∨ (∃ B, l.o = some B ∧ b < B) := by
  cases ho : l.o with
  | some B => exact .inr (.inr ⟨B, rfl, hl.2 B ho⟩)
  | none =>
    rcases hl.1 with h | h
    · exact .inr (.inl h)
    · exact .inl ⟨c, t, f, rfl, .inr ⟨rfl, h.2, by simp [h.1]⟩⟩
def RowsR (r : Rty) (rows : List (List Pd)) (l : Lm) (w : World) (cs : List Value) : Prop :=
  (∀ row ∈ rows, r.Fit row) ∧ ((∃ ad cap, cs = [.slice ad 0 cap] ∧ (ad = none → cap = 0) ∧ rows = []) ∨
    ∃ b o cap c t f, cs = [.slice (some ⟨b, o, none⟩) rows.length cap] ∧ w.heap[b]? = some (.cells c t f) ∧ ((b < l.b0 ∨ (t = r.t ∧ l.S b)) ∧ ∀ B, l.o = some B → b < B) ∧ rows.length ≤ maxLen ∧ RowsAt r l w c o rows)
def pRows (r : Rty) (rows : List (List Pd)) : Pd where
  n := 1
  nu := r.nu
  sl := r.t :: r.sl
  kv := none
  R := RowsR r rows
  kv_ok e := by cases e
  len h := by rcases h.2 with ⟨_, _, rfl, _, _⟩ | ⟨_, _, _, _, _, _, rfl, _⟩ <;> rfl
  one h := by rcases h.2 with ⟨_, _, rfl, _, _⟩ | ⟨_, _, _, _, _, _, rfl, _⟩ <;> rfl
  mono {b0 o S S' u w cs} hS hk h := by
    refine ⟨h.1, ?_⟩
    rcases h.2 with h' | ⟨b, o, cap, c, t, f, e, hb, hl, hm, hr⟩
    · exact .inl h'
    · refine .inr ⟨b, o, cap, c, t, f, e, hk.2 b _ hb ?_, ⟨hl.1.imp id (fun h => ⟨h.1, hS b h.2⟩), hl.2⟩, hm, hr.imp fun row hrow x hx => hx.mono hS hk (fun p hp => ⟨(h.1 row hrow p hp).1, fun t ht => ?_⟩)⟩
      · exact kept_of hl
      · have := (h.1 row hrow p hp).2 t ht
        simp at this ⊢; exact .inr this
  lim h := by
    refine ⟨h.1, ?_⟩
    rcases h.2 with h' | ⟨b, o, cap, c, t, f, e, hb, hl, hm, hr⟩
    · exact .inl h'
    · exact .inr ⟨b, o, cap, c, t, f, e, hb, ⟨hl.1, fun B hB => (by cases hB)⟩, hm, hr.imp fun row hrow x hx => hx.lim⟩
  up hB h := by
    refine ⟨h.1, ?_⟩
    rcases h.2 with h' | ⟨b, o, cap, c, t, f, e, hb, hl, hm, hr⟩
    · exact .inl h'
    · exact .inr ⟨b, o, cap, c, t, f, e, hb, ⟨hl.1, fun B' hB' => (by cases hB'; exact Nat.lt_of_lt_of_le (hl.2 _ rfl) hB)⟩, hm, hr.imp fun row hrow x hx => hx.up hB⟩
  all h := by
    refine ⟨h.1, ?_⟩
    rcases h.2 with h' | ⟨b, o, cap, c, t, f, e, hb, hl, hm, hr⟩
    · exact .inl h'
    · exact .inr ⟨b, o, cap, c, t, f, e, hb, ⟨hl.1, fun B' hB' => (by cases hB'; exact lt_of_heap hb)⟩, hm, hr.imp fun row hrow x hx => hx.all'⟩
def ElemR (r : Rty) (row : List Pd) (l : Lm) (w : World) (cs : List Value) : Prop :=
  r.Fit row ∧ ∃ b o c t f, cs = [.pointer (some ⟨b, o, none⟩)] ∧ w.heap[b]? = some (.cells c t f) ∧ ((b < l.b0 ∨ (t = r.t ∧ l.S b)) ∧ ∀ B, l.o = some B → b < B) ∧ ∃ x : List Value, RL l w row x ∧ ∀ (j : Nat) (y : Value), x[j]? = some y → c[o + j]? = some y
def pElem (r : Rty) (row : List Pd) : Pd where
  n := 1
  nu := r.nu
  sl := r.t :: r.sl
  kv := none
  R := ElemR r row
  kv_ok e := by cases e
  len h := by obtain ⟨_, _, _, _, _, _, rfl, _⟩ := h; rfl
  one h := by obtain ⟨_, _, _, _, _, _, rfl, _⟩ := h; rfl
  mono {b0 o S S' u w cs} hS hk h := by
    obtain ⟨h1, b, o, c, t, f, e, hb, hl, x, hx, hc⟩ := h
    refine ⟨h1, b, o, c, t, f, e, hk.2 b _ hb ?_, ⟨hl.1.imp id (fun h => ⟨h.1, hS b h.2⟩), hl.2⟩, x, hx.mono hS hk (fun p hp => ⟨(h1 p hp).1, fun t ht => ?_⟩), hc⟩
    · exact kept_of hl
    · have := (h1 p hp).2 t ht
      simp at this ⊢; exact .inr this
  lim h := by
    obtain ⟨h1, b, o, c, t, f, e, hb, hl, x, hx, hc⟩ := h
    exact ⟨h1, b, o, c, t, f, e, hb, ⟨hl.1, fun B hB => (by cases hB)⟩, x, hx.lim, hc⟩
  up hB h := by
    obtain ⟨h1, b, o, c, t, f, e, hb, hl, x, hx, hc⟩ := h
    exact ⟨h1, b, o, c, t, f, e, hb, ⟨hl.1, fun B' hB' => (by cases hB'; exact Nat.lt_of_lt_of_le (hl.2 _ rfl) hB)⟩, x, hx.up hB, hc⟩
  all h := by
    obtain ⟨h1, b, o, c, t, f, e, hb, hl, x, hx, hc⟩ := h
    exact ⟨h1, b, o, c, t, f, e, hb, ⟨hl.1, fun B' hB' => (by cases hB'; exact lt_of_heap hb)⟩, x, hx.all', hc⟩
inductive AV where
  | ro (old : Bool) (p : Pd)
  | own (g : Nat) (r : Rty) (rows : List (List Pd))
  | var (g : Nat) (r : Rty) (row : List Pd)
  | junk (n : Nat)
def AV.n : AV → Nat
  | .ro _ p => p.n
  | .own _ _ _ => 1
  | .var _ _ _ => 1
  | .junk n => n
structure Bd where
  b0 : Nat
  b : Nat
  le : b0 ≤ b
  S : Nat → Prop
def Bd.nn (B : Bd) : Lm := ⟨B.b0, none, B.S⟩
def limOf (B : Bd) (old : Bool) : Lm := ⟨B.b0, bif old then some B.b else none, B.S⟩
def Bd.sh (B : Bd) (S : Nat → Prop) : Bd := ⟨B.b0, B.b, B.le, S⟩
def OwnR (B : Bd) (g : Nat) (r : Rty) (rows : List (List Pd)) (w : World) (cs : List Value) (os : List Nat) : Prop :=
  (∀ row ∈ rows, r.Fit row) ∧ ((cs = [.slice none 0 0] ∧ rows = [] ∧ os = []) ∨
    ∃ cap cur, cs = [.slice (some ⟨g, 0, none⟩) rows.length cap] ∧ os = [g] ∧ (B.b ≤ g ∧ B.S g) ∧ w.heap[g]? = some (.cells cur r.t (0, 0)) ∧ rows.length ≤ cap ∧ cap ≤ maxLen ∧ cur.size = cap * r.n ∧ RowsAt r B.nn w cur 0 rows)
def VarR (B : Bd) (g : Nat) (r : Rty) (row : List Pd) (w : World) (cs : List Value) (os : List Nat) : Prop :=
  r.Fit row ∧ cs = [.pointer (some ⟨g, 0, none⟩)] ∧ os = [g] ∧ (B.b ≤ g ∧ B.S g) ∧ ∃ cur, w.heap[g]? = some (.cells cur r.t (0, 0)) ∧ cur.size = r.n ∧ RowsAt r B.nn w cur 0 [row]
def RepV (B : Bd) (w : World) : AV → List Value → List Nat → Prop
  | .ro old p, cs, os => p.R (limOf B old) w cs ∧ os = []
  | .own g r rows, cs, os => OwnR B g r rows w cs os
  | .var g r row, cs, os => VarR B g r row w cs os
  | .junk n, cs, os => cs.length = n ∧ cs.all Value.oneCell' = true ∧ os = []
theorem RepV.len {B : Bd} {w : World} {a : AV} {cs : List Value} {os : List Nat} (h : RepV B w a cs os) : cs.length = a.n := by
  cases a with
  | ro old p => exact p.len h.1
  | own g r rows => rcases h.2 with ⟨rfl, _⟩ | ⟨_, _, rfl, _⟩ <;> rfl
  | var g r row => obtain ⟨_, rfl, _⟩ := h; rfl
  | junk n => exact h.1
theorem RepV.one {B : Bd} {w : World} {a : AV} {cs : List Value} {os : List Nat} (h : RepV B w a cs os) : cs.all Value.oneCell' = true := by
  cases a with
  | ro old p => exact p.one h.1
  | own g r rows => rcases h.2 with ⟨rfl, _⟩ | ⟨_, _, rfl, _⟩ <;> rfl
  | var g r row => obtain ⟨_, rfl, _⟩ := h; rfl
  | junk n => exact h.2.1
theorem RepV.junk {B : Bd} {w : World} {a : AV} {cs : List Value} {os : List Nat} (h : RepV B w a cs os) : RepV B w (.junk a.n) cs [] := ⟨h.len, h.one, rfl⟩
theorem RepV.ge {B : Bd} {w : World} {a : AV} {cs : List Value} {os : List Nat} (h : RepV B w a cs os) : ∀ g ∈ os, B.b ≤ g ∧ g < w.heap.size := by
  cases a with
  | ro old p => rw [h.2]; intro g hg; cases hg
  | own g r rows =>
    rcases h.2 with ⟨_, _, rfl⟩ | ⟨_, _, _, rfl, h1, h2, _⟩
    · intro g hg; cases hg
    · intro g hg; simp at hg; subst hg; exact ⟨h1.1, lt_of_heap h2⟩
  | var g r row => obtain ⟨_, _, rfl, h1, x, h2, _⟩ := h; intro g hg; simp at hg; subst hg; exact ⟨h1.1, lt_of_heap h2⟩
  | junk n => rw [h.2.2]; intro g hg; cases hg
def RepS (B : Bd) (w : World) : List AV → List Value → List Nat → Prop
  | [], cs, os => cs = [] ∧ os = []
  | a :: r, cs, os => ∃ c1 c2 o1 o2, cs = c1 ++ c2 ∧ os = o1 ++ o2 ∧ RepV B w a c1 o1 ∧ RepS B w r c2 o2
def RepE (B : Bd) (w : World) : List (List AV) → Env → List Nat → Prop
  | [], E, os => E = [] ∧ os = []
  | s :: Γ, E, os => ∃ cs E' o1 o2, E = cs :: E' ∧ os = o1 ++ o2 ∧ RepS B w s cs o1 ∧ RepE B w Γ E' o2
def szA : List AV → Nat
  | [] => 0
  | a :: r => a.n + szA r
section rep
variable {B : Bd} {w u : World}
theorem RepS.len : ∀ {s : List AV} {cs : List Value} {os : List Nat}, RepS B w s cs os → cs.length = szA s
  | [], _, _, h => by rw [h.1]; rfl
  | a :: r, _, _, ⟨c1, c2, o1, o2, e, _, h1, h2⟩ => by rw [e, List.length_append, h1.len, h2.len]; rfl
theorem RepS.one : ∀ {s : List AV} {cs : List Value} {os : List Nat}, RepS B w s cs os → cs.all Value.oneCell' = true
  | [], _, _, h => by rw [h.1]; rfl
  | a :: r, _, _, ⟨c1, c2, o1, o2, e, _, h1, h2⟩ => by rw [e, List.all_append, h1.one, h2.one]; rfl
theorem RepS.ge : ∀ {s : List AV} {cs : List Value} {os : List Nat}, RepS B w s cs os → ∀ g ∈ os, B.b ≤ g ∧ g < w.heap.size
  | [], _, _, h => by rw [h.2]; intro g hg; cases hg
  | a :: r, _, _, ⟨c1, c2, o1, o2, _, e, h1, h2⟩ => by
    intro g hg
    rw [e] at hg
    rcases List.mem_append.1 hg with hg | hg
    · exact h1.ge g hg
    · exact h2.ge g hg
theorem RepS.app : ∀ {s s' : List AV} {c c' : List Value} {o o' : List Nat}, RepS B w s c o → RepS B w s' c' o' → RepS B w (s ++ s') (c ++ c') (o ++ o')
  | [], _, _, _, _, _, h, h' => by rw [h.1, h.2]; exact h'
  | a :: r, s', _, c', _, o', ⟨c1, c2, o1, o2, e, e2, h1, h2⟩, h' => ⟨c1, c2 ++ c', o1, o2 ++ o', by rw [e, List.append_assoc], by rw [e2, List.append_assoc], h1, h2.app h'⟩
theorem RepE.len : ∀ {Γ : List (List AV)} {E : Env} {os : List Nat}, RepE B w Γ E os → E.length = Γ.length
  | [], _, _, h => by rw [h.1]; rfl
  | s :: Γ, _, _, ⟨cs, E', o1, o2, e, _, h1, h2⟩ => by rw [e, List.length_cons, h2.len]; rfl
theorem RepE.ge : ∀ {Γ : List (List AV)} {E : Env} {os : List Nat}, RepE B w Γ E os → ∀ g ∈ os, B.b ≤ g ∧ g < w.heap.size
  | [], _, _, h => by rw [h.2]; intro g hg; cases hg
  | s :: Γ, _, _, ⟨cs, E', o1, o2, _, e, h1, h2⟩ => by
    intro g hg
    rw [e] at hg
    rcases List.mem_append.1 hg with hg | hg
    · exact h1.ge g hg
    · exact h2.ge g hg
theorem RepE.app : ∀ {Γ Γ' : List (List AV)} {E E' : Env} {o o' : List Nat}, RepE B w Γ E o → RepE B w Γ' E' o' → RepE B w (Γ ++ Γ') (E ++ E') (o ++ o')
  | [], _, _, _, _, _, h, h' => by rw [h.1, h.2]; exact h'
  | s :: Γ, Γ', _, E', _, o', ⟨cs, E2, o1, o2, e, e2, h1, h2⟩, h' => ⟨cs, E2 ++ E', o1, o2 ++ o', by rw [e]; rfl, by rw [e2, List.append_assoc], h1, h2.app h'⟩
theorem RepE.snoc {Γ : List (List AV)} {s : List AV} {E : Env} {cs : List Value} {o o' : List Nat} (h : RepE B w Γ E o) (h' : RepS B w s cs o') : RepE B w (Γ ++ [s]) (E ++ [cs]) (o ++ o') :=
  h.app ⟨cs, [], o', [], rfl, by simp, h', rfl, rfl⟩
theorem RepE.split : ∀ {Γ Γ' : List (List AV)} {E : Env} {os : List Nat}, RepE B w (Γ ++ Γ') E os → ∃ E1 E2 o1 o2, E = E1 ++ E2 ∧ os = o1 ++ o2 ∧ RepE B w Γ E1 o1 ∧ RepE B w Γ' E2 o2
  | [], _, E, os, h => ⟨[], E, [], os, rfl, rfl, ⟨rfl, rfl⟩, h⟩
  | s :: Γ, Γ', _, _, ⟨cs, E', o1, o2, e, e2, h1, h2⟩ => by
    obtain ⟨E1, E2, p1, p2, e3, e4, h3, h4⟩ := RepE.split (Γ := Γ) h2
    exact ⟨cs :: E1, E2, o1 ++ p1, p2, by rw [e, e3]; rfl, by rw [e2, e4, List.append_assoc], ⟨cs, E1, o1, p1, rfl, rfl, h1, h3⟩, h4⟩
end rep
def AV.okD (D : TypeId → Bool) : AV → Bool
  | .ro _ p => p.nu.all D
  | .own _ r _ => r.nu.all D
  | .var _ r _ => r.nu.all D
  | .junk _ => true
def AV.safe (t : TypeId) : AV → Bool
  | .ro old p => !p.nu.contains t && (old || !p.sl.contains t)
  | .own _ r _ => !r.nu.contains t && !r.sl.contains t
  | .var _ r _ => !r.nu.contains t && !r.sl.contains t
  | .junk _ => true
structure Goes (B : Nat) (S : Nat → Prop) (X : Nat → Prop) (D : TypeId → Bool) (u w : World) : Prop where
  size : u.heap.size ≤ w.heap.size
  old : ∀ b, b < B → w.heap[b]? = u.heap[b]?
  new : ∀ b c t f, u.heap[b]? = some (Obj.cells c t f) → (D t = true ∨ S b) → ¬ X b → w.heap[b]? = some (Obj.cells c t f)
theorem Goes.kept {B : Bd} {X : Nat → Prop} {D : TypeId → Bool} {u w : World} (h : Goes B.b B.S X D u w) {nu sl : List TypeId} {old : Bool} (h1 : nu.all D = true)
    (hX : ∀ b c t f, u.heap[b]? = some (Obj.cells c t f) → X b → nu.contains t = false ∧ (old = true ∨ sl.contains t = false)) : Kept nu sl (limOf B old) u w := by
  refine ⟨h.size, ?_⟩
  intro b o hb hc
  rcases hc with ⟨c, t, f, rfl, hc⟩ | hlt | ⟨B', hB, hlt⟩
  · refine h.new b c t f hb ?_ (fun hx => ?_)
    · rcases hc with hc | ⟨hl, hs, hc⟩
      · exact .inl (List.all_eq_true.1 h1 t (by simpa using hc))
      · exact .inr hs
    · obtain ⟨k1, k2⟩ := hX b c t f hb hx
      rcases hc with hc | ⟨hl, _, hc⟩
      · rw [k1] at hc; cases hc
      · rcases k2 with k2 | k2
        · subst k2; simp [limOf] at hl
        · rw [k2] at hc; cases hc
  · rw [h.old b (Nat.lt_of_lt_of_le hlt B.le)]; exact hb
  · cases old with
    | true => simp [limOf] at hB; subst hB; rw [h.old b hlt]; exact hb
    | false => simp [limOf] at hB
theorem Goes.rl {B : Bd} {X : Nat → Prop} {D : TypeId → Bool} {u w : World} (h : Goes B.b B.S X D u w) {S' : Nat → Prop} (hS : ∀ b, B.S b → S' b) {r : Rty} (h1 : r.nu.all D = true)
    (hX : ∀ b c t f, u.heap[b]? = some (Obj.cells c t f) → X b → r.nu.contains t = false ∧ r.sl.contains t = false) {row : List Pd} (hf : r.Fit row) {x : List Value} (hx : RL B.nn u row x) : RL (B.sh S').nn w row x :=
  RL.mono hS (h.kept (old := false) h1 (fun b c t f hb hx => ⟨(hX b c t f hb hx).1, .inr (hX b c t f hb hx).2⟩)) hf hx
theorem RepV.goes {B : Bd} {X S' : Nat → Prop} {D : TypeId → Bool} {u w : World} (h : Goes B.b B.S X D u w) (hS : ∀ b, B.S b → S' b) {a : AV} {cs : List Value} {os : List Nat} (hr : RepV B u a cs os) (hD : a.okD D = true)
    (hX : ∀ b c t f, u.heap[b]? = some (Obj.cells c t f) → X b → a.safe t = true) (hO : ∀ g ∈ os, ¬ X g) : RepV (B.sh S') w a cs os := by
  cases a with
  | ro old p =>
    simp only [AV.okD] at hD
    refine ⟨p.mono hS (h.kept (B := B) (old := old) hD (fun b c t f hb hx => ?_)) hr.1, hr.2⟩
    have := hX b c t f hb hx
    simp only [AV.safe, Bool.and_eq_true, Bool.not_eq_true', Bool.or_eq_true] at this
    exact this
  | own g r rows =>
    simp only [AV.okD] at hD
    refine ⟨hr.1, ?_⟩
    rcases hr.2 with h' | ⟨cap, cur, e, ho, hB, hg, i1, i2, i3, hrow⟩
    · exact .inl h'
    · refine .inr ⟨cap, cur, e, ho, ⟨hB.1, hS _ hB.2⟩, h.new g _ _ _ hg (.inr hB.2) (hO g (by rw [ho]; simp)), i1, i2, i3, hrow.imp fun row hm x hx => h.rl hS hD (fun b c t f hb hx => ?_) (hr.1 row hm) hx⟩
      have := hX b c t f hb hx
      simpa only [AV.safe, Bool.and_eq_true, Bool.not_eq_true'] using this
  | var g r row =>
    simp only [AV.okD] at hD
    obtain ⟨hf, e, ho, hB, x, hg, hs, hrow⟩ := hr
    refine ⟨hf, e, ho, ⟨hB.1, hS _ hB.2⟩, x, h.new g _ _ _ hg (.inr hB.2) (hO g (by rw [ho]; simp)), hs, hrow.imp fun row hm x hx => h.rl hS hD (fun b c t f hb hx => ?_) (by simp at hm; rw [hm]; exact hf) hx⟩
    have := hX b c t f hb hx
    simpa only [AV.safe, Bool.and_eq_true, Bool.not_eq_true'] using this
  | junk n => exact hr
def okE (D : TypeId → Bool) (Γ : List (List AV)) : Bool := Γ.all fun s => s.all (AV.okD D)
theorem RepS.goes {B : Bd} {X S' : Nat → Prop} {D : TypeId → Bool} {u w : World} (h : Goes B.b B.S X D u w) (hS : ∀ b, B.S b → S' b) : ∀ {s : List AV} {cs : List Value} {os : List Nat}, RepS B u s cs os → s.all (AV.okD D) = true →
    (∀ b c t f, u.heap[b]? = some (Obj.cells c t f) → X b → s.all (AV.safe t) = true) → (∀ g ∈ os, ¬ X g) → RepS (B.sh S') w s cs os
  | [], _, _, hr, _, _, _ => hr
  | a :: s, _, _, ⟨c1, c2, o1, o2, e, e2, h1, h2⟩, hD, hX, hO => by
    simp only [List.all_cons, Bool.and_eq_true] at hD hX
    exact ⟨c1, c2, o1, o2, e, e2, h1.goes h hS hD.1 (fun b c t f hb hx => (hX b c t f hb hx).1) (fun g hg => hO g (by rw [e2]; simp [hg])),
      h2.goes h hS hD.2 (fun b c t f hb hx => (hX b c t f hb hx).2) (fun g hg => hO g (by rw [e2]; simp [hg]))⟩
theorem RepE.goes {B : Bd} {X S' : Nat → Prop} {D : TypeId → Bool} {u w : World} (h : Goes B.b B.S X D u w) (hS : ∀ b, B.S b → S' b) : ∀ {Γ : List (List AV)} {E : Env} {os : List Nat}, RepE B u Γ E os → okE D Γ = true →
    (∀ b c t f, u.heap[b]? = some (Obj.cells c t f) → X b → Γ.all (fun s => s.all (AV.safe t)) = true) → (∀ g ∈ os, ¬ X g) → RepE (B.sh S') w Γ E os
  | [], _, _, hr, _, _, _ => hr
  | s :: Γ, _, _, ⟨cs, E', o1, o2, e, e2, h1, h2⟩, hD, hX, hO => by
    simp only [okE, List.all_cons, Bool.and_eq_true] at hD hX
    exact ⟨cs, E', o1, o2, e, e2, h1.goes h hS hD.1 (fun b c t f hb hx => (hX b c t f hb hx).1) (fun g hg => hO g (by rw [e2]; simp [hg])),
      h2.goes h hS hD.2 (fun b c t f hb hx => (hX b c t f hb hx).2) (fun g hg => hO g (by rw [e2]; simp [hg]))⟩
theorem Goes.of_ext {D : TypeId → Bool} {w0 w : World} {u : Gh} (hu : Below w0.heap.size w0 u.w) (hw : Below w0.heap.size w0 w) (he : ExtS D u w) : Goes w0.heap.size u.S (fun _ => False) D u.w w :=
  ⟨he.size, fun b hb => (hw.block b hb).trans (hu.block b hb).symm, fun b c t f hb hD _ => he.block b c t f hb hD⟩
structure W0 where
  w : World
  b0 : Nat
  le : b0 ≤ w.heap.size
  S : Nat → Prop
  sh : ∀ b, S b → b < w.heap.size
def W0.bd (w0 : W0) (S : Nat → Prop) : Bd := ⟨w0.b0, w0.w.heap.size, w0.le, S⟩
def W0.gh (w0 : W0) : Gh := ⟨w0.w, w0.S⟩
def W0.fin (w0 : W0) (w : World) : Nat → Prop := fun b => w0.S b ∨ (w0.w.heap.size ≤ b ∧ b < w.heap.size)
def ShOk (w0 : W0) (u : Gh) : Prop := ∀ b, u.S b → w0.fin u.w b
def Knows (w0 : W0) (D : TypeId → Bool) (Γ : List (List AV)) (E : Env) (u : Gh) : Prop :=
  (Below w0.w.heap.size w0.w u.w ∧ ShOk w0 u) ∧ okE D Γ = true ∧ ∃ os, os.Nodup ∧ RepE (w0.bd u.S) u.w Γ E os
theorem ShOk.more {w0 : W0} {u : Gh} {w w' : World} (h : ShOk w0 u) (h1 : u.w.heap.size ≤ w.heap.size) (h2 : w.heap.size ≤ w'.heap.size) (h0 : w0.w.heap.size ≤ w.heap.size) : ShOk w0 (u.more w w') := fun b hb => by
  rcases hb with hb | ⟨hb, hb'⟩
  · exact (h b hb).imp id (fun ⟨k1, k2⟩ => ⟨k1, by show b < w'.heap.size; omega⟩)
  · exact .inr ⟨by omega, hb'⟩
theorem ShOk.on {w0 : W0} {u : Gh} {w : World} (h : ShOk w0 u) (h1 : u.w.heap.size ≤ w.heap.size) : ShOk w0 ⟨w, u.S⟩ := fun b hb => (h b hb).imp id (fun ⟨k1, k2⟩ => ⟨k1, by show b < w.heap.size; omega⟩)
theorem ShOk.lt {w0 : W0} {u : Gh} (h : ShOk w0 u) (h1 : w0.w.heap.size ≤ u.w.heap.size) (b : Nat) (hb : u.S b) : b < u.w.heap.size := by
  rcases h b hb with k | k
  · exact Nat.lt_of_lt_of_le (w0.sh b k) h1
  · exact k.2
theorem Knows.ext {w0 : W0} {D : TypeId → Bool} {Γ : List (List AV)} {E : Env} {u : Gh} {w : World} (h : Knows w0 D Γ E u) (he : ExtS D u w) (hb : Below w0.w.heap.size w0.w w) : Knows w0 D Γ E ⟨w, u.S⟩ := by
  obtain ⟨h1, h2, os, h3, h4⟩ := h
  exact ⟨⟨hb, h1.2.on he.size⟩, h2, os, h3, RepE.goes (B := w0.bd u.S) (Goes.of_ext (w0 := w0.w) h1.1 hb he) (fun _ h => h) h4 h2 (fun _ _ _ _ _ h => h.elim) (fun _ _ h => h)⟩
abbrev LK := List (Nat × (List (List AV) → List AV → Prop))
def LOk (w0 : W0) (D : TypeId → Bool) (K : LK) (L : LC) (E : Env) : Prop :=
  ∀ d n Q, K[d]? = some (n, Q) → n ≤ E.length ∧ ∀ cs u G avs, Q G avs → Knows w0 D (G ++ [avs]) (E.take n ++ [cs]) u → L d cs u
theorem LOk.ext {w0 : W0} {D : TypeId → Bool} {K : LK} {L : LC} {E E' : Env} (h : LOk w0 D K L E) : LOk w0 D K L (E ++ E') := fun d n Q hK => by
  obtain ⟨h1, h2⟩ := h d n Q hK
  refine ⟨by rw [List.length_append]; omega, fun cs u G avs hQ hk => h2 cs u G avs hQ ?_⟩
  rwa [List.take_append_of_le_length h1] at hk
structure Jd where
  J : World → Prop
  below : ∀ {w w'}, Below w.heap.size w w' → J w → J w'
def AW (P : Program) (J : Jd) (w0 : W0) (D : TypeId → Bool) (Post : Ending → World → Prop) (K : LK) (Γ : List (List AV)) (tr : Tr) : Prop :=
  J.J w0.w → ∀ L E u, LOk w0 D K L E → Knows w0 D Γ E u → interp P w0.w D (fun _ => false) Post tr L E u
def argV (sh : List (Option Nat)) (E : Env) : List Value := sh.zipIdx.map (fun (s, i) => (v1of i 0 s).den [] E)
def ArgsR (l : Lm) (w : World) : List (Option Nat) → List (List Pd) → Env → Prop
  | [], [], E => E = []
  | s :: sh, ps :: asx, E => ∃ cs E', E = cs :: E' ∧ (s.getD 1 = cs.length) ∧ RL l w ps cs ∧ ArgsR l w sh asx E'
  | _, _, _ => False
def TellsA (w0 : W0) (sh : List (Option Nat)) (rs : (Nat → Nat) → List AV) (e : Ending) (w : World) : Prop :=
  ∃ cs os γ, e = .returned ((mkSV sh 0).den [] [cs]) ∧ os.Nodup ∧ RepS (w0.bd (w0.fin w)) w (rs γ) cs os ∧ Below w0.w.heap.size w0.w w
def Ct (P : Program) (J : Jd) (f : FuncId) (shI : List (Option Nat)) (asx : List (List Pd)) (sh : List (Option Nat)) (rs : (Nat → Nat) → List AV) : Prop :=
  ∀ (w0 : W0) E, J.J w0.w → ArgsR ⟨w0.b0, some w0.w.heap.size, w0.S⟩ w0.w shI asx E → Calls P f (argV shI E).toArray w0.w (TellsA w0 sh rs)
end Cin

namespace Cin
open Go Go.RowKit
def lookS : List AV → Nat → Option AV
  | [], _ => none
  | a :: _, 0 => some a
  | a :: r, k + 1 => bif Nat.ble a.n (k + 1) then lookS r (k + 1 - a.n) else none
def look (Γ : List (List AV)) (i k : Nat) : Option AV := match Γ[i]? with | some s => lookS s k | none => none
section
variable {B : Bd} {w : World}
theorem lookS_ok : ∀ {s : List AV} {k : Nat} {a : AV} {cs : List Value} {os : List Nat}, RepS B w s cs os → lookS s k = some a → ∃ pre c post o1 o o2, cs = pre ++ c ++ post ∧ pre.length = k ∧ os = o1 ++ o ++ o2 ∧ RepV B w a c o
  | [], _, _, _, _, _, h => by simp [lookS] at h
  | a :: r, 0, b, _, _, ⟨c1, c2, o1, o2, e, e2, h1, h2⟩, h => by
    simp only [lookS, Option.some.injEq] at h
    subst h
    exact ⟨[], c1, c2, [], o1, o2, by rw [e]; rfl, rfl, by rw [e2]; rfl, h1⟩
  | a :: r, k + 1, b, _, _, ⟨c1, c2, o1, o2, e, e2, h1, h2⟩, h => by
    simp only [lookS] at h
    cases hb : Nat.ble a.n (k + 1) with
    | false => rw [hb] at h; cases h
    | true =>
      rw [hb] at h
      have hle : a.n ≤ k + 1 := Nat.le_of_ble_eq_true hb
      obtain ⟨pre, c, post, p1, p, p2, e3, e4, e5, h3⟩ := lookS_ok h2 h
      exact ⟨c1 ++ pre, c, post, o1 ++ p1, p, p2, by rw [e, e3]; simp, by rw [List.length_append, h1.len, e4]; omega, by rw [e2, e5]; simp, h3⟩
theorem repE_at : ∀ {Γ : List (List AV)} {i : Nat} {s : List AV} {E : Env} {os : List Nat}, RepE B w Γ E os → Γ[i]? = some s → ∃ cs o1 o o2, E[i]? = some cs ∧ os = o1 ++ o ++ o2 ∧ RepS B w s cs o
  | [], _, _, _, _, _, h => by simp at h
  | s :: Γ, 0, t, _, _, ⟨cs, E', o1, o2, e, e2, h1, h2⟩, h => by
    simp only [List.getElem?_cons_zero, Option.some.injEq] at h
    subst h
    exact ⟨cs, [], o1, o2, by rw [e]; rfl, by rw [e2]; rfl, h1⟩
  | s :: Γ, i + 1, t, _, _, ⟨cs, E', o1, o2, e, e2, h1, h2⟩, h => by
    obtain ⟨cs', p1, p, p2, e3, e4, h3⟩ := repE_at h2 (i := i) (by simpa using h)
    exact ⟨cs', o1 ++ p1, p, p2, by rw [e]; simpa using e3, by rw [e2, e4]; simp, h3⟩
theorem look_ok {Γ : List (List AV)} {i k : Nat} {a : AV} {E : Env} {os : List Nat} (h : RepE B w Γ E os) (hl : look Γ i k = some a) :
    ∃ c o, RepV B w a c o ∧ (∀ (j : Nat) (v : Value), c[j]? = some v → (E.getD i []).getD (k + j) (.bool false) = v) ∧ ∀ g ∈ o, g ∈ os := by
  unfold look at hl
  cases hs : Γ[i]? with
  | none => rw [hs] at hl; cases hl
  | some s =>
    rw [hs] at hl
    obtain ⟨cs, o1, o, o2, e, e2, h1⟩ := repE_at h hs
    obtain ⟨pre, c, post, p1, p, p2, e3, e4, e5, h2⟩ := lookS_ok h1 hl
    refine ⟨c, p, h2, fun j v hj => ?_, fun g hg => by rw [e2, e5]; simp [hg]⟩
    have hjl := (List.getElem?_eq_some_iff.1 hj).1
    rw [List.getD_eq_getElem?_getD, List.getD_eq_getElem?_getD, e, Option.getD_some, e3, List.append_assoc, List.getElem?_append_right (by omega), List.getElem?_append_left (by omega), e4, show k + j - k = j by omega, hj]
    rfl
end
def eat (i : Nat) : Nat → Nat → List A → Option (List A)
  | _, 0, r => some r
  | k, n + 1, .c i' k' :: r => bif Nat.beq i' i && Nat.beq k' k then eat i (k + 1) n r else none
  | _, _ + 1, _ => none
theorem eat_ok (i : Nat) : ∀ {n k : Nat} {l r : List A}, eat i k n l = some r → ∃ p, l = p ++ r ∧ p.length = n ∧ ∀ (j : Nat) (a : A), p[j]? = some a → a = A.c i (k + j)
  | 0, k, l, r, h => by
    have : l = r := by cases l <;> simpa [eat] using h
    exact ⟨[], by simp [this], rfl, fun j a hj => by simp at hj⟩
  | n + 1, k, [], r, h => by simp [eat] at h
  | n + 1, k, .k v :: l, r, h => by simp [eat] at h
  | n + 1, k, .p j o :: l, r, h => by simp [eat] at h
  | n + 1, k, .c i' k' :: l, r, h => by
    simp only [eat] at h
    cases hb : (Nat.beq i' i && Nat.beq k' k) with
    | false => rw [hb] at h; cases h
    | true =>
      rw [hb] at h
      simp only [Bool.and_eq_true, Nat.beq_eq] at hb
      obtain ⟨p, e, hl, hp⟩ := eat_ok i (n := n) (k := k + 1) h
      refine ⟨.c i' k' :: p, by rw [e]; rfl, by simp [hl], fun j a hj => ?_⟩
      cases j with
      | zero => simp at hj; rw [← hj, hb.1, hb.2]; rfl
      | succ j => rw [hp j a (by simpa using hj)]; congr 1; omega
theorem eat_den {B : Bd} {i k n : Nat} {w : World} {l r : List A} {a : AV} {E : Env} {c : List Value} {o : List Nat} (he : eat i k n l = some r) (hn : a.n = n) (hr : RepV B w a c o) (hc : ∀ (j : Nat) (v : Value), c[j]? = some v → (E.getD i []).getD (k + j) (.bool false) = v) :
    l.map (A.den [] E) = c ++ r.map (A.den [] E) := by
  obtain ⟨p, e, hl, hp⟩ := eat_ok i he
  rw [e, List.map_append]
  congr 1
  refine List.ext_getElem? fun j => ?_
  rw [List.getElem?_map]
  have hcl := hr.len
  by_cases hj : j < n
  · have h1 : j < p.length := by omega
    have h2 : j < c.length := by omega
    rw [List.getElem?_eq_getElem h1, List.getElem?_eq_getElem h2, Option.map_some, hp j _ (List.getElem?_eq_getElem h1)]
    exact congrArg some (hc j _ (List.getElem?_eq_getElem h2))
  · rw [List.getElem?_eq_none (by omega), List.getElem?_eq_none (by omega)]; rfl
def AV.pd : AV → Option Pd
  | .ro _ p => some p
  | .own _ r rows => some (pRows r rows)
  | _ => none
theorem OwnR.rows {B : Bd} {g : Nat} {r : Rty} {rows : List (List Pd)} {w : World} {cs : List Value} {os : List Nat} (h : OwnR B g r rows w cs os) : (pRows r rows).R B.nn w cs := by
  refine ⟨h.1, ?_⟩
  rcases h.2 with ⟨rfl, rfl, _⟩ | ⟨cap, cur, e, ho, hB, hg, i1, i2, i3, hrow⟩
  · exact .inl ⟨none, 0, rfl, fun _ => rfl, rfl⟩
  · exact .inr ⟨g, 0, cap, cur, r.t, _, e, hg, ⟨.inr ⟨rfl, hB.2⟩, fun B hB => (by cases hB)⟩, Nat.le_trans i1 i2, hrow⟩
theorem AV.pd_ok {B : Bd} {w : World} {a : AV} {p : Pd} {cs : List Value} {os : List Nat} (hp : a.pd = some p) (h : RepV B w a cs os) : p.R B.nn w cs := by
  cases a with
  | ro old q =>
    cases hp
    have := h.1
    cases old with
    | true => exact p.lim this
    | false => exact this
  | own g r rows => cases hp; exact OwnR.rows h
  | var g r row => cases hp
  | junk n => cases hp
theorem AV.pd_n {a : AV} {p : Pd} (hp : a.pd = some p) : a.n = p.n := by
  cases a with
  | ro old q => cases hp; rfl
  | own g r rows => cases hp; rfl
  | var g r row => cases hp
  | junk n => cases hp
def gath (Γ : List (List AV)) : Nat → List A → Option (List Pd)
  | _, [] => some []
  | 0, _ :: _ => none
  | f + 1, .k v :: r => bif v.oneCell' then (match gath Γ f r with | some ps => some (pV v :: ps) | none => none) else none
  | f + 1, .c i k :: r => (match look Γ i k with
    | some a => (match a.pd with
      | some p => (match eat i k p.n (.c i k :: r) with
        | some r' => (match gath Γ f r' with | some ps => some (p :: ps) | none => none)
        | none => none)
      | none => none)
    | none => none)
  | _ + 1, .p _ _ :: _ => none
theorem gath_ok {B : Bd} {w : World} {Γ : List (List AV)} {E : Env} {os : List Nat} (hr : RepE B w Γ E os) : ∀ {f : Nat} {l : List A} {ps : List Pd}, gath Γ f l = some ps → RL B.nn w ps (l.map (A.den [] E))
  | f, [], ps, h => by
    have : ps = [] := by cases f <;> simpa [gath, eq_comm] using h
    subst this; rfl
  | 0, _ :: _, ps, h => by simp [gath] at h
  | f + 1, .k v :: r, ps, h => by
    simp only [gath] at h
    cases hv : v.oneCell' with
    | false => rw [hv] at h; cases h
    | true =>
      rw [hv] at h
      simp only [cond_true] at h
      split at h
      · rename_i qs hq
        cases h
        exact ⟨[v], r.map (A.den [] E), rfl, ⟨rfl, hv⟩, gath_ok hr hq⟩
      · cases h
  | f + 1, .c i k :: r, ps, h => by
    simp only [gath] at h
    split at h
    · rename_i a ha
      split at h
      · rename_i p hp
        split at h
        · rename_i r' he
          split at h
          · rename_i qs hq
            cases h
            obtain ⟨c, o, h1, h2, _⟩ := look_ok hr ha
            exact ⟨c, r'.map (A.den [] E), eat_den he (AV.pd_n hp) h1 h2, AV.pd_ok hp h1, gath_ok hr hq⟩
          · cases h
        · cases h
      · cases h
    · cases h
  | f + 1, .p _ _ :: _, ps, h => by simp [gath] at h
def V1.shp : V1 → Option Nat
  | .s _ => none
  | .g l => some l.length
def gathL (Γ : List (List AV)) : List V1 → Option (List (List Pd))
  | [] => some []
  | x :: r => (match gath Γ x.atoms.length x.atoms with
    | some ps => (match gathL Γ r with | some qs => some (ps :: qs) | none => none)
    | none => none)
theorem gathL_ok {B : Bd} {w : World} {Γ : List (List AV)} {E : Env} {os : List Nat} (hr : RepE B w Γ E os) : ∀ {ar : List V1} {asx : List (List Pd)}, gathL Γ ar = some asx →
    ArgsR ⟨B.b0, some w.heap.size, B.S⟩ w (ar.map V1.shp) asx (ar.map fun x => x.atoms.map (A.den [] E))
  | [], asx, h => by simp only [gathL, Option.some.injEq] at h; subst h; rfl
  | x :: r, asx, h => by
    simp only [gathL] at h
    split at h
    · rename_i ps hp
      split at h
      · rename_i qs hq
        cases h
        exact ⟨_, _, rfl, by cases x <;> simp [V1.shp, V1.atoms], (gath_ok hr hp).all', gathL_ok hr hq⟩
      · cases h
    · cases h
theorem argV_of (E : Env) : ∀ (ar : List V1) (F : Env), ((ar.map V1.shp).zipIdx F.length).map (fun (s, i) => (v1of i 0 s).den [] (F ++ ar.map fun x => x.atoms.map (A.den [] E))) = ar.map (V1.den [] E)
  | [], F => rfl
  | x :: r, F => by
    simp only [List.map_cons, List.zipIdx_cons]
    congr 1
    · cases x with
      | s a => simp [V1.shp, v1of, V1.den, A.den, V1.atoms]
      | g l =>
        simp only [V1.shp, v1of, V1.den]
        congr 2
        refine List.ext_getElem? fun j => ?_
        simp only [List.getElem?_map]
        by_cases hj : j < l.length
        · rw [List.getElem?_range' hj, List.getElem?_eq_getElem hj]
          simp [A.den, V1.atoms, hj]
        · rw [List.getElem?_eq_none (by simp; omega), List.getElem?_eq_none (by omega)]; rfl
    · have := argV_of E r (F ++ [x.atoms.map (A.den [] E)])
      simpa using this
def knownA (Γ : List (List AV)) : A → Option Value
  | .c i k => (match look Γ i k with | some (.ro _ p) => p.kv | _ => none)
  | .k v => some v
  | .p _ _ => none
theorem knownA_ok {B : Bd} {w : World} {Γ : List (List AV)} {E : Env} {os : List Nat} (hr : RepE B w Γ E os) {a : A} {v : Value} (h : knownA Γ a = some v) : a.den [] E = v := by
  cases a with
  | c i k =>
    simp only [knownA] at h
    split at h
    · rename_i o p ha
      obtain ⟨c, o', h1, h2, _⟩ := look_ok hr ha
      have := p.kv_ok h h1.1
      subst this
      exact h2 0 v rfl
    · cases h
  | k v => cases h; rfl
  | p _ _ => cases h
def knownAs (Γ : List (List AV)) : List A → Option (List Value)
  | [] => some []
  | a :: r => (match knownA Γ a with | some v => (match knownAs Γ r with | some vs => some (v :: vs) | none => none) | none => none)
theorem knownAs_ok {B : Bd} {w : World} {Γ : List (List AV)} {E : Env} {os : List Nat} (hr : RepE B w Γ E os) : ∀ {l : List A} {vs : List Value}, knownAs Γ l = some vs → l.map (A.den [] E) = vs
  | [], vs, h => by cases h; rfl
  | a :: r, vs, h => by
    simp only [knownAs] at h
    split at h
    · rename_i v hv
      split at h
      · rename_i us hu
        cases h
        rw [List.map_cons, knownA_ok hr hv, knownAs_ok hr hu]
      · cases h
    · cases h
def knownV (Γ : List (List AV)) : V1 → Option Value
  | .s a => knownA Γ a
  | .g l => (match knownAs Γ l with | some vs => some (.agg vs.toArray) | none => none)
theorem knownV_ok {B : Bd} {w : World} {Γ : List (List AV)} {E : Env} {os : List Nat} (hr : RepE B w Γ E os) {x : V1} {v : Value} (h : knownV Γ x = some v) : x.den [] E = v := by
  cases x with
  | s a => exact knownA_ok hr h
  | g l =>
    simp only [knownV] at h
    split at h
    · rename_i vs hv; cases h; simp only [V1.den, knownAs_ok hr hv]
    · cases h
def knownL (Γ : List (List AV)) : List V1 → Option (List Value)
  | [] => some []
  | x :: r => (match knownV Γ x with | some v => (match knownL Γ r with | some vs => some (v :: vs) | none => none) | none => none)
theorem knownL_ok {B : Bd} {w : World} {Γ : List (List AV)} {E : Env} {os : List Nat} (hr : RepE B w Γ E os) : ∀ {l : List V1} {vs : List Value}, knownL Γ l = some vs → l.map (V1.den [] E) = vs
  | [], vs, h => by cases h; rfl
  | a :: r, vs, h => by
    simp only [knownL] at h
    split at h
    · rename_i v hv
      split at h
      · rename_i us hu
        cases h
        rw [List.map_cons, knownV_ok hr hv, knownL_ok hr hu]
      · cases h
    · cases h
def junkS : List AV → Nat → List AV
  | [], _ => []
  | a :: r, 0 => .junk a.n :: r
  | a :: r, k + 1 => a :: junkS r (k + 1 - a.n)
def junkAt : List (List AV) → Nat → Nat → List (List AV)
  | [], _, _ => []
  | s :: Γ, 0, k => junkS s k :: Γ
  | s :: Γ, i + 1, k => s :: junkAt Γ i k
section
variable {B : Bd} {w : World}
theorem junkS_ok : ∀ {s : List AV} {k : Nat} {a : AV} {cs : List Value} {os : List Nat}, RepS B w s cs os → lookS s k = some a → ∃ pre c post o1 o o2, cs = pre ++ c ++ post ∧ pre.length = k ∧ os = o1 ++ o ++ o2 ∧ RepV B w a c o ∧ RepS B w (junkS s k) cs (o1 ++ o2)
  | [], _, _, _, _, _, h => by simp [lookS] at h
  | a :: r, 0, b, _, _, ⟨c1, c2, o1, o2, e, e2, h1, h2⟩, h => by
    simp only [lookS, Option.some.injEq] at h
    subst h
    exact ⟨[], c1, c2, [], o1, o2, by rw [e]; rfl, rfl, by rw [e2]; rfl, h1, c1, c2, [], o2, e, rfl, h1.junk, h2⟩
  | a :: r, k + 1, b, _, _, ⟨c1, c2, o1, o2, e, e2, h1, h2⟩, h => by
    simp only [lookS] at h
    cases hb : Nat.ble a.n (k + 1) with
    | false => rw [hb] at h; cases h
    | true =>
      rw [hb] at h
      have hle : a.n ≤ k + 1 := Nat.le_of_ble_eq_true hb
      obtain ⟨pre, c, post, p1, p, p2, e3, e4, e5, h3, h4⟩ := junkS_ok h2 h
      exact ⟨c1 ++ pre, c, post, o1 ++ p1, p, p2, by rw [e, e3]; simp, by rw [List.length_append, h1.len, e4]; omega, by rw [e2, e5]; simp, h3, c1, c2, o1, p1 ++ p2, e, by simp, h1, h4⟩
theorem junkAt_ok : ∀ {Γ : List (List AV)} {i k : Nat} {a : AV} {E : Env} {os : List Nat}, RepE B w Γ E os → look Γ i k = some a →
    ∃ c o1 o o2, os = o1 ++ o ++ o2 ∧ RepV B w a c o ∧ (∀ (j : Nat) (v : Value), c[j]? = some v → (E.getD i []).getD (k + j) (.bool false) = v) ∧ RepE B w (junkAt Γ i k) E (o1 ++ o2)
  | [], _, _, _, _, _, _, h => by simp [look] at h
  | s :: Γ, 0, k, a, _, _, ⟨cs, E', o1, o2, e, e2, h1, h2⟩, h => by
    have h' : lookS s k = some a := by simpa [look] using h
    obtain ⟨pre, c, post, p1, p, p2, e3, e4, e5, h3, h4⟩ := junkS_ok h1 h'
    refine ⟨c, p1, p, p2 ++ o2, by rw [e2, e5]; simp, h3, fun j v hj => ?_, cs, E', p1 ++ p2, o2, e, by simp, h4, h2⟩
    have hjl := (List.getElem?_eq_some_iff.1 hj).1
    rw [e, List.getD_eq_getElem?_getD, List.getD_eq_getElem?_getD, List.getElem?_cons_zero, Option.getD_some, e3, List.append_assoc, List.getElem?_append_right (by omega), List.getElem?_append_left (by omega), e4, show k + j - k = j by omega, hj]
    rfl
  | s :: Γ, i + 1, k, a, _, _, ⟨cs, E', o1, o2, e, e2, h1, h2⟩, h => by
    obtain ⟨c, p1, p, p2, e3, h3, h4, h5⟩ := junkAt_ok (Γ := Γ) (i := i) (k := k) (a := a) h2 (by simpa [look] using h)
    refine ⟨c, o1 ++ p1, p, p2, by rw [e2, e3]; simp, h3, fun j v hj => ?_, cs, E', o1, p1 ++ p2, e, by simp, h1, h5⟩
    rw [e, ← h4 j v hj]; simp
end
theorem junkAt_len : ∀ (Γ : List (List AV)) (i k : Nat), (junkAt Γ i k).length = Γ.length
  | [], _, _ => rfl
  | _ :: _, 0, _ => rfl
  | _ :: Γ, i + 1, k => by simp [junkAt, junkAt_len Γ i k]
theorem junkS_okD {D : TypeId → Bool} : ∀ {s : List AV} {k : Nat}, s.all (AV.okD D) = true → (junkS s k).all (AV.okD D) = true
  | [], _, _ => rfl
  | a :: r, 0, h => by simp only [List.all_cons, Bool.and_eq_true] at h; simp only [junkS, List.all_cons, Bool.and_eq_true]; exact ⟨rfl, h.2⟩
  | a :: r, k + 1, h => by simp only [List.all_cons, Bool.and_eq_true] at h; simp only [junkS, List.all_cons, Bool.and_eq_true]; exact ⟨h.1, junkS_okD h.2⟩
theorem junkAt_okE {D : TypeId → Bool} : ∀ {Γ : List (List AV)} {i k : Nat}, okE D Γ = true → okE D (junkAt Γ i k) = true
  | [], _, _, _ => rfl
  | s :: Γ, 0, k, h => by simp only [okE, List.all_cons, Bool.and_eq_true] at h; simp only [okE, junkAt, List.all_cons, Bool.and_eq_true]; exact ⟨junkS_okD h.1, h.2⟩
  | s :: Γ, i + 1, k, h => by
    simp only [okE, List.all_cons, Bool.and_eq_true] at h
    have := junkAt_okE (Γ := Γ) (i := i) (k := k) h.2
    simp only [okE, junkAt, List.all_cons, Bool.and_eq_true] at this ⊢; exact ⟨h.1, this⟩
theorem lookS_okD {D : TypeId → Bool} : ∀ {s : List AV} {k : Nat} {a : AV}, s.all (AV.okD D) = true → lookS s k = some a → a.okD D = true
  | [], _, _, _, h => by simp [lookS] at h
  | a :: r, 0, b, hD, h => by simp only [lookS, Option.some.injEq] at h; subst h; simp only [List.all_cons, Bool.and_eq_true] at hD; exact hD.1
  | a :: r, k + 1, b, hD, h => by
    simp only [lookS] at h
    simp only [List.all_cons, Bool.and_eq_true] at hD
    cases hb : Nat.ble a.n (k + 1) with
    | false => rw [hb] at h; cases h
    | true => rw [hb] at h; exact lookS_okD hD.2 h
theorem look_okD {D : TypeId → Bool} {Γ : List (List AV)} {i k : Nat} {a : AV} (hD : okE D Γ = true) (h : look Γ i k = some a) : a.okD D = true := by
  unfold look at h
  split at h
  · rename_i s hs
    exact lookS_okD (List.all_eq_true.1 hD s (List.mem_of_getElem? hs)) h
  · cases h
def take (Γ : List (List AV)) : Nat → List AV → List A → Option (List AV × List (List AV))
  | _, acc, [] => some (acc, Γ)
  | 0, _, _ :: _ => none
  | f + 1, acc, .k v :: r => bif v.oneCell' then take Γ f (acc ++ [.ro true (pV v)]) r else none
  | f + 1, acc, .c i k :: r => (match look Γ i k with
    | some a => (match eat i k a.n (.c i k :: r) with
      | some r' => (match a with
        | .own g rt rows => take (junkAt Γ i k) f (acc ++ [.own g rt rows]) r'
        | .var g rt row => take (junkAt Γ i k) f (acc ++ [.var g rt row]) r'
        | .ro old p => take Γ f (acc ++ [.ro old p]) r'
        | .junk n => take Γ f (acc ++ [.junk n]) r')
      | none => none)
    | none => none)
  | _ + 1, _, .p _ _ :: _ => none
theorem RepS.one_of {B : Bd} {w : World} {a : AV} {c : List Value} {o : List Nat} (h : RepV B w a c o) : RepS B w [a] c o := ⟨c, [], o, [], by simp, by simp, h, rfl, rfl⟩
theorem take_ok {B : Bd} {w : World} {E : Env} {D : TypeId → Bool} : ∀ {f : Nat} {Γ Γ' : List (List AV)} {acc asx : List AV} {l : List A} {cs : List Value} {o os : List Nat},
    RepE B w Γ E os → RepS B w acc cs o → okE D Γ = true → acc.all (AV.okD D) = true → take Γ f acc l = some (asx, Γ') →
    ∃ o1 o2, RepS B w asx (cs ++ l.map (A.den [] E)) o1 ∧ RepE B w Γ' E o2 ∧ (o1 ++ o2).Perm (o ++ os) ∧ okE D Γ' = true ∧ asx.all (AV.okD D) = true ∧ Γ'.length = Γ.length
  | f, Γ, Γ', acc, asx, [], cs, o, os, hr, hs, hD, hA, h => by
    have : acc = asx ∧ Γ = Γ' := by cases f <;> simpa [take] using h
    obtain ⟨rfl, rfl⟩ := this
    exact ⟨o, os, by simpa using hs, hr, List.Perm.refl _, hD, hA, rfl⟩
  | 0, _, _, _, _, _ :: _, _, _, _, _, _, _, _, h => by simp [take] at h
  | f + 1, Γ, Γ', acc, asx, .k v :: r, cs, o, os, hr, hs, hD, hA, h => by
    simp only [take] at h
    cases hv : v.oneCell' with
    | false => rw [hv] at h; cases h
    | true =>
      rw [hv] at h
      simp only [cond_true] at h
      have h1 : RepV B w (.ro true (pV v)) [v] [] := ⟨⟨rfl, hv⟩, rfl⟩
      obtain ⟨o1, o2, h2, h3, h4, h5, h6, h7⟩ := take_ok hr (hs.app (RepS.one_of h1)) hD (by rw [List.all_append, hA]; rfl) h
      exact ⟨o1, o2, by simpa [A.den] using h2, h3, by simpa using h4, h5, h6, h7⟩
  | f + 1, Γ, Γ', acc, asx, .c i k :: r, cs, o, os, hr, hs, hD, hA, h => by
    simp only [take] at h
    split at h
    · rename_i a ha
      split at h
      · rename_i r' he
        have hDa := look_okD hD ha
        have own : ∀ a : AV, look Γ i k = some a → eat i k a.n (.c i k :: r) = some r' → take (junkAt Γ i k) f (acc ++ [a]) r' = some (asx, Γ') → ∃ o1 o2, RepS B w asx (cs ++ (A.c i k :: r).map (A.den [] E)) o1 ∧ RepE B w Γ' E o2 ∧ (o1 ++ o2).Perm (o ++ os) ∧ okE D Γ' = true ∧ asx.all (AV.okD D) = true ∧ Γ'.length = Γ.length := by
          intro a ha he h
          obtain ⟨c, p1, p, p2, e1, h1, h2, h3⟩ := junkAt_ok hr ha
          obtain ⟨o1, o2, k2, k3, k4, k5, k6, k7⟩ := take_ok h3 (hs.app (RepS.one_of h1)) (junkAt_okE hD) (by rw [List.all_append, hA]; simp [look_okD hD ha]) h
          refine ⟨o1, o2, ?_, k3, k4.trans ?_, k5, k6, k7.trans (junkAt_len _ _ _)⟩
          · rw [eat_den he rfl h1 h2, ← List.append_assoc]; exact k2
          · rw [e1, List.append_assoc]
            refine List.Perm.append_left o ?_
            rw [← List.append_assoc]
            exact List.Perm.append_right p2 List.perm_append_comm
        have ro : ∀ a : AV, look Γ i k = some a → eat i k a.n (.c i k :: r) = some r' → (∀ c o', RepV B w a c o' → o' = []) → take Γ f (acc ++ [a]) r' = some (asx, Γ') → ∃ o1 o2, RepS B w asx (cs ++ (A.c i k :: r).map (A.den [] E)) o1 ∧ RepE B w Γ' E o2 ∧ (o1 ++ o2).Perm (o ++ os) ∧ okE D Γ' = true ∧ asx.all (AV.okD D) = true ∧ Γ'.length = Γ.length := by
          intro a ha he hn h
          obtain ⟨c, o', h1, h2, _⟩ := look_ok hr ha
          have := hn c o' h1
          subst this
          obtain ⟨o1, o2, k2, k3, k4, k5, k6, k7⟩ := take_ok hr (hs.app (RepS.one_of h1)) hD (by rw [List.all_append, hA]; simp [look_okD hD ha]) h
          refine ⟨o1, o2, ?_, k3, by simpa using k4, k5, k6, k7⟩
          rw [eat_den he rfl h1 h2, ← List.append_assoc]; exact k2
        cases a with
        | own g rt rows => exact own _ ha he h
        | var g rt row => exact own _ ha he h
        | ro old p => exact ro _ ha he (fun c o' h => h.2) h
        | junk n => exact ro _ ha he (fun c o' h => h.2.2) h
      · cases h
    · cases h
  | f + 1, _, _, _, _, .p _ _ :: _, _, _, _, _, _, _, _, h => by simp [take] at h
def takeL (Γ : List (List AV)) (l : List A) : Option (List AV × List (List AV)) := take Γ l.length [] l
theorem takeL_ok {w0 : W0} {u : Gh} {E : Env} {D : TypeId → Bool} {Γ Γ' : List (List AV)} {asx : List AV} {l : List A} (hk : Knows w0 D Γ E u) (h : takeL Γ l = some (asx, Γ')) :
    Knows w0 D (Γ' ++ [asx]) (E ++ [l.map (A.den [] E)]) u ∧ Γ'.length = Γ.length := by
  obtain ⟨hb, hD, os, hn, hr⟩ := hk
  obtain ⟨o1, o2, h1, h2, h3, h4, h5, h6⟩ := take_ok (D := D) hr (acc := []) (cs := []) (o := []) ⟨rfl, rfl⟩ hD rfl h
  simp only [List.nil_append] at h1 h3
  refine ⟨⟨hb, ?_, o2 ++ o1, (List.perm_append_comm.trans h3).nodup_iff.2 hn, h2.snoc h1⟩, h6⟩
  unfold okE at *
  rw [List.all_append, h4]; simp [h5]
end Cin
