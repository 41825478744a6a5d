/- Rules for rows: what is known is carried along; operations on values. No program. -/
import Derived.Test.YtfohgkabmdhhaaaGreatDoorYs
import Derived.Test.YtfohgkabmdhhaaaGreatDoorYf
import Derived.Test.YtfohgkabmdhhaaaGreatDoorYh
import Derived.Test.YtfohgkabmdhhaaaGreatDoorYo
import Derived.Test.YtfohgkabmdhhaaaGreatDoorYr
import Derived.Test.YtfohgkabmdhhaaaGreatDoorYk
namespace Cin
open Go Go.RowKit

/-- What is known stays so. -/
def Mono (D : TypeId → Bool) (F : World → Prop) : Prop := ∀ u w, Ext D u w → F u → F w
section mono
variable {D : TypeId → Bool} {F G : World → Prop} {t : TypeId} {u w : World}
theorem Mono.and (h : Mono D F) (h' : Mono D G) : Mono D fun w => F w ∧ G w := fun u w e ⟨a, b⟩ => ⟨h u w e a, h' u w e b⟩
theorem Mono.true : Mono D fun _ => True := fun _ _ _ _ => trivial
theorem Sl.ext {k : IntKind} {v : Value} {xs : List Nat} (h : Sl t k u v xs) (e : Ext D u w) (ht : D t = true) : Sl t k w v xs := by
  rcases h with ⟨rfl, rfl⟩ | ⟨b, off, cap, cur, rfl, hB, r⟩
  · exact .inl ⟨rfl, rfl⟩
  · exact .inr ⟨b, off, cap, cur, rfl, e.block b _ _ _ hB ht, r⟩
theorem RefV.ext {v : Value} {n : Nat} (h : RefV t u v n) (e : Ext D u w) (ht : D t = true) : RefV t w v n := let ⟨xs, h1, h2⟩ := h; ⟨xs, h1.ext e ht, h2⟩
theorem NatB.ext {v : Value} {n k : Nat} (h : NatB t u v n k) (e : Ext D u w) (ht : D t = true) : NatB t w v n k := let ⟨⟨s, h1, h2⟩, hk⟩ := h; ⟨⟨s, h1, h2.ext e ht⟩, hk⟩
theorem IntB.ext {v : Value} {z : Int} {k : Nat} (h : IntB t u v z k) (e : Ext D u w) (ht : D t = true) : IntB t w v z k := let ⟨⟨s, h1, h2⟩, hk⟩ := h; ⟨⟨s, h1, h2.ext e ht⟩, hk⟩
theorem monoNat (ht : D t = true) (v : Value) (n k : Nat) : Mono D fun w => NatB t w v n k := fun _ _ e h => h.ext e ht
theorem monoInt (ht : D t = true) (v : Value) (z : Int) (k : Nat) : Mono D fun w => IntB t w v z k := fun _ _ e h => h.ext e ht
theorem monoRef (ht : D t = true) (v : Value) (n k : Nat) : Mono D fun w => RefV t w v n ∧ n < pw k := fun _ _ e h => ⟨h.1.ext e ht, h.2⟩
end mono

/-- A row under what is known. -/
def Wk (P : Program) (w0 : World) (D Z : TypeId → Bool) (Post : Ending → World → Prop) (L : LC) (F : World → Prop) (tr : Tr) (E : Env) : Prop :=
  Mono D F → ∀ u, F u → interp P w0 D Z Post tr L E u

section rules
variable {P : Program} {w0 : World} {D Z : TypeId → Bool} {Post : Ending → World → Prop} {F : World → Prop} {E : Env} {k : Tr} {L : LC}

theorem wRet {x : SV} (h : ∀ w, Below w0.heap.size w0 w → F w → Post (.returned (x.den [] E)) w) : Wk P w0 D Z Post L F (.ret x) E :=
  fun hm u hF w e b => h w b (hm u w e hF)
theorem wIf {c : A} {x y : Tr} (b : Bool) (hc : c.den [] E = .bool b) (h1 : b = true → Wk P w0 D Z Post L F x E) (h2 : b = false → Wk P w0 D Z Post L F y E) : Wk P w0 D Z Post L F (.cond c x y) E :=
  fun hm u hF => ⟨b, hc, fun e => h1 e hm u hF, fun e => h2 e hm u hF⟩
theorem wTrue {c : A} {x y : Tr} (hc : c.den [] E = .bool true) (h1 : Wk P w0 D Z Post L F x E) : Wk P w0 D Z Post L F (.cond c x y) E := wIf true hc (fun _ => h1) (fun h => by cases h)
theorem wFalse {c : A} {x y : Tr} (hc : c.den [] E = .bool false) (h1 : Wk P w0 D Z Post L F y E) : Wk P w0 D Z Post L F (.cond c x y) E := wIf false hc (fun h => by cases h) (fun _ => h1)
theorem wPr {op : Op} {ty : TypeId} {ar : List V1} {v : Value} (h : PrimOk P op ty (ar.map (V1.den [] E)) v) (hv : v.oneCell' = true) {E' : Env} (hk : Wk P w0 D Z Post L F k E') (hE : E ++ [[v]] = E' := by intros; (simp only [List.cons_append, List.nil_append]) <;> exact rfl) : Wk P w0 D Z Post L F (.em (.pr op ty ar) k) E :=
  fun hm u hF => ⟨v, h, hv, hE ▸ hk hm u hF⟩
theorem wMono {G : World → Prop} (hG : Mono D G) (h : ∀ w, F w → G w) {tr : Tr} (hk : Wk P w0 D Z Post L G tr E) : Wk P w0 D Z Post L F tr E := fun _ u hF => hk hG u (h u hF)

/-- A call that tells a value, and of it something that stays. -/
theorem wCall {f : FuncId} {ar : List V1} {sh : List (Option Nat)} {args : Array Value} (G : List Value → World → Prop) (hG : ∀ cs, Mono D (G cs))
    (hc : ∀ w, Below w0.heap.size w0 w → F w → Calls P f args w fun e w' => ∃ cs : List Value, e = .returned ((mkSV sh 0).den [] [cs]) ∧ cs.all Value.oneCell' = true ∧ G cs w' ∧ Below w.heap.size w w')
    {E' : List Value → Env} (hk : ∀ cs, Wk P w0 D Z Post L (fun w => G cs w ∧ F w) k (E' cs)) (ha : (ar.map (V1.den [] E)).toArray = args := by rfl) (hE : ∀ cs, E ++ [cs] = E' cs := by intros; (simp only [List.cons_append, List.nil_append]) <;> exact rfl) : Wk P w0 D Z Post L F (.em (.call f ar sh) k) E := by
  intro hm u hF w e b
  subst ha
  refine (hc w b (hm u w e hF)).mono ?_
  rintro e1 w' ⟨cs, h1, h2, h3, h4⟩
  exact ⟨cs, h1, h2, h4, hE cs ▸ hk cs ((hG cs).and hm) w' ⟨h3, hm u w' (e.below h4) hF⟩⟩
/-- A known value. -/
theorem wVal {f : FuncId} {ar : List V1} {args : Array Value} {v : Value}
    (hc : ∀ w, Below w0.heap.size w0 w → F w → Calls P f args w fun e w' => e = .returned v ∧ Below w.heap.size w w') (hv : v.oneCell' = true)
    {E' : Env} (hk : Wk P w0 D Z Post L F k E') (ha : (ar.map (V1.den [] E)).toArray = args := by rfl) (hE : E ++ [[v]] = E' := by intros; (simp only [List.cons_append, List.nil_append]) <;> exact rfl) : Wk P w0 D Z Post L F (.em (.call f ar [none]) k) E := by
  intro hm u hF w e b
  subst ha
  refine (hc w b (hm u w e hF)).mono ?_
  rintro e1 w' ⟨rfl, h4⟩
  exact ⟨[v], rfl, by simp [hv], h4, hE ▸ hk hm w' (hm u w' (e.below h4) hF)⟩
/-- A whole number. -/
theorem wInt {t : TypeId} (ht : D t = true) {f : FuncId} {ar : List V1} {args : Array Value} {z : Int} {m : Nat}
    (hc : ∀ w, Below w0.heap.size w0 w → F w → Calls P f args w fun e w' => ∃ v, e = .returned v ∧ IntB t w' v z m ∧ Below w.heap.size w w')
    {E' : Value → Value → Env} (hk : ∀ x y, Wk P w0 D Z Post L (fun w => IntB t w (.agg #[x, y]) z m ∧ F w) k (E' x y)) (ha : (ar.map (V1.den [] E)).toArray = args := by rfl) (hE : ∀ x y, E ++ [[x, y]] = E' x y := by intros; (simp only [List.cons_append, List.nil_append]) <;> exact rfl) : Wk P w0 D Z Post L F (.em (.call f ar [some 2]) k) E := by
  intro hm u hF w e b
  subst ha
  refine (hc w b (hm u w e hF)).mono ?_
  rintro e1 w' ⟨v, rfl, hv, h4⟩
  obtain ⟨bb, ad, len, cap, rfl, _⟩ := hv.shape2
  exact ⟨[.bool bb, .slice ad len cap], rfl, rfl, h4, hE _ _ ▸ hk _ _ ((monoInt ht _ _ _).and hm) w' ⟨hv, hm u w' (e.below h4) hF⟩⟩
/-- A whole number, its sign told. -/
theorem wIntS {t : TypeId} (ht : D t = true) {f : FuncId} {ar : List V1} {args : Array Value} {z : Int} {m : Nat}
    (hc : ∀ w, Below w0.heap.size w0 w → F w → Calls P f args w fun e w' => ∃ v, e = .returned v ∧ IntB t w' v z m ∧ Below w.heap.size w w')
    {E' : Value → Env} (hk : ∀ y, Wk P w0 D Z Post L (fun w => IntB t w (.agg #[.bool (decide (z < 0)), y]) z m ∧ F w) k (E' y)) (ha : (ar.map (V1.den [] E)).toArray = args := by rfl) (hE : ∀ y, E ++ [[.bool (decide (z < 0)), y]] = E' y := by intros; (simp only [List.cons_append, List.nil_append]) <;> exact rfl) : Wk P w0 D Z Post L F (.em (.call f ar [some 2]) k) E := by
  intro hm u hF w e b
  subst ha
  refine (hc w b (hm u w e hF)).mono ?_
  rintro e1 w' ⟨v, rfl, hv, h4⟩
  obtain ⟨ad, len, cap, rfl, _⟩ := hv.shape
  exact ⟨[.bool (decide (z < 0)), .slice ad len cap], rfl, rfl, h4, hE _ ▸ hk _ ((monoInt ht _ _ _).and hm) w' ⟨hv, hm u w' (e.below h4) hF⟩⟩
/-- A number from 0 on. -/
theorem wNat {t : TypeId} (ht : D t = true) {f : FuncId} {ar : List V1} {args : Array Value} {n m : Nat}
    (hc : ∀ w, Below w0.heap.size w0 w → F w → Calls P f args w fun e w' => ∃ v, e = .returned v ∧ NatB t w' v n m ∧ Below w.heap.size w w')
    {E' : Value → Env} (hk : ∀ x, Wk P w0 D Z Post L (fun w => NatB t w (.agg #[x]) n m ∧ F w) k (E' x)) (ha : (ar.map (V1.den [] E)).toArray = args := by rfl) (hE : ∀ x, E ++ [[x]] = E' x := by intros; (simp only [List.cons_append, List.nil_append]) <;> exact rfl) : Wk P w0 D Z Post L F (.em (.call f ar [some 1]) k) E := by
  intro hm u hF w e b
  subst ha
  refine (hc w b (hm u w e hF)).mono ?_
  rintro e1 w' ⟨v, rfl, hv, h4⟩
  obtain ⟨ad, len, cap, rfl⟩ := hv.shape2
  exact ⟨[.slice ad len cap], rfl, rfl, h4, hE _ ▸ hk _ ((monoNat ht _ _ _).and hm) w' ⟨hv, hm u w' (e.below h4) hF⟩⟩
/-- A number of the document's. -/
theorem wRef {t : TypeId} (ht : D t = true) {f : FuncId} {ar : List V1} {args : Array Value} {n m : Nat}
    (hc : ∀ w, Below w0.heap.size w0 w → F w → Calls P f args w fun e w' => ∃ v, e = .returned v ∧ (RefV t w' v n ∧ n < pw m) ∧ Below w.heap.size w w')
    {E' : Value → Env} (hk : ∀ x, Wk P w0 D Z Post L (fun w => (RefV t w x n ∧ n < pw m) ∧ F w) k (E' x)) (ha : (ar.map (V1.den [] E)).toArray = args := by rfl) (hE : ∀ x, E ++ [[x]] = E' x := by intros; (simp only [List.cons_append, List.nil_append]) <;> exact rfl) : Wk P w0 D Z Post L F (.em (.call f ar [none]) k) E := by
  intro hm u hF w e b
  subst ha
  refine (hc w b (hm u w e hF)).mono ?_
  rintro e1 w' ⟨v, rfl, hv, h4⟩
  obtain ⟨ad, len, cap, _, rfl, _⟩ := hv.1.shape
  exact ⟨[.slice ad len cap], rfl, rfl, h4, hE _ ▸ hk _ ((monoRef ht _ _ _).and hm) w' ⟨hv, hm u w' (e.below h4) hF⟩⟩
/-- Two numbers of the document's. -/
theorem wRef2 {t : TypeId} (ht : D t = true) {f : FuncId} {ar : List V1} {args : Array Value} {n m n' m' : Nat}
    (hc : ∀ w, Below w0.heap.size w0 w → F w → Calls P f args w fun e w' => ∃ v v', e = .returned (.tuple #[v, v']) ∧ (RefV t w' v n ∧ n < pw m) ∧ (RefV t w' v' n' ∧ n' < pw m') ∧ Below w.heap.size w w')
    {E' : Value → Value → Env} (hk : ∀ x y, Wk P w0 D Z Post L (fun w => (RefV t w x n ∧ n < pw m) ∧ (RefV t w y n' ∧ n' < pw m') ∧ F w) k (E' x y)) (ha : (ar.map (V1.den [] E)).toArray = args := by rfl) (hE : ∀ x y, E ++ [[x, y]] = E' x y := by intros; (simp only [List.cons_append, List.nil_append]) <;> exact rfl) : Wk P w0 D Z Post L F (.em (.call f ar [none, none]) k) E := by
  intro hm u hF w e b
  subst ha
  refine (hc w b (hm u w e hF)).mono ?_
  rintro e1 w' ⟨v, v', rfl, hv, hv', h4⟩
  obtain ⟨ad, len, cap, _, rfl, _⟩ := hv.1.shape
  obtain ⟨ad', len', cap', _, rfl, _⟩ := hv'.1.shape
  exact ⟨[.slice ad len cap, .slice ad' len' cap'], rfl, rfl, h4, hE _ _ ▸ hk _ _ ((monoRef ht _ _ _).and ((monoRef ht _ _ _).and hm)) w' ⟨hv, hv', hm u w' (e.below h4) hF⟩⟩
/-- Two whole numbers and a truth value. -/
theorem wInt2 {t : TypeId} (ht : D t = true) {f : FuncId} {ar : List V1} {args : Array Value} {z z' : Int} {m m' : Nat} {c : Bool}
    (hc : ∀ w, Below w0.heap.size w0 w → F w → Calls P f args w fun e w' => ∃ v v', e = .returned (.tuple #[v, v', .bool c]) ∧ IntB t w' v z m ∧ IntB t w' v' z' m' ∧ Below w.heap.size w w')
    {E' : Value → Value → Value → Value → Env} (hk : ∀ x y x' y', Wk P w0 D Z Post L (fun w => IntB t w (.agg #[x, y]) z m ∧ IntB t w (.agg #[x', y']) z' m' ∧ F w) k (E' x y x' y')) (ha : (ar.map (V1.den [] E)).toArray = args := by rfl) (hE : ∀ x y x' y', E ++ [[x, y, x', y', .bool c]] = E' x y x' y' := by intros; (simp only [List.cons_append, List.nil_append]) <;> exact rfl) : Wk P w0 D Z Post L F (.em (.call f ar [some 2, some 2, none]) k) E := by
  intro hm u hF w e b
  subst ha
  refine (hc w b (hm u w e hF)).mono ?_
  rintro e1 w' ⟨v, v', rfl, hv, hv', h4⟩
  obtain ⟨bb, ad, len, cap, rfl, _⟩ := hv.shape2
  obtain ⟨bb', ad', len', cap', rfl, _⟩ := hv'.shape2
  exact ⟨[.bool bb, .slice ad len cap, .bool bb', .slice ad' len' cap', .bool c], rfl, rfl, h4, hE _ _ _ _ ▸ hk _ _ _ _ ((monoInt ht _ _ _).and ((monoInt ht _ _ _).and hm)) w' ⟨hv, hv', hm u w' (e.below h4) hF⟩⟩
theorem wInt2' {t : TypeId} (ht : D t = true) {f : FuncId} {ar : List V1} {args : Array Value} {z z' : Int} {m m' : Nat}
    (hc : ∀ w, Below w0.heap.size w0 w → F w → Calls P f args w fun e w' => ∃ v v', e = .returned (.tuple #[v, v']) ∧ IntB t w' v z m ∧ IntB t w' v' z' m' ∧ Below w.heap.size w w')
    {E' : Value → Value → Value → Value → Env} (hk : ∀ x y x' y', Wk P w0 D Z Post L (fun w => IntB t w (.agg #[x, y]) z m ∧ IntB t w (.agg #[x', y']) z' m' ∧ F w) k (E' x y x' y')) (ha : (ar.map (V1.den [] E)).toArray = args := by rfl) (hE : ∀ x y x' y', E ++ [[x, y, x', y']] = E' x y x' y' := by intros; (simp only [List.cons_append, List.nil_append]) <;> exact rfl) : Wk P w0 D Z Post L F (.em (.call f ar [some 2, some 2]) k) E := by
  intro hm u hF w e b
  subst ha
  refine (hc w b (hm u w e hF)).mono ?_
  rintro e1 w' ⟨v, v', rfl, hv, hv', h4⟩
  obtain ⟨bb, ad, len, cap, rfl, _⟩ := hv.shape2
  obtain ⟨bb', ad', len', cap', rfl, _⟩ := hv'.shape2
  exact ⟨[.bool bb, .slice ad len cap, .bool bb', .slice ad' len' cap'], rfl, rfl, h4, hE _ _ _ _ ▸ hk _ _ _ _ ((monoInt ht _ _ _).and ((monoInt ht _ _ _).and hm)) w' ⟨hv, hv', hm u w' (e.below h4) hF⟩⟩
/-- What is read of shared memory. -/
theorem wLd {op : Op} {ty : TypeId} {ar : List V1} {sh : Option Nat} (cs : List Value) (hv : cs.all Value.oneCell' = true)
    (h : ∀ w, Below w0.heap.size w0 w → F w → (execOp (pe (ar.map (V1.den [] E))) ⟨none, op, ty, "", #[], none⟩).run P w = .ok (.value ((v1of 0 0 sh).den [] [cs])) w)
    {E' : Env} (hk : Wk P w0 D Z Post L F k E') (hE : E ++ [cs] = E' := by intros; (simp only [List.cons_append, List.nil_append]) <;> exact rfl) : Wk P w0 D Z Post L F (.em (.ld op ty ar sh) k) E :=
  fun hm u hF => ⟨cs, hv, fun w e b => h w b (hm u w e hF), hE ▸ hk hm u hF⟩
/-- New shared memory. -/
theorem wNew {op : Op} {ty : TypeId} {ar : List V1} {sh : Option (Option Nat)} (G : List Value → World → Prop) (hG : ∀ cs, Mono D (G cs))
    (h : ∀ w, Below w0.heap.size w0 w → F w → ∃ (cs : List Value) (w' : World), (execOp (pe (ar.map (V1.den [] E))) ⟨none, op, ty, "", #[], none⟩).run P w = .ok (outX sh cs) w' ∧ cs.all Value.oneCell' = true ∧ G cs w' ∧ Below w.heap.size w w')
    {E' : List Value → Env} (hk : ∀ cs, Wk P w0 D Z Post L (fun w => G cs w ∧ F w) k (E' cs)) (hE : ∀ cs, E ++ [cs] = E' cs := by intros; (simp only [List.cons_append, List.nil_append]) <;> exact rfl) : Wk P w0 D Z Post L F (.em (.wx op ty ar sh) k) E := by
  intro hm u hF w e b
  obtain ⟨cs, w', h1, h2, h3, h4⟩ := h w b (hm u w e hF)
  exact ⟨cs, w', h1, h2, Chg.of_below h4, bel_on b h4, hE cs ▸ hk cs ((hG cs).and hm) w' ⟨h3, hm u w' (e.below h4) hF⟩⟩
/-- Shared memory is written: what is known is told anew. -/
theorem wWx {op : Op} {ty : TypeId} {ar : List V1} {sh : Option (Option Nat)} (G : List Value → World → Prop) (hG : ∀ cs, Mono D (G cs))
    (h : ∀ w, Below w0.heap.size w0 w → F w → ∃ (cs : List Value) (w' : World), (execOp (pe (ar.map (V1.den [] E))) ⟨none, op, ty, "", #[], none⟩).run P w = .ok (outX sh cs) w' ∧ cs.all Value.oneCell' = true ∧ Chg D Z w w' ∧ Below w0.heap.size w0 w' ∧ G cs w')
    {E' : List Value → Env} (hk : ∀ cs, Wk P w0 D Z Post L (G cs) k (E' cs)) (hE : ∀ cs, E ++ [cs] = E' cs := by intros; (simp only [List.cons_append, List.nil_append]) <;> exact rfl) : Wk P w0 D Z Post L F (.em (.wx op ty ar sh) k) E := by
  intro hm u hF w e b
  obtain ⟨cs, w', h1, h2, h3, h4, h5⟩ := h w b (hm u w e hF)
  exact ⟨cs, w', h1, h2, h3, h4, hE cs ▸ hk cs (hG cs) w' h5⟩
/-- What is told is known whole. -/
theorem wKnown {f : FuncId} {ar : List V1} {sh : List (Option Nat)} {args : Array Value} {V : Value} (cs : List Value)
    (hc : ∀ w, Below w0.heap.size w0 w → F w → Calls P f args w fun e w' => e = .returned V ∧ Below w.heap.size w w') (hV : (mkSV sh 0).den [] [cs] = V) (hv : cs.all Value.oneCell' = true)
    {E' : Env} (hk : Wk P w0 D Z Post L F k E') (ha : (ar.map (V1.den [] E)).toArray = args := by rfl) (hE : E ++ [cs] = E' := by intros; (simp only [List.cons_append, List.nil_append]) <;> exact rfl) : Wk P w0 D Z Post L F (.em (.call f ar sh) k) E := by
  intro hm u hF w e b
  subst ha hV
  refine (hc w b (hm u w e hF)).mono ?_
  rintro e1 w' ⟨rfl, h4⟩
  exact ⟨cs, rfl, hv, h4, hE ▸ hk hm w' (hm u w' (e.below h4) hF)⟩
/-- A whole number, and a value. -/
theorem wIntV {t : TypeId} (ht : D t = true) {f : FuncId} {ar : List V1} {args : Array Value} {z : Int} {m : Nat} {c : Value}
    (hc : ∀ w, Below w0.heap.size w0 w → F w → Calls P f args w fun e w' => ∃ v, e = .returned (.tuple #[v, c]) ∧ IntB t w' v z m ∧ Below w.heap.size w w') (hv : c.oneCell' = true)
    {E' : Value → Value → Env} (hk : ∀ x y, Wk P w0 D Z Post L (fun w => IntB t w (.agg #[x, y]) z m ∧ F w) k (E' x y)) (ha : (ar.map (V1.den [] E)).toArray = args := by rfl) (hE : ∀ x y, E ++ [[x, y, c]] = E' x y := by intros; (simp only [List.cons_append, List.nil_append]) <;> exact rfl) : Wk P w0 D Z Post L F (.em (.call f ar [some 2, none]) k) E := by
  intro hm u hF w e b
  subst ha
  refine (hc w b (hm u w e hF)).mono ?_
  rintro e1 w' ⟨v, rfl, h1, h4⟩
  obtain ⟨bb, ad, len, cap, rfl, _⟩ := h1.shape2
  exact ⟨[.bool bb, .slice ad len cap, c], rfl, by simp only [List.all_cons, List.all_nil, hv, Bool.and_true]; rfl, h4, hE _ _ ▸ hk _ _ ((monoInt ht _ _ _).and hm) w' ⟨h1, hm u w' (e.below h4) hF⟩⟩
/-- A number of the document's, and a value. -/
theorem wRefV {t : TypeId} (ht : D t = true) {f : FuncId} {ar : List V1} {args : Array Value} {n m : Nat} {c : Value}
    (hc : ∀ w, Below w0.heap.size w0 w → F w → Calls P f args w fun e w' => ∃ v, e = .returned (.tuple #[v, c]) ∧ (RefV t w' v n ∧ n < pw m) ∧ Below w.heap.size w w') (hv : c.oneCell' = true)
    {E' : Value → Env} (hk : ∀ x, Wk P w0 D Z Post L (fun w => (RefV t w x n ∧ n < pw m) ∧ F w) k (E' x)) (ha : (ar.map (V1.den [] E)).toArray = args := by rfl) (hE : ∀ x, E ++ [[x, c]] = E' x := by intros; (simp only [List.cons_append, List.nil_append]) <;> exact rfl) : Wk P w0 D Z Post L F (.em (.call f ar [none, none]) k) E := by
  intro hm u hF w e b
  subst ha
  refine (hc w b (hm u w e hF)).mono ?_
  rintro e1 w' ⟨v, rfl, h1, h4⟩
  obtain ⟨ad, len, cap, _, rfl, _⟩ := h1.1.shape
  exact ⟨[.slice ad len cap, c], rfl, by simp only [List.all_cons, List.all_nil, hv, Bool.and_true]; rfl, h4, hE _ ▸ hk _ ((monoRef ht _ _ _).and hm) w' ⟨h1, hm u w' (e.below h4) hF⟩⟩
/-- A loop: what its rounds keep, and how many may come; what is known stays, whatever the rounds write. -/
theorem wLoopZ {d : Nat} {init : List A} {body : Tr} (I : List Value → World → Prop) (hI : ∀ cs, Mono D (I cs)) (μ : List Value → Nat) (hFZ : Mono Z F) (h0 : ∀ w, F w → I (init.map (A.den [] E)) w)
    {E' : List Value → Env} (hk : ∀ cs, cs.length = init.length → Wk P w0 D Z Post (updL L d fun cs' u => I cs' u ∧ μ cs' < μ cs) (fun w => I cs w ∧ F w) body (E' cs)) (hE : ∀ cs, E ++ [cs] = E' cs := by intros; (simp only [List.cons_append, List.nil_append]) <;> exact rfl) :
    Wk P w0 D Z Post L F (.loop d init body) E :=
  fun hm u hF => ⟨I, μ, h0 u hF, fun cs u' hl _ he hi => hE cs ▸ hk cs hl ((hI cs).and hm) u' ⟨hi, hFZ u u' he hF⟩⟩
/-- A loop: what its rounds keep, and how many may come. -/
theorem wLoop {d : Nat} {init : List A} {body : Tr} (I : List Value → World → Prop) (hI : ∀ cs, Mono D (I cs)) (μ : List Value → Nat) (h0 : ∀ w, F w → I (init.map (A.den [] E)) w)
    {E' : List Value → Env} (hk : ∀ cs, cs.length = init.length → Wk P w0 D D Post (updL L d fun cs' u => I cs' u ∧ μ cs' < μ cs) (fun w => I cs w ∧ F w) body (E' cs)) (hE : ∀ cs, E ++ [cs] = E' cs := by intros; (simp only [List.cons_append, List.nil_append]) <;> exact rfl) :
    Wk P w0 D D Post L F (.loop d init body) E :=
  fun hm u hF => ⟨I, μ, h0 u hF, fun cs u' hl _ he hi => hE cs ▸ hk cs hl ((hI cs).and hm) u' ⟨hi, hm u u' he hF⟩⟩
/-- The next round. -/
theorem wBack {d : Nat} {vals : List A} (h : ∀ w, F w → L d (vals.map (A.den [] E)) w) : Wk P w0 D Z Post L F (.back d vals) E := fun _ u hF => h u hF
end rules

section prims
variable {P : Program} {t t2 ty : TypeId} {vs : List Value} {p q : Operand} {κ : IntKind} {x y : Int} {b c : Bool}
theorem prEq (hp : pe vs p = .int κ x) (hq : pe vs q = .int κ y) : PrimOk P (.binOp .eql t p q t2) ty vs (.bool (x == y)) := fun w => by
  simp only [execOp, hp, hq]
  simp [eqGuard, binOp, Op.intCmp]
theorem prNe (hp : pe vs p = .int κ x) (hq : pe vs q = .int κ y) : PrimOk P (.binOp .neq t p q t2) ty vs (.bool (x != y)) := fun w => by
  simp only [execOp, hp, hq]
  simp [eqGuard, binOp, Op.intCmp]
theorem prLt (hp : pe vs p = .int κ x) (hq : pe vs q = .int κ y) : PrimOk P (.binOp .lss t p q t2) ty vs (.bool (decide (x < y))) := fun w => by
  simp only [execOp, hp, hq]
  simp [eqGuard, binOp, Op.intCmp]
theorem prLe (hp : pe vs p = .int κ x) (hq : pe vs q = .int κ y) : PrimOk P (.binOp .leq t p q t2) ty vs (.bool (decide (x ≤ y))) := fun w => by
  simp only [execOp, hp, hq]
  simp [eqGuard, binOp, Op.intCmp]
theorem prGt (hp : pe vs p = .int κ x) (hq : pe vs q = .int κ y) : PrimOk P (.binOp .gtr t p q t2) ty vs (.bool (decide (y < x))) := fun w => by
  simp only [execOp, hp, hq]
  simp [eqGuard, binOp, Op.intCmp]
theorem prGe (hp : pe vs p = .int κ x) (hq : pe vs q = .int κ y) : PrimOk P (.binOp .geq t p q t2) ty vs (.bool (decide (y ≤ x))) := fun w => by
  simp only [execOp, hp, hq]
  simp [eqGuard, binOp, Op.intCmp]
theorem prMul (hp : pe vs p = .int κ x) (hq : pe vs q = .int κ y) : PrimOk P (.binOp .mul t p q t2) ty vs (.int κ (κ.wrap (x * y))) := fun w => by
  simp only [execOp, hp, hq]
  simp [eqGuard, binOp, Op.intArith]
theorem prAdd (hp : pe vs p = .int κ x) (hq : pe vs q = .int κ y) : PrimOk P (.binOp .add t p q t2) ty vs (.int κ (κ.wrap (x + y))) := fun w => by
  simp only [execOp, hp, hq]
  simp [eqGuard, binOp, Op.intArith]
theorem prNot (hp : pe vs p = .bool b) : PrimOk P (.unOp .not t p) ty vs (.bool (!b)) := fun w => by
  simp only [execOp, hp]
  simp [Op.unary]
theorem run_beq (hu : P.underlying t = some .bool) (w : World) : (Op.equal t (.bool b) (.bool c)).run P w = .ok (b == c) w := by
  show (Op.equalIn (9999 + 1) t (.bool b) (.bool c)).run P w = _
  rw [Op.equalIn]
  simp only [Sem.run_bind, run_underlying hu, Result.andThen_ok]
  rfl
theorem prBEq (hu : P.underlying t = some .bool) (hp : pe vs p = .bool b) (hq : pe vs q = .bool c) : PrimOk P (.binOp .eql t p q t2) ty vs (.bool (b == c)) := fun w => by
  simp only [execOp, hp, hq]
  have e : binOp .eql t (.bool b) (.bool c) = (do pure (.bool (← Op.equal t (.bool b) (.bool c)))) := rfl
  simp [eqGuard, e, run_beq hu]
theorem prBNe (hu : P.underlying t = some .bool) (hp : pe vs p = .bool b) (hq : pe vs q = .bool c) : PrimOk P (.binOp .neq t p q t2) ty vs (.bool (!(b == c))) := fun w => by
  simp only [execOp, hp, hq]
  have e : binOp .neq t (.bool b) (.bool c) = (do pure (.bool (!(← Op.equal t (.bool b) (.bool c))))) := rfl
  simp [eqGuard, e, run_beq hu]
theorem prLenS {s : ByteArray} {T : TypeId} (hu : P.underlying T = some .string) (hp : pe vs p = .string s) : PrimOk P (.call { callee := .builtin .len, args := #[p], argTypes := #[T] }) ty vs (.int .i64 s.size) := fun w => by
  simp [execOp, resolve, hp, invoke, builtin, Builtin.len_, goInt, run_underlying hu]
theorem prLen {ad : Option Addr} {n m : Nat} {T e : TypeId} (hu : P.underlying T = some (.slice e)) (hp : pe vs p = .slice ad n m) : PrimOk P (.call { callee := .builtin .len, args := #[p], argTypes := #[T] }) ty vs (.int .i64 n) := fun w => by
  simp [execOp, resolve, hp, invoke, builtin, Builtin.len_, goInt, run_underlying hu]
theorem prSEq {s r : ByteArray} (hp : pe vs p = .string s) (hq : pe vs q = .string r) : PrimOk P (.binOp .eql t p q t2) ty vs (.bool (s.toList == r.toList)) := fun w => by
  simp only [execOp, hp, hq]
  simp [eqGuard, binOp, Op.stringOp]
theorem prSNe {s r : ByteArray} (hp : pe vs p = .string s) (hq : pe vs q = .string r) : PrimOk P (.binOp .neq t p q t2) ty vs (.bool (!(s.toList == r.toList))) := fun w => by
  simp only [execOp, hp, hq]
  simp [eqGuard, binOp, Op.stringOp]
theorem prSAdd {s r : ByteArray} (hp : pe vs p = .string s) (hq : pe vs q = .string r) (h : s.size + r.size ≤ 1000000000000) : PrimOk P (.binOp .add t p q t2) ty vs (.string (s ++ r)) := fun w => by
  simp only [execOp, hp, hq]
  simp [eqGuard, binOp, Op.stringOp]
  omega
theorem prIdx {s : ByteArray} {T : TypeId} {m : Nat} {b : UInt8} (hu : P.underlying T = some .string) (hp : pe vs p = .string s) (hq : pe vs q = .int κ m) (hm : s.data.toList[m]? = some b) : PrimOk P (.index T p q) ty vs (.int .u8 b.toNat) := fun w => by
  have e : s[m]? = some b := by
    rw [Array.getElem?_toList] at hm
    obtain ⟨h1, h2⟩ := Array.getElem?_eq_some_iff.1 hm
    rw [getElem?_pos s m h1]
    exact congrArg some h2
  simp only [execOp, hp, hq]
  simp [Instr.index, asIntOf, run_underlying hu, e]
theorem prSlH {s : ByteArray} {T : TypeId} {i : Int} (hu : P.underlying T = some .string) (hp : pe vs p = .string s) (hq : pe vs q = .int κ i) (h0 : 0 ≤ i) (h1 : i ≤ s.size) : PrimOk P (.slice T p none (some q) none) ty vs (.string (s.extract 0 i.toNat)) := fun w => by
  simp only [execOp, hp, hq, Option.map_none, Option.map_some]
  simp [Instr.sliceAt, Instr.slice, Instr.sliceBounds, Instr.sliceBound, asIntOf, run_underlying hu, h0, h1]
theorem prSlL {s : ByteArray} {T : TypeId} {i : Int} (hu : P.underlying T = some .string) (hp : pe vs p = .string s) (hq : pe vs q = .int κ i) (h0 : 0 ≤ i) (h1 : i ≤ s.size) : PrimOk P (.slice T p (some q) none none) ty vs (.string (s.extract i.toNat s.size)) := fun w => by
  simp only [execOp, hp, hq, Option.map_none, Option.map_some]
  simp [Instr.sliceAt, Instr.slice, Instr.sliceBounds, Instr.sliceBound, asIntOf, run_underlying hu, h0, h1]
end prims

end Cin
/- Quotients: plain facts. No program. -/
namespace Cin
open Go Go.RowKit

theorem rat_of {q : Rat} {n : Int} {d : Nat} (hd : d ≠ 0) (hc : n.natAbs.Coprime d) (h : mkRat n d = q) : q.num = n ∧ q.den = d := by
  subst h
  rw [← Rat.mk_eq_mkRat n d hd hc]
  exact ⟨rfl, rfl⟩
theorem add_parts (x y : Rat) {g h : Nat} {b d : Nat} {s : Int} (hg : g = Nat.gcd x.den y.den) (hb : b = x.den / g) (hs : s = x.num * ((y.den / g : Nat) : Int) + y.num * (b : Int)) (hh : h = Nat.gcd s.natAbs g) (hd : d = y.den / h) :
    (x + y).num = s / (h : Int) ∧ (x + y).den = b * d := by
  subst hb hd
  have hgp : 0 < g := by rw [hg]; exact Nat.gcd_pos_of_pos_left _ x.den_pos
  have hgx : g ∣ x.den := by rw [hg]; exact Nat.gcd_dvd_left _ _
  have hgy : g ∣ y.den := by rw [hg]; exact Nat.gcd_dvd_right _ _
  have hhg : h ∣ g := by rw [hh]; exact Nat.gcd_dvd_right _ _
  have aux := Rat.add.aux x y hg rfl rfl
  simp only at aux
  rw [← hs, ← hh] at aux
  have hbp : x.den / g ≠ 0 := by have := Nat.div_pos (Nat.le_of_dvd x.den_pos hgx) hgp; omega
  have hne : x.den / g * y.den ≠ 0 := Nat.mul_ne_zero hbp y.den_nz
  have hn : x + y = Rat.normalize s (x.den / g * y.den) hne := by
    rw [Rat.add_def, ← Rat.normalize_mul_left (a := g) hne (by omega)]
    congr 1
    · rw [hs]
      obtain ⟨p, hp⟩ := hgx
      obtain ⟨r, hr⟩ := hgy
      have e1 : x.den / g = p := by rw [hp, Nat.mul_div_cancel_left _ hgp]
      have e2 : y.den / g = r := by rw [hr, Nat.mul_div_cancel_left _ hgp]
      rw [e1, e2, hp, hr]
      push_cast
      grind
    · obtain ⟨p, hp⟩ := hgx
      rw [hp, Nat.mul_div_cancel_left _ hgp, Nat.mul_assoc]
  rw [hn, Rat.normalize_eq]
  simp only
  rw [← aux]
  refine ⟨rfl, ?_⟩
  exact Nat.mul_div_assoc _ (Nat.dvd_trans hhg hgy)
theorem mul_parts (x y : Rat) : (x * y).num = x.num / (Nat.gcd x.num.natAbs y.den : Nat) * (y.num / (Nat.gcd y.num.natAbs x.den : Nat)) ∧ (x * y).den = x.den / Nat.gcd y.num.natAbs x.den * (y.den / Nat.gcd x.num.natAbs y.den) := by
  have e : x * y = Rat.mul x y := rfl
  rw [e]
  unfold Rat.mul
  exact ⟨rfl, rfl⟩
theorem new_parts (n : Int) (d : Nat) (hd : d ≠ 0) : (mkRat n d).num = n / (Nat.gcd n.natAbs d : Nat) ∧ (mkRat n d).den = d / Nat.gcd n.natAbs d := by
  rw [← Rat.normalize_eq_mkRat hd, Rat.normalize_eq]
  exact ⟨rfl, rfl⟩
/-- -1, 0, 1. -/
def cmpQ (x y : Rat) : Int := if x < y then -1 else if y < x then 1 else 0
theorem cmpQ_of (x y : Rat) : cmpZ (x.num * (y.den : Int)) (y.num * (x.den : Int)) = cmpQ x y := by
  unfold cmpZ cmpQ
  simp only [Rat.lt_iff]
/-- What stands below the line in the program's memory. -/
def denZ (q : Rat) : Int := if q.den = 1 then 0 else (q.den : Int)

end Cin
/- Contracts of rat's small functions. -/
namespace Go.Proofs.YtfohgkabmdhhaaaGreatDoor
open Go.RowKit Cin

def DD : TypeId → Bool := fun t => t == 146
theorem hU : DD 146 = true := rfl
theorem hMix : Tryz.prog.follows .mixedOrders = true := by kernel_rfl
theorem hBool : Tryz.prog.underlying 4 = some .bool := by kernel_rfl
def AllPl : Env → Prop
  | [] => True
  | c :: E => c.all Value.oneCell' = true ∧ AllPl E
theorem allPl {E : Env} (h : AllPl E) : E.all (fun cs => cs.all Value.oneCell') = true := by
  induction E with
  | nil => rfl
  | cons c E ih => simp only [List.all_cons, Bool.and_eq_true]; exact ⟨h.1, ih h.2⟩
/-- The beginning of a walk along a row. -/
theorem go {f : FuncId} {tr : Tr} {args : List Value} {w : World} {Post : Ending → World → Prop} (F : World → Prop) (E : Env) (sh : List (Option Nat)) (hr : rowOf Tryz.prog DD f = some tr)
    (hq : (eqsOf Tryz.prog DD f).map (·.1) = (eqsOf Tryz.prog DD f).map (·.2)) (hsh : ((Tryz.prog.funcs[f]?).map fun fn => fn.params.toList.mapM (shapeOf Tryz.prog)) = some (some sh))
    (hF : Mono DD F) (h0 : F w) (hpl : AllPl E) (hk : Wk Tryz.prog w DD DD Post (fun _ _ _ => False) F tr E) (hE : E.length = sh.length := by rfl) (hargs : args = sh.zipIdx.map (fun (s, i) => (v1of i 0 s).den [] E) := by rfl) : Calls Tryz.prog f args.toArray w Post :=
  rx (fun _ h => h) hMix hr hq sh hsh hE hargs (allPl hpl) _ (hk hF w h0)
abbrev IB (w : World) (x y : Value) (z : Int) (k : Nat) : Prop := IntB 146 w (.agg #[x, y]) z k
theorem ipl {w : World} {x y : Value} {z : Int} {k : Nat} (h : IB w x y z k) : [x, y].all Value.oneCell' = true := by
  obtain ⟨bb, ad, len, cap, e, _⟩ := h.shape2
  cases e; rfl
theorem ibc {w : World} {v : Value} {z : Int} {k : Nat} (h : IntB 146 w v z k) : ∃ x y, v = .agg #[x, y] ∧ IB w x y z k := by
  obtain ⟨bb, ad, len, cap, rfl, _⟩ := h.shape2
  exact ⟨_, _, rfl, h⟩
theorem mI {D : TypeId → Bool} (x y : Value) (z : Int) (k : Nat) (hD : D 146 = true := by rfl) : Mono D fun w => IB w x y z k := monoInt hD _ _ _
theorem divQ_pos {x y : Int} (hy : 0 < y) : divQ x y = x / y := by
  obtain ⟨h1, h2, h3⟩ := div_back x y (by omega)
  have hr : 0 ≤ divR x y := by
    rcases h3 with h | h
    · omega
    · unfold sgnZ at h
      rw [if_neg (by omega : ¬ y < 0), if_pos hy] at h
      split at h
      · cases h
      · omega
  have := (Int.ediv_emod_unique hy (a := x) (r := divR x y) (q := divQ x y)).2 ⟨by rw [Int.mul_comm]; omega, hr, by omega⟩
  exact this.1.symm
theorem ediv_lt {x y : Int} {k : Nat} (hy : 0 < y) (h : x.natAbs < pw k) (hd : y ∣ x) : (x / y).natAbs < pw k := by
  obtain ⟨c, rfl⟩ := hd
  rw [Int.mul_ediv_cancel_left _ (by omega)]
  rw [Int.natAbs_mul] at h
  have : c.natAbs ≤ y.natAbs * c.natAbs := Nat.le_mul_of_pos_left _ (by omega)
  omega

/-- fresh: the same number in memory of its own. -/
theorem qfresh_any (v : Value) (z : Int) (k : Nat) (w : World) (h : IntB 146 w v z k) (hk : k ≤ 1000000) :
    Calls Tryz.prog 119 #[v] w fun e w' => ∃ v', e = .returned v' ∧ IntB 146 w' v' z k ∧ Below w.heap.size w w' := by
  obtain ⟨x, y, rfl, h⟩ := ibc h
  refine go (fun w => IB w x y z k) [[x, y]] [some 2] (tr := (.em (.call 97 [.g [.c 0 0, .c 0 1], .g [.k (.bool false), .k (.slice none 0 0)]] [some 2]) (.ret (.v (.g [.c 1 0, .c 1 1]))))) (by kernel_rfl) (by kernel_rfl) (by kernel_rfl) (mI _ _ _ _) h ⟨(ipl h), trivial⟩ ?_
  refine wInt hU (z := z + 0) (m := k + 0 + 1) (fun w b h => iadd_any _ _ z 0 k 0 w h (IntB.zero _ _ _) (by omega) (by omega)) (fun x1 y1 => ?_)
  exact wRet fun w b ⟨h1, h0⟩ => ⟨_, rfl, ⟨by have := h1.1; rwa [Int.add_zero] at this, h0.2⟩, b⟩

theorem one_lt (k : Nat) (h : 1 ≤ k) : 1 < pw k := by have := pw_le h; rw [show pw 1 = 4294967296 by decide] at this; omega
theorem cmpZ_one (z : Int) : (cmpZ z 1 == 0) = decide (z = 1) := by
  unfold cmpZ
  by_cases h1 : z < 1
  · rw [if_pos h1]; simp; omega
  · rw [if_neg h1]
    by_cases h2 : 1 < z
    · rw [if_pos h2]; simp; omega
    · rw [if_neg h2]; simp; omega

/-- isOne: is it 1? -/
theorem isOne_any (v : Value) (z : Int) (k : Nat) (w : World) (h : IntB 146 w v z k) (hk : k ≤ 1000000) :
    Calls Tryz.prog 108 #[v] w fun e w' => e = .returned (.bool (decide (z = 1))) ∧ Below w.heap.size w w' := by
  obtain ⟨x, y, rfl, h⟩ := ibc h
  refine go (fun w => IB w x y z k) [[x, y]] [some 2] (tr := (.em (.call 104 [.s (.k (.int .i64 1))] [some 2]) (.em (.call 102 [.g [.c 0 0, .c 0 1], .g [.c 1 0, .c 1 1]] [none]) (.em (.pr (.binOp .eql 3 (.tmp 0) (.const (.int .i64 0)) 3) 4 [.s (.c 2 0), .s (.k (.int .i64 0))]) (.ret (.v (.s (.c 3 0)))))))) (by kernel_rfl) (by kernel_rfl) (by kernel_rfl) (mI _ _ _ _) h ⟨(ipl h), trivial⟩ ?_
  refine wInt hU (fun w b h => iof_any 1 w (by decide) (by decide)) (fun x1 y1 => ?_)
  refine wVal (fun w b ⟨h1, h⟩ => icmp_any _ _ z 1 k 2 w h h1 (by omega) (by omega)) rfl ?_
  refine wPr (prEq rfl rfl) rfl ?_
  exact wRet fun w b _ => ⟨by rw [← cmpZ_one]; rfl, b⟩

/-- gcd: the greatest that goes into both. -/
theorem qgcd_any (v u : Value) (x y : Int) (k j : Nat) (w : World) (h : IntB 146 w v x k) (h' : IntB 146 w u y j) (hk : k ≤ 1000000) (hj : j ≤ 1000000) :
    Calls Tryz.prog 95 #[v, u] w fun e w' => ∃ v', e = .returned v' ∧ IntB 146 w' v' (Nat.gcd x.natAbs y.natAbs : Nat) (max k j) ∧ Below w.heap.size w w' := by
  obtain ⟨a, b, rfl, h⟩ := ibc h
  obtain ⟨c, d, rfl, h'⟩ := ibc h'
  refine go (fun w => IB w a b x k ∧ IB w c d y j) [[a, b], [c, d]] [some 2, some 2] (tr := (.em (.call 135 [.g [.c 0 0, .c 0 1]] [some 1]) (.em (.call 135 [.g [.c 1 0, .c 1 1]] [some 1]) (.em (.call 134 [.g [.c 2 0], .g [.c 3 0]] [some 1]) (.em (.call 133 [.s (.k (.bool false)), .g [.c 4 0]] [some 2]) (.ret (.v (.g [.c 5 0, .c 5 1])))))))) (by kernel_rfl) (by kernel_rfl) (by kernel_rfl) ((mI _ _ _ _).and (mI _ _ _ _)) ⟨h, h'⟩ ⟨(ipl h), (ipl h'), trivial⟩ ?_
  refine wNat hU (fun w b ⟨h, _⟩ => abs_any _ x k w h (by omega)) (fun x1 => ?_)
  refine wNat hU (fun w b ⟨_, _, h⟩ => abs_any _ y j w h (by omega)) (fun x2 => ?_)
  refine wNat hU (fun w b ⟨h2, h1, _⟩ => gcd_any _ _ x.natAbs y.natAbs (max k j) w (h1.mono (by omega)) (h2.mono (by omega)) (by omega)) (fun x3 => ?_)
  refine wInt hU (fun w b ⟨h3, _⟩ => from_any false _ _ (max k j) w h3 (by omega)) (fun x4 y4 => ?_)
  exact wRet fun w b ⟨h4, _⟩ => ⟨_, rfl, h4, b⟩

/-- part: a by g, which goes into it. -/
theorem part_any (v u : Value) (x g : Int) (k j : Nat) (w : World) (h : IntB 146 w v x k) (h' : IntB 146 w u g j) (hk : k ≤ 1000000) (hj : j ≤ 1000000) (hg : 0 < g) (hd : g ∣ x) :
    Calls Tryz.prog 96 #[v, u] w fun e w' => ∃ v', e = .returned v' ∧ IntB 146 w' v' (x / g) k ∧ Below w.heap.size w w' := by
  obtain ⟨a, b, rfl, h⟩ := ibc h
  obtain ⟨c, d, rfl, h'⟩ := ibc h'
  refine go (fun w => IB w a b x k ∧ IB w c d g j) [[a, b], [c, d]] [some 2, some 2] (tr := (.em (.call 108 [.g [.c 1 0, .c 1 1]] [none]) (.cond (.c 2 0) (.ret (.v (.g [.c 0 0, .c 0 1]))) (.em (.call 136 [.g [.c 0 0, .c 0 1], .g [.c 1 0, .c 1 1]] [some 2, some 2, none]) (.ret (.v (.g [.c 3 0, .c 3 1]))))))) (by kernel_rfl) (by kernel_rfl) (by kernel_rfl) ((mI _ _ _ _).and (mI _ _ _ _)) ⟨h, h'⟩ ⟨(ipl h), (ipl h'), trivial⟩ ?_
  refine wVal (fun w b ⟨_, h⟩ => isOne_any _ g j w h (by omega)) rfl ?_
  refine wIf _ rfl (fun e => ?_) (fun e => ?_)
  · have e1 : g = 1 := by simpa using e
    exact wRet fun w b ⟨h, _⟩ => ⟨_, rfl, by subst e1; rw [Int.ediv_one]; exact h, b⟩
  · refine wCall (fun cs w => ∃ x1 y1 x2 y2, cs = [x1, y1, x2, y2, .bool true] ∧ IB w x1 y1 (x / g) k) (fun cs u w e ⟨x1, y1, x2, y2, hc, h⟩ => ⟨x1, y1, x2, y2, hc, h.ext e hU⟩) (fun w b ⟨h, h'⟩ => (idiv_of _ _ x g k j w h h' (by omega) (by omega) (divTells _ _ k j (by omega) (by omega) (by omega)) (by omega)).mono ?_) (fun cs => ?_)
    · rintro e w' ⟨v1, u1, rfl, h1, h2, hb⟩
      rw [divQ_pos hg] at h1
      obtain ⟨x1, y1, rfl, h1⟩ := ibc h1
      obtain ⟨x2, y2, rfl, h2⟩ := ibc h2
      have p1 := (ipl h1)
      have p2 := (ipl h2)
      refine ⟨[x1, y1, x2, y2, .bool true], rfl, ?_, ⟨x1, y1, x2, y2, rfl, h1.1, ediv_lt hg h.2 hd⟩, hb⟩
      simp only [List.all_cons, List.all_nil, Bool.and_true, Bool.and_eq_true] at p1 p2 ⊢
      exact ⟨p1.1, p1.2, p2.1, p2.2, rfl⟩
    · refine wRet fun w b ⟨⟨x1, y1, x2, y2, hc, h1⟩, _⟩ => ?_
      subst hc
      exact ⟨_, rfl, h1, b⟩

end Go.Proofs.YtfohgkabmdhhaaaGreatDoor
/- Contracts of rat's functions. -/
namespace Go.Proofs.YtfohgkabmdhhaaaGreatDoor
open Go.RowKit Cin

/-- A quotient in the program's memory: numerator and denominator in lowest terms, 1 below the line as 0. -/
def QB (w : World) (a b c d : Value) (q : Rat) (k : Nat) : Prop := IB w a b q.num k ∧ IB w c d (denZ q) k ∧ q.den < pw k
def RatB (w : World) (v : Value) (q : Rat) (k : Nat) : Prop := ∃ a b c d, v = .agg #[a, b, c, d] ∧ QB w a b c d q k
theorem mQ {D : TypeId → Bool} (a b c d : Value) (q : Rat) (k : Nat) (hD : D 146 = true := by rfl) : Mono D fun w => QB w a b c d q k := fun _ _ e ⟨h1, h2, h3⟩ => ⟨h1.ext e hD, h2.ext e hD, h3⟩
theorem qpl {w : World} {a b c d : Value} {q : Rat} {k : Nat} (h : QB w a b c d q k) : [a, b, c, d].all Value.oneCell' = true := by
  have p1 := ipl h.1
  have p2 := ipl h.2.1
  simp only [List.all_cons, List.all_nil, Bool.and_true, Bool.and_eq_true] at p1 p2 ⊢
  exact ⟨p1.1, p1.2, p2.1, p2.2⟩
theorem QB.mono {w : World} {a b c d : Value} {q : Rat} {k j : Nat} (h : QB w a b c d q k) (hj : k ≤ j) : QB w a b c d q j := ⟨h.1.mono hj, h.2.1.mono hj, lt_pw_mono h.2.2 hj⟩
theorem wRat {D Z : TypeId → Bool} {w0 : World} {Post : Ending → World → Prop} {F : World → Prop} {L : LC} {E : Env} {tr : Tr} {f : FuncId} {ar : List V1} {args : Array Value} {q : Rat} {m : Nat}
    (hc : ∀ w, Below w0.heap.size w0 w → F w → Calls Tryz.prog f args w fun e w' => ∃ v, e = .returned v ∧ RatB w' v q m ∧ Below w.heap.size w w')
    {E' : Value → Value → Value → Value → Env} (hk : ∀ a b c d, Wk Tryz.prog w0 D Z Post L (fun w => QB w a b c d q m ∧ F w) tr (E' a b c d)) (ha : (ar.map (V1.den [] E)).toArray = args := by rfl) (hE : ∀ a b c d, E ++ [[a, b, c, d]] = E' a b c d := by intros; (simp only [List.cons_append, List.nil_append]) <;> exact rfl) (hD : D 146 = true := by rfl) : Wk Tryz.prog w0 D Z Post L F (.em (.call f ar [some 4]) tr) E := by
  intro hm u hF w e b
  subst ha
  refine (hc w b (hm u w e hF)).mono ?_
  rintro e1 w' ⟨v, rfl, ⟨a, b, c, d, rfl, hv⟩, h4⟩
  exact ⟨[a, b, c, d], rfl, qpl hv, h4, hE _ _ _ _ ▸ hk _ _ _ _ ((mQ _ _ _ _ _ _ hD).and hm) w' ⟨hv, hm u w' (e.below h4) hF⟩⟩
theorem sgn_den (q : Rat) : (sgnZ (denZ q) == 0) = decide (q.den = 1) := by
  have := q.den_pos
  unfold sgnZ denZ
  by_cases h : q.den = 1
  · simp [h]
  · rw [if_neg h, if_neg (by omega), if_pos (by omega)]; simp [h]

/-- bottom: what stands below the line. -/
theorem bottom_any (v : Value) (q : Rat) (k : Nat) (w : World) (h : RatB w v q k) (hk : k ≤ 1000000) :
    Calls Tryz.prog 94 #[v] w fun e w' => ∃ v', e = .returned v' ∧ IntB 146 w' v' (q.den : Int) k ∧ Below w.heap.size w w' := by
  obtain ⟨a, b, c, d, rfl, h⟩ := h
  refine go (fun w => QB w a b c d q k) [[a, b, c, d]] [some 4] (tr := (.em (.call 103 [.g [.c 0 2, .c 0 3]] [none]) (.em (.pr (.binOp .eql 3 (.tmp 0) (.const (.int .i64 0)) 3) 4 [.s (.c 1 0), .s (.k (.int .i64 0))]) (.cond (.c 2 0) (.em (.call 104 [.s (.k (.int .i64 1))] [some 2]) (.ret (.v (.g [.c 3 0, .c 3 1])))) (.ret (.v (.g [.c 0 2, .c 0 3]))))))) (by kernel_rfl) (by kernel_rfl) (by kernel_rfl) (mQ _ _ _ _ _ _) h ⟨qpl h, trivial⟩ ?_
  refine wVal (fun w b h => sign_any _ (denZ q) k w h.2.1 (by omega)) rfl ?_
  refine wPr (prEq rfl rfl) rfl ?_
  refine wIf _ rfl (fun e => ?_) (fun e => ?_)
  · have e1 : q.den = 1 := by have := (sgn_den q).symm.trans e; simpa using this
    refine wInt hU (fun w b h => iof_any 1 w (by decide) (by decide)) (fun x1 y1 => ?_)
    exact wRet fun w b ⟨h1, h⟩ => ⟨_, rfl, ⟨by rw [e1]; exact h1.1, by have := h.2.2; omega⟩, b⟩
  · have e1 : ¬ q.den = 1 := by have := (sgn_den q).symm.trans e; simpa using this
    refine wRet fun w b h => ⟨_, rfl, ?_, b⟩
    have h2 := h.2.1
    unfold denZ at h2
    rw [if_neg e1] at h2
    exact h2

/-- lowest: n by d in lowest terms. -/
theorem lowest_any (v u : Value) (n d : Int) (q : Rat) (k : Nat) (w : World) (h : IntB 146 w v n k) (h' : IntB 146 w u d k) (hk : k ≤ 1000000) (hn : q.num = n) (hd : (q.den : Int) = d) :
    Calls Tryz.prog 99 #[v, u] w fun e w' => ∃ v', e = .returned v' ∧ RatB w' v' q k ∧ Below w.heap.size w w' := by
  obtain ⟨a, b, rfl, h⟩ := ibc h
  obtain ⟨a', b', rfl, h'⟩ := ibc h'
  subst hn hd
  refine go (fun w => IB w a b q.num k ∧ IB w a' b' q.den k) [[a, b], [a', b']] [some 2, some 2] (tr := (.em (.call 108 [.g [.c 1 0, .c 1 1]] [none]) (.cond (.c 2 0) (.ret (.v (.g [.c 0 0, .c 0 1, .k (.bool false), .k (.slice none 0 0)]))) (.ret (.v (.g [.c 0 0, .c 0 1, .c 1 0, .c 1 1])))))) (by kernel_rfl) (by kernel_rfl) (by kernel_rfl) ((mI _ _ _ _).and (mI _ _ _ _)) ⟨h, h'⟩ ⟨ipl h, ipl h', trivial⟩ ?_
  refine wVal (fun w b ⟨_, h⟩ => isOne_any _ _ k w h (by omega)) rfl ?_
  refine wIf _ rfl (fun e => ?_) (fun e => ?_)
  · have e1 : q.den = 1 := by have : (q.den : Int) = 1 := by simpa using e
                              omega
    refine wRet fun w b ⟨h, h2⟩ => ⟨_, rfl, ⟨_, _, _, _, rfl, h, ?_, by have := h2.2; omega⟩, b⟩
    show IntB _ _ _ (denZ q) k
    unfold denZ
    rw [if_pos e1]; exact IntB.zero _ _ _
  · have e1 : ¬ q.den = 1 := by have : ¬ (q.den : Int) = 1 := by simpa using e
                                omega
    refine wRet fun w b ⟨h, h2⟩ => ⟨_, rfl, ⟨_, _, _, _, rfl, h, ?_, by have := h2.2; omega⟩, b⟩
    show IntB _ _ _ (denZ q) k
    unfold denZ
    rw [if_neg e1]; exact h2

/-- Num, Den, Sign. -/
theorem qnum_any (v : Value) (q : Rat) (k : Nat) (w : World) (h : RatB w v q k) (hk : k ≤ 1000000) :
    Calls Tryz.prog 149 #[v] w fun e w' => ∃ v', e = .returned v' ∧ IntB 146 w' v' q.num k ∧ Below w.heap.size w w' := by
  obtain ⟨a, b, c, d, rfl, h⟩ := h
  refine go (fun w => QB w a b c d q k) [[a, b, c, d]] [some 4] (tr := (.em (.call 119 [.g [.c 0 0, .c 0 1]] [some 2]) (.ret (.v (.g [.c 1 0, .c 1 1]))))) (by kernel_rfl) (by kernel_rfl) (by kernel_rfl) (mQ _ _ _ _ _ _) h ⟨qpl h, trivial⟩ ?_
  refine wInt hU (fun w b h => qfresh_any _ q.num k w h.1 (by omega)) (fun x1 y1 => ?_)
  exact wRet fun w b ⟨h1, _⟩ => ⟨_, rfl, h1, b⟩

theorem qden_any (v : Value) (q : Rat) (k : Nat) (w : World) (h : RatB w v q k) (hk : k ≤ 1000000) :
    Calls Tryz.prog 150 #[v] w fun e w' => ∃ v', e = .returned v' ∧ IntB 146 w' v' (q.den : Int) k ∧ Below w.heap.size w w' := by
  obtain ⟨a, b, c, d, rfl, h⟩ := h
  refine go (fun w => QB w a b c d q k) [[a, b, c, d]] [some 4] (tr := (.em (.call 94 [.g [.c 0 0, .c 0 1, .c 0 2, .c 0 3]] [some 2]) (.em (.call 119 [.g [.c 1 0, .c 1 1]] [some 2]) (.ret (.v (.g [.c 2 0, .c 2 1])))))) (by kernel_rfl) (by kernel_rfl) (by kernel_rfl) (mQ _ _ _ _ _ _) h ⟨qpl h, trivial⟩ ?_
  refine wInt hU (fun w b h => bottom_any _ q k w ⟨_, _, _, _, rfl, h⟩ hk) (fun x1 y1 => ?_)
  refine wInt hU (fun w b ⟨h1, _⟩ => qfresh_any _ _ k w h1 (by omega)) (fun x2 y2 => ?_)
  exact wRet fun w b ⟨h1, _⟩ => ⟨_, rfl, h1, b⟩

theorem qsign_any (v : Value) (q : Rat) (k : Nat) (w : World) (h : RatB w v q k) (hk : k ≤ 1000000) :
    Calls Tryz.prog 61 #[v] w fun e w' => e = .returned (.int .i64 (sgnZ q.num)) ∧ Below w.heap.size w w' := by
  obtain ⟨a, b, c, d, rfl, h⟩ := h
  refine go (fun w => QB w a b c d q k) [[a, b, c, d]] [some 4] (tr := (.em (.call 103 [.g [.c 0 0, .c 0 1]] [none]) (.ret (.v (.s (.c 1 0)))))) (by kernel_rfl) (by kernel_rfl) (by kernel_rfl) (mQ _ _ _ _ _ _) h ⟨qpl h, trivial⟩ ?_
  refine wVal (fun w b h => sign_any _ _ k w h.1 (by omega)) rfl ?_
  exact wRet fun w b _ => ⟨rfl, b⟩

/-- Of: a word. -/
theorem qof_any (z : Int) (w : World) (h0 : -9223372036854775808 ≤ z) (h1 : z < 9223372036854775808) :
    Calls Tryz.prog 62 #[.int .i64 z] w fun e w' => ∃ v', e = .returned v' ∧ RatB w' v' (z : Rat) 2 ∧ Below w.heap.size w w' := by
  refine go (fun _ => True) [[.int .i64 z]] [none] (tr := (.em (.call 104 [.s (.c 0 0)] [some 2]) (.ret (.v (.g [.c 1 0, .c 1 1, .k (.bool false), .k (.slice none 0 0)]))))) (by kernel_rfl) (by kernel_rfl) (by kernel_rfl) Mono.true trivial ⟨rfl, trivial⟩ ?_
  refine wInt hU (fun w b _ => iof_any z w h0 h1) (fun x1 y1 => ?_)
  refine wRet fun w b ⟨h1, _⟩ => ⟨_, rfl, ⟨_, _, _, _, rfl, h1, ?_, by show 1 < pw 2; decide⟩, b⟩
  exact IntB.zero _ _ _

/-- Neg: the sign turned. -/
theorem qneg_any (v : Value) (q : Rat) (k : Nat) (w : World) (h : RatB w v q k) (hk : k ≤ 1000000) :
    Calls Tryz.prog 79 #[v] w fun e w' => ∃ v', e = .returned v' ∧ RatB w' v' (-q) k ∧ Below w.heap.size w w' := by
  obtain ⟨a, b, c, d, rfl, h⟩ := h
  refine go (fun w => QB w a b c d q k) [[a, b, c, d]] [some 4] (tr := (.em (.call 100 [.g [.c 0 0, .c 0 1]] [some 2]) (.em (.call 119 [.g [.c 0 2, .c 0 3]] [some 2]) (.ret (.v (.g [.c 1 0, .c 1 1, .c 2 0, .c 2 1])))))) (by kernel_rfl) (by kernel_rfl) (by kernel_rfl) (mQ _ _ _ _ _ _) h ⟨qpl h, trivial⟩ ?_
  refine wInt hU (fun w b h => neg_any _ _ k w h.1 (by omega)) (fun x1 y1 => ?_)
  refine wInt hU (fun w b ⟨_, h⟩ => qfresh_any _ _ k w h.2.1 (by omega)) (fun x2 y2 => ?_)
  exact wRet fun w b ⟨h2, h1, h⟩ => ⟨_, rfl, ⟨_, _, _, _, rfl, h1, h2, h.2.2⟩, b⟩

/-- Cmp: -1, 0, 1. -/
theorem qcmp_any (v u : Value) (x y : Rat) (k j : Nat) (w : World) (h : RatB w v x k) (h' : RatB w u y j) (hk : k ≤ 1000000) (hj : j ≤ 1000000) :
    Calls Tryz.prog 60 #[v, u] w fun e w' => e = .returned (.int .i64 (cmpQ x y)) ∧ Below w.heap.size w w' := by
  obtain ⟨a, b, c, d, rfl, h⟩ := h
  obtain ⟨a', b', c', d', rfl, h'⟩ := h'
  refine go (fun w => QB w a b c d x k ∧ QB w a' b' c' d' y j) [[a, b, c, d], [a', b', c', d']] [some 4, some 4] (tr := (.em (.call 94 [.g [.c 1 0, .c 1 1, .c 1 2, .c 1 3]] [some 2]) (.em (.call 98 [.g [.c 0 0, .c 0 1], .g [.c 2 0, .c 2 1]] [some 2]) (.em (.call 94 [.g [.c 0 0, .c 0 1, .c 0 2, .c 0 3]] [some 2]) (.em (.call 98 [.g [.c 1 0, .c 1 1], .g [.c 4 0, .c 4 1]] [some 2]) (.em (.call 102 [.g [.c 3 0, .c 3 1], .g [.c 5 0, .c 5 1]] [none]) (.ret (.v (.s (.c 6 0)))))))))) (by kernel_rfl) (by kernel_rfl) (by kernel_rfl) ((mQ _ _ _ _ _ _).and (mQ _ _ _ _ _ _)) ⟨h, h'⟩ ⟨qpl h, qpl h', trivial⟩ ?_
  refine wInt hU (fun w b ⟨_, h'⟩ => bottom_any _ y j w ⟨_, _, _, _, rfl, h'⟩ hj) (fun x1 y1 => ?_)
  refine wInt hU (fun w b ⟨h1, h, _⟩ => imul_any _ _ _ _ k j w h.1 h1 (by omega) (by omega)) (fun x2 y2 => ?_)
  refine wInt hU (fun w b ⟨_, _, h, _⟩ => bottom_any _ x k w ⟨_, _, _, _, rfl, h⟩ hk) (fun x3 y3 => ?_)
  refine wInt hU (fun w b ⟨h3, _, _, _, h'⟩ => imul_any _ _ _ _ j k w h'.1 h3 (by omega) (by omega)) (fun x4 y4 => ?_)
  refine wVal (fun w b ⟨h4, _, h2, _⟩ => icmp_any _ _ _ _ (k + j) (j + k) w h2 h4 (by omega) (by omega)) rfl ?_
  exact wRet fun w b _ => ⟨by rw [← cmpQ_of]; rfl, b⟩

theorem sum_lt {x y z u : Int} {k j : Nat} (hx : x.natAbs < pw k) (hy : y.natAbs < pw j) (hz : z.natAbs < pw j) (hu : u.natAbs < pw k) : (x * y + z * u).natAbs < pw (k + j + 1) := by
  have h1 := mul_bound hx hy
  have h2 := mul_bound hz hu
  rw [Nat.add_comm j k] at h2
  have h3 : pw (k + j) + pw (k + j) ≤ pw (k + j + 1) := by rw [pw_succ]; omega
  omega

set_option maxHeartbeats 2000000 in
/-- Add: both together. -/
theorem qadd_any (v u : Value) (x y : Rat) (k j : Nat) (w : World) (h : RatB w v x k) (h' : RatB w u y j) (hk : k ≤ 200000) (hj : j ≤ 200000) :
    Calls Tryz.prog 56 #[v, u] w fun e w' => ∃ v', e = .returned v' ∧ RatB w' v' (x + y) (k + j + 1) ∧ Below w.heap.size w w' := by
  obtain ⟨a, b, c, d, rfl, h⟩ := h
  obtain ⟨a', b', c', d', rfl, h'⟩ := h'
  have hkb : x.num.natAbs < pw k := h.1.2
  have hjb : y.num.natAbs < pw j := h'.1.2
  have hkd : x.den < pw k := h.2.2
  have hjd : y.den < pw j := h'.2.2
  have hxp := x.den_pos
  have hyp := y.den_pos
  generalize hg : Nat.gcd x.den y.den = g
  have hgx : g ∣ x.den := by rw [← hg]; exact Nat.gcd_dvd_left _ _
  have hgy : g ∣ y.den := by rw [← hg]; exact Nat.gcd_dvd_right _ _
  have hgp : 0 < g := by rw [← hg]; exact Nat.gcd_pos_of_pos_left _ hxp
  generalize hs : x.num * ((y.den / g : Nat) : Int) + y.num * ((x.den / g : Nat) : Int) = s
  generalize hh : Nat.gcd s.natAbs g = m
  have hmg : m ∣ g := by rw [← hh]; exact Nat.gcd_dvd_right _ _
  have hms : (m : Int) ∣ s := by rw [← hh]; exact Int.ofNat_dvd_left.2 (Nat.gcd_dvd_left _ _)
  have hmp : 0 < m := by rw [← hh]; exact Nat.gcd_pos_of_pos_right _ hgp
  obtain ⟨hnum, hden⟩ := add_parts x y hg.symm rfl hs.symm hh.symm rfl
  have hxg : x.den / g ≤ x.den := Nat.div_le_self _ _
  have hyg : y.den / g ≤ y.den := Nat.div_le_self _ _
  have hsb : s.natAbs < pw (k + j + 1) := by rw [← hs]; exact sum_lt hkb (by rw [Int.natAbs_natCast]; omega) hjb (by rw [Int.natAbs_natCast]; omega)
  refine go (fun w => QB w a b c d x k ∧ QB w a' b' c' d' y j) [[a, b, c, d], [a', b', c', d']] [some 4, some 4] (tr := (.em (.call 94 [.g [.c 0 0, .c 0 1, .c 0 2, .c 0 3]] [some 2]) (.em (.call 94 [.g [.c 1 0, .c 1 1, .c 1 2, .c 1 3]] [some 2]) (.em (.call 95 [.g [.c 2 0, .c 2 1], .g [.c 3 0, .c 3 1]] [some 2]) (.em (.call 96 [.g [.c 2 0, .c 2 1], .g [.c 4 0, .c 4 1]] [some 2]) (.em (.call 96 [.g [.c 3 0, .c 3 1], .g [.c 4 0, .c 4 1]] [some 2]) (.em (.call 98 [.g [.c 0 0, .c 0 1], .g [.c 6 0, .c 6 1]] [some 2]) (.em (.call 98 [.g [.c 1 0, .c 1 1], .g [.c 5 0, .c 5 1]] [some 2]) (.em (.call 97 [.g [.c 7 0, .c 7 1], .g [.c 8 0, .c 8 1]] [some 2]) (.em (.call 95 [.g [.c 9 0, .c 9 1], .g [.c 4 0, .c 4 1]] [some 2]) (.em (.call 96 [.g [.c 9 0, .c 9 1], .g [.c 10 0, .c 10 1]] [some 2]) (.em (.call 96 [.g [.c 3 0, .c 3 1], .g [.c 10 0, .c 10 1]] [some 2]) (.em (.call 98 [.g [.c 5 0, .c 5 1], .g [.c 12 0, .c 12 1]] [some 2]) (.em (.call 99 [.g [.c 11 0, .c 11 1], .g [.c 13 0, .c 13 1]] [some 4]) (.ret (.v (.g [.c 14 0, .c 14 1, .c 14 2, .c 14 3]))))))))))))))))) (by kernel_rfl) (by kernel_rfl) (by kernel_rfl) ((mQ _ _ _ _ _ _).and (mQ _ _ _ _ _ _)) ⟨h, h'⟩ ⟨qpl h, qpl h', trivial⟩ ?_
  refine wInt hU (fun w b ⟨h, _⟩ => bottom_any _ x k w ⟨_, _, _, _, rfl, h⟩ (by omega)) (fun x1 y1 => ?_)
  refine wInt hU (fun w b ⟨_, _, h'⟩ => bottom_any _ y j w ⟨_, _, _, _, rfl, h'⟩ (by omega)) (fun x2 y2 => ?_)
  refine wInt hU (z := (g : Int)) (fun w b ⟨h2, h1, _⟩ => by rw [← hg]; exact qgcd_any _ _ _ _ k j w h1 h2 (by omega) (by omega)) (fun x3 y3 => ?_)
  refine wInt hU (z := ((x.den / g : Nat) : Int)) (fun w b ⟨h3, _, h1, _⟩ => part_any _ _ _ _ k (max k j) w h1 h3 (by omega) (by omega) (by omega) (Int.ofNat_dvd.2 hgx)) (fun x4 y4 => ?_)
  refine wInt hU (z := ((y.den / g : Nat) : Int)) (fun w b ⟨_, h3, h2, _⟩ => part_any _ _ _ _ j (max k j) w h2 h3 (by omega) (by omega) (by omega) (Int.ofNat_dvd.2 hgy)) (fun x5 y5 => ?_)
  refine wInt hU (fun w b ⟨h5, _, _, _, _, h, _⟩ => imul_any _ _ _ _ k j w h.1 h5 (by omega) (by omega)) (fun x6 y6 => ?_)
  refine wInt hU (fun w b ⟨_, _, h4, _, _, _, _, h'⟩ => imul_any _ _ _ _ j k w h'.1 h4 (by omega) (by omega)) (fun x7 y7 => ?_)
  refine wInt hU (z := s) (fun w b ⟨h7, h6, _⟩ => by rw [← hs]; exact iadd_any _ _ _ _ (k + j) (j + k) w h6 h7 (by omega) (by omega)) (fun x8 y8 => ?_)
  refine wInt hU (z := (m : Int)) (fun w b ⟨h8, _, _, _, _, h3, _⟩ => by rw [← hh]; exact qgcd_any _ _ _ _ _ (max k j) w h8 h3 (by omega) (by omega)) (fun x9 y9 => ?_)
  refine wInt hU (z := s / (m : Int)) (fun w b ⟨h9, h8, _⟩ => part_any _ _ _ _ _ _ w h8 h9 (by omega) (by omega) (by omega) hms) (fun x10 y10 => ?_)
  refine wInt hU (z := ((y.den / m : Nat) : Int)) (fun w b ⟨_, h9, _, _, _, _, _, _, h2, _⟩ => part_any _ _ _ _ j _ w h2 h9 (by omega) (by omega) (by omega) (Int.ofNat_dvd.2 (Nat.dvd_trans hmg hgy))) (fun x11 y11 => ?_)
  refine wInt hU (fun w b ⟨h11, _, _, _, _, _, _, h4, _⟩ => imul_any _ _ _ _ k j w h4 h11 (by omega) (by omega)) (fun x12 y12 => ?_)
  refine wRat (q := x + y) (m := k + j + 1) (fun w b ⟨h12, _, h10, _⟩ => lowest_any _ _ (s / (m : Int)) _ (x + y) (k + j + 1) w ⟨h10.1, ediv_lt (by omega) hsb hms⟩ (h12.mono (by omega)) (by omega) hnum (by rw [hden, Int.natCast_mul])) (fun a b c d => ?_)
  exact wRet fun w b ⟨h, _⟩ => ⟨_, rfl, ⟨_, _, _, _, rfl, h⟩, b⟩

theorem denZ_neg (q : Rat) : denZ (-q) = denZ q := rfl

/-- Sub: the one less the other. -/
theorem qsub_any (v u : Value) (x y : Rat) (k j : Nat) (w : World) (h : RatB w v x k) (h' : RatB w u y j) (hk : k ≤ 200000) (hj : j ≤ 200000) :
    Calls Tryz.prog 57 #[v, u] w fun e w' => ∃ v', e = .returned v' ∧ RatB w' v' (x - y) (k + j + 1) ∧ Below w.heap.size w w' := by
  obtain ⟨a, b, c, d, rfl, h⟩ := h
  obtain ⟨a', b', c', d', rfl, h'⟩ := h'
  refine go (fun w => QB w a b c d x k ∧ QB w a' b' c' d' y j) [[a, b, c, d], [a', b', c', d']] [some 4, some 4] (tr := (.em (.call 100 [.g [.c 1 0, .c 1 1]] [some 2]) (.em (.call 56 [.g [.c 0 0, .c 0 1, .c 0 2, .c 0 3], .g [.c 2 0, .c 2 1, .c 1 2, .c 1 3]] [some 4]) (.ret (.v (.g [.c 3 0, .c 3 1, .c 3 2, .c 3 3])))))) (by kernel_rfl) (by kernel_rfl) (by kernel_rfl) ((mQ _ _ _ _ _ _).and (mQ _ _ _ _ _ _)) ⟨h, h'⟩ ⟨qpl h, qpl h', trivial⟩ ?_
  refine wInt hU (fun w b ⟨_, h'⟩ => neg_any _ _ j w h'.1 (by omega)) (fun x1 y1 => ?_)
  refine wRat (q := x - y) (fun w b ⟨h1, h, h'⟩ => by rw [Rat.sub_eq_add_neg]; exact qadd_any _ _ x (-y) k j w ⟨_, _, _, _, rfl, h⟩ ⟨_, _, _, _, rfl, h1, h'.2.1, h'.2.2⟩ hk hj) (fun a b c d => ?_)
  exact wRet fun w b ⟨h, _⟩ => ⟨_, rfl, ⟨_, _, _, _, rfl, h⟩, b⟩

set_option maxHeartbeats 2000000 in
/-- Mul: the product. -/
theorem qmul_any (v u : Value) (x y : Rat) (k j : Nat) (w : World) (h : RatB w v x k) (h' : RatB w u y j) (hk : k ≤ 200000) (hj : j ≤ 200000) :
    Calls Tryz.prog 58 #[v, u] w fun e w' => ∃ v', e = .returned v' ∧ RatB w' v' (x * y) (k + j) ∧ Below w.heap.size w w' := by
  obtain ⟨a, b, c, d, rfl, h⟩ := h
  obtain ⟨a', b', c', d', rfl, h'⟩ := h'
  have hxp := x.den_pos
  have hyp := y.den_pos
  obtain ⟨hnum, hden⟩ := mul_parts x y
  generalize hg : Nat.gcd x.num.natAbs y.den = g at *
  generalize hm : Nat.gcd y.num.natAbs x.den = m at *
  have hgx : (g : Int) ∣ x.num := by rw [← hg]; exact Int.ofNat_dvd_left.2 (Nat.gcd_dvd_left _ _)
  have hgy : g ∣ y.den := by rw [← hg]; exact Nat.gcd_dvd_right _ _
  have hmy : (m : Int) ∣ y.num := by rw [← hm]; exact Int.ofNat_dvd_left.2 (Nat.gcd_dvd_left _ _)
  have hmx : m ∣ x.den := by rw [← hm]; exact Nat.gcd_dvd_right _ _
  have hgp : 0 < g := by rw [← hg]; exact Nat.gcd_pos_of_pos_right _ hyp
  have hmp : 0 < m := by rw [← hm]; exact Nat.gcd_pos_of_pos_right _ hxp
  refine go (fun w => QB w a b c d x k ∧ QB w a' b' c' d' y j) [[a, b, c, d], [a', b', c', d']] [some 4, some 4] (tr := (.em (.call 94 [.g [.c 0 0, .c 0 1, .c 0 2, .c 0 3]] [some 2]) (.em (.call 94 [.g [.c 1 0, .c 1 1, .c 1 2, .c 1 3]] [some 2]) (.em (.call 95 [.g [.c 0 0, .c 0 1], .g [.c 3 0, .c 3 1]] [some 2]) (.em (.call 95 [.g [.c 1 0, .c 1 1], .g [.c 2 0, .c 2 1]] [some 2]) (.em (.call 96 [.g [.c 0 0, .c 0 1], .g [.c 4 0, .c 4 1]] [some 2]) (.em (.call 96 [.g [.c 1 0, .c 1 1], .g [.c 5 0, .c 5 1]] [some 2]) (.em (.call 98 [.g [.c 6 0, .c 6 1], .g [.c 7 0, .c 7 1]] [some 2]) (.em (.call 96 [.g [.c 2 0, .c 2 1], .g [.c 5 0, .c 5 1]] [some 2]) (.em (.call 96 [.g [.c 3 0, .c 3 1], .g [.c 4 0, .c 4 1]] [some 2]) (.em (.call 98 [.g [.c 9 0, .c 9 1], .g [.c 10 0, .c 10 1]] [some 2]) (.em (.call 99 [.g [.c 8 0, .c 8 1], .g [.c 11 0, .c 11 1]] [some 4]) (.ret (.v (.g [.c 12 0, .c 12 1, .c 12 2, .c 12 3]))))))))))))))) (by kernel_rfl) (by kernel_rfl) (by kernel_rfl) ((mQ _ _ _ _ _ _).and (mQ _ _ _ _ _ _)) ⟨h, h'⟩ ⟨qpl h, qpl h', trivial⟩ ?_
  refine wInt hU (fun w b ⟨h, _⟩ => bottom_any _ x k w ⟨_, _, _, _, rfl, h⟩ (by omega)) (fun x1 y1 => ?_)
  refine wInt hU (fun w b ⟨_, _, h'⟩ => bottom_any _ y j w ⟨_, _, _, _, rfl, h'⟩ (by omega)) (fun x2 y2 => ?_)
  refine wInt hU (z := (g : Int)) (fun w b ⟨h2, _, h, _⟩ => by rw [← hg]; exact qgcd_any _ _ _ _ k j w h.1 h2 (by omega) (by omega)) (fun x3 y3 => ?_)
  refine wInt hU (z := (m : Int)) (fun w b ⟨_, _, h1, _, h'⟩ => by rw [← hm]; exact qgcd_any _ _ _ _ j k w h'.1 h1 (by omega) (by omega)) (fun x4 y4 => ?_)
  refine wInt hU (fun w b ⟨_, h3, _, _, h, _⟩ => part_any _ _ _ _ k _ w h.1 h3 (by omega) (by omega) (by omega) hgx) (fun x5 y5 => ?_)
  refine wInt hU (fun w b ⟨_, h4, _, _, _, _, h'⟩ => part_any _ _ _ _ j _ w h'.1 h4 (by omega) (by omega) (by omega) hmy) (fun x6 y6 => ?_)
  refine wInt hU (fun w b ⟨h6, h5, _⟩ => imul_any _ _ _ _ k j w h5 h6 (by omega) (by omega)) (fun x7 y7 => ?_)
  refine wInt hU (z := ((x.den / m : Nat) : Int)) (fun w b ⟨_, _, _, h4, _, _, h1, _⟩ => part_any _ _ _ _ k _ w h1 h4 (by omega) (by omega) (by omega) (Int.ofNat_dvd.2 hmx)) (fun x8 y8 => ?_)
  refine wInt hU (z := ((y.den / g : Nat) : Int)) (fun w b ⟨_, _, _, _, _, h3, h2, _⟩ => part_any _ _ _ _ j _ w h2 h3 (by omega) (by omega) (by omega) (Int.ofNat_dvd.2 hgy)) (fun x9 y9 => ?_)
  refine wInt hU (fun w b ⟨h9, h8, _⟩ => imul_any _ _ _ _ k j w h8 h9 (by omega) (by omega)) (fun x10 y10 => ?_)
  refine wRat (q := x * y) (m := k + j) (fun w b ⟨h10, _, _, h7, _⟩ => lowest_any _ _ _ _ (x * y) (k + j) w h7 h10 (by omega) hnum (by rw [hden, Int.natCast_mul])) (fun a b c d => ?_)
  exact wRet fun w b ⟨h, _⟩ => ⟨_, rfl, ⟨_, _, _, _, rfl, h⟩, b⟩

end Go.Proofs.YtfohgkabmdhhaaaGreatDoor
/- Contracts of rat's New, Div, Text; of the document's quotients. -/
namespace Go.Proofs.YtfohgkabmdhhaaaGreatDoor
open Go.RowKit Cin

/-- n by d. -/
def nq (n d : Int) : Rat := mkRat (if d < 0 then -n else n) d.natAbs
theorem sgn_zero (z : Int) : (sgnZ z == 0) = decide (z = 0) := by
  unfold sgnZ
  by_cases h : z < 0
  · rw [if_pos h]; simp; omega
  · rw [if_neg h]
    by_cases h2 : 0 < z
    · rw [if_pos h2]; simp; omega
    · rw [if_neg h2]; simp; omega
theorem sgn_neg (z : Int) : decide (sgnZ z < 0) = decide (z < 0) := by
  unfold sgnZ
  by_cases h : z < 0
  · rw [if_pos h]; simp [h]
  · rw [if_neg h]
    by_cases h2 : 0 < z
    · rw [if_pos h2]; simp [h]
    · rw [if_neg h2]; simp [h]
theorem nq_parts (n d : Int) (hd : d ≠ 0) {n' d' : Int} {g : Nat} (hn : n' = if d < 0 then -n else n) (hdd : d' = (d.natAbs : Int)) (hg : g = Nat.gcd n'.natAbs d'.natAbs) : (nq n d).num = n' / (g : Int) ∧ ((nq n d).den : Int) = d' / (g : Int) ∧ 0 < g ∧ (g : Int) ∣ n' ∧ (g : Int) ∣ d' := by
  have h := new_parts n' d.natAbs (by omega)
  subst hdd
  rw [Int.natAbs_natCast] at hg
  rw [← hg] at h
  unfold nq
  rw [← hn]
  refine ⟨h.1, by rw [h.2]; rfl, ?_, ?_, ?_⟩
  · rw [hg]; exact Nat.gcd_pos_of_pos_right _ (by omega)
  · rw [hg]; exact Int.ofNat_dvd_left.2 (Nat.gcd_dvd_left _ _)
  · rw [hg]; exact Int.ofNat_dvd.2 (Nat.gcd_dvd_right _ _)

set_option maxHeartbeats 1000000 in
/-- New: n by d. -/
theorem qnew_any (v u : Value) (n d : Int) (k : Nat) (w : World) (h : IntB 146 w v n k) (h' : IntB 146 w u d k) (hk : k ≤ 200000) (hd : d ≠ 0) :
    Calls Tryz.prog 124 #[v, u] w fun e w' => ∃ v', e = .returned (.tuple #[v', .bool true]) ∧ RatB w' v' (nq n d) k ∧ Below w.heap.size w w' := by
  obtain ⟨a, b, rfl, h⟩ := ibc h
  obtain ⟨a', b', rfl, h'⟩ := ibc h'
  refine go (fun w => IB w a b n k ∧ IB w a' b' d k) [[a, b], [a', b']] [some 2, some 2] (tr := (.em (.call 103 [.g [.c 1 0, .c 1 1]] [none]) (.em (.pr (.binOp .eql 3 (.tmp 0) (.const (.int .i64 0)) 3) 4 [.s (.c 2 0), .s (.k (.int .i64 0))]) (.cond (.c 3 0) (.ret (.t [.g [.k (.bool false), .k (.slice none 0 0), .k (.bool false), .k (.slice none 0 0)], .s (.k (.bool false))])) (.em (.call 103 [.g [.c 1 0, .c 1 1]] [none]) (.em (.pr (.binOp .lss 3 (.tmp 0) (.const (.int .i64 0)) 3) 4 [.s (.c 4 0), .s (.k (.int .i64 0))]) (.cond (.c 5 0) (.em (.call 100 [.g [.c 0 0, .c 0 1]] [some 2]) (.em (.call 100 [.g [.c 1 0, .c 1 1]] [some 2]) (.em (.call 95 [.g [.c 6 0, .c 6 1], .g [.c 7 0, .c 7 1]] [some 2]) (.em (.call 96 [.g [.c 6 0, .c 6 1], .g [.c 8 0, .c 8 1]] [some 2]) (.em (.call 119 [.g [.c 9 0, .c 9 1]] [some 2]) (.em (.call 96 [.g [.c 7 0, .c 7 1], .g [.c 8 0, .c 8 1]] [some 2]) (.em (.call 119 [.g [.c 11 0, .c 11 1]] [some 2]) (.em (.call 99 [.g [.c 10 0, .c 10 1], .g [.c 12 0, .c 12 1]] [some 4]) (.ret (.t [.g [.c 13 0, .c 13 1, .c 13 2, .c 13 3], .s (.k (.bool true))])))))))))) (.em (.call 95 [.g [.c 0 0, .c 0 1], .g [.c 1 0, .c 1 1]] [some 2]) (.em (.call 96 [.g [.c 0 0, .c 0 1], .g [.c 6 0, .c 6 1]] [some 2]) (.em (.call 119 [.g [.c 7 0, .c 7 1]] [some 2]) (.em (.call 96 [.g [.c 1 0, .c 1 1], .g [.c 6 0, .c 6 1]] [some 2]) (.em (.call 119 [.g [.c 9 0, .c 9 1]] [some 2]) (.em (.call 99 [.g [.c 8 0, .c 8 1], .g [.c 10 0, .c 10 1]] [some 4]) (.ret (.t [.g [.c 11 0, .c 11 1, .c 11 2, .c 11 3], .s (.k (.bool true))]))))))))))))))) (by kernel_rfl) (by kernel_rfl) (by kernel_rfl) ((mI _ _ _ _).and (mI _ _ _ _)) ⟨h, h'⟩ ⟨ipl h, ipl h', trivial⟩ ?_
  refine wVal (fun w b ⟨_, h⟩ => sign_any _ d k w h (by omega)) rfl ?_
  refine wPr (prEq rfl rfl) rfl ?_
  refine wFalse (by show Value.bool (sgnZ d == 0) = _; rw [sgn_zero, decide_eq_false hd]) ?_
  refine wVal (fun w b ⟨_, h⟩ => sign_any _ d k w h (by omega)) rfl ?_
  refine wPr (prLt rfl rfl) rfl ?_
  refine wIf _ rfl (fun e => ?_) (fun e => ?_)
  · have e1 : d < 0 := by have := (sgn_neg d).symm.trans e; simpa using this
    generalize hg : Nat.gcd (-n).natAbs (-d).natAbs = g
    obtain ⟨hnum, hden, hgp, hgn, hgd⟩ := nq_parts n d hd (n' := -n) (d' := -d) (by rw [if_pos e1]) (by omega) hg.symm
    refine wInt hU (fun w b ⟨h, _⟩ => neg_any _ n k w h (by omega)) (fun x1 y1 => ?_)
    refine wInt hU (fun w b ⟨_, _, h⟩ => neg_any _ d k w h (by omega)) (fun x2 y2 => ?_)
    refine wInt hU (z := (g : Int)) (fun w b ⟨hd2, hn2, _⟩ => by rw [← hg]; exact qgcd_any _ _ _ _ k k w hn2 hd2 (by omega) (by omega)) (fun x3 y3 => ?_)
    refine wInt hU (fun w b ⟨h3, hd2, hn2, _⟩ => part_any _ _ _ _ k _ w hn2 h3 (by omega) (by omega) (by omega) hgn) (fun x4 y4 => ?_)
    refine wInt hU (fun w b ⟨h4, _⟩ => qfresh_any _ _ k w h4 (by omega)) (fun x5 y5 => ?_)
    refine wInt hU (fun w b ⟨_, _, h3, hd2, hn2, _⟩ => part_any _ _ _ _ k _ w hd2 h3 (by omega) (by omega) (by omega) hgd) (fun x6 y6 => ?_)
    refine wInt hU (fun w b ⟨h6, _⟩ => qfresh_any _ _ k w h6 (by omega)) (fun x7 y7 => ?_)
    refine wRat (fun w b ⟨h7, _, h5, _⟩ => lowest_any _ _ _ _ (nq n d) k w h5 h7 (by omega) hnum hden) (fun a b c d => ?_)
    exact wRet fun w b ⟨h, _⟩ => ⟨_, rfl, ⟨_, _, _, _, rfl, h⟩, b⟩
  · have e1 : ¬ d < 0 := by have := (sgn_neg d).symm.trans e; simpa using this
    generalize hg : Nat.gcd n.natAbs d.natAbs = g
    obtain ⟨hnum, hden, hgp, hgn, hgd⟩ := nq_parts n d hd (n' := n) (d' := d) (by rw [if_neg e1]) (by omega) hg.symm
    refine wInt hU (z := (g : Int)) (fun w b ⟨hn2, hd2⟩ => by rw [← hg]; exact qgcd_any _ _ _ _ k k w hn2 hd2 (by omega) (by omega)) (fun x3 y3 => ?_)
    refine wInt hU (fun w b ⟨h3, hn2, hd2⟩ => part_any _ _ _ _ k _ w hn2 h3 (by omega) (by omega) (by omega) hgn) (fun x4 y4 => ?_)
    refine wInt hU (fun w b ⟨h4, _⟩ => qfresh_any _ _ k w h4 (by omega)) (fun x5 y5 => ?_)
    refine wInt hU (fun w b ⟨_, _, h3, hn2, hd2⟩ => part_any _ _ _ _ k _ w hd2 h3 (by omega) (by omega) (by omega) hgd) (fun x6 y6 => ?_)
    refine wInt hU (fun w b ⟨h6, _⟩ => qfresh_any _ _ k w h6 (by omega)) (fun x7 y7 => ?_)
    refine wRat (fun w b ⟨h7, _, h5, _⟩ => lowest_any _ _ _ _ (nq n d) k w h5 h7 (by omega) hnum hden) (fun a b c d => ?_)
    exact wRet fun w b ⟨h, _⟩ => ⟨_, rfl, ⟨_, _, _, _, rfl, h⟩, b⟩

/-- New by 0. -/
theorem qnewZero_any (v u : Value) (n : Int) (k : Nat) (w : World) (h : IntB 146 w v n k) (h' : IntB 146 w u 0 k) (hk : k ≤ 200000) :
    Calls Tryz.prog 124 #[v, u] w fun e w' => e = .returned (.tuple #[.agg #[.bool false, .slice none 0 0, .bool false, .slice none 0 0], .bool false]) ∧ Below w.heap.size w w' := by
  obtain ⟨a, b, rfl, h⟩ := ibc h
  obtain ⟨a', b', rfl, h'⟩ := ibc h'
  refine go (fun w => IB w a b n k ∧ IB w a' b' 0 k) [[a, b], [a', b']] [some 2, some 2] (tr := (.em (.call 103 [.g [.c 1 0, .c 1 1]] [none]) (.em (.pr (.binOp .eql 3 (.tmp 0) (.const (.int .i64 0)) 3) 4 [.s (.c 2 0), .s (.k (.int .i64 0))]) (.cond (.c 3 0) (.ret (.t [.g [.k (.bool false), .k (.slice none 0 0), .k (.bool false), .k (.slice none 0 0)], .s (.k (.bool false))])) (.em (.call 103 [.g [.c 1 0, .c 1 1]] [none]) (.em (.pr (.binOp .lss 3 (.tmp 0) (.const (.int .i64 0)) 3) 4 [.s (.c 4 0), .s (.k (.int .i64 0))]) (.cond (.c 5 0) (.em (.call 100 [.g [.c 0 0, .c 0 1]] [some 2]) (.em (.call 100 [.g [.c 1 0, .c 1 1]] [some 2]) (.em (.call 95 [.g [.c 6 0, .c 6 1], .g [.c 7 0, .c 7 1]] [some 2]) (.em (.call 96 [.g [.c 6 0, .c 6 1], .g [.c 8 0, .c 8 1]] [some 2]) (.em (.call 119 [.g [.c 9 0, .c 9 1]] [some 2]) (.em (.call 96 [.g [.c 7 0, .c 7 1], .g [.c 8 0, .c 8 1]] [some 2]) (.em (.call 119 [.g [.c 11 0, .c 11 1]] [some 2]) (.em (.call 99 [.g [.c 10 0, .c 10 1], .g [.c 12 0, .c 12 1]] [some 4]) (.ret (.t [.g [.c 13 0, .c 13 1, .c 13 2, .c 13 3], .s (.k (.bool true))])))))))))) (.em (.call 95 [.g [.c 0 0, .c 0 1], .g [.c 1 0, .c 1 1]] [some 2]) (.em (.call 96 [.g [.c 0 0, .c 0 1], .g [.c 6 0, .c 6 1]] [some 2]) (.em (.call 119 [.g [.c 7 0, .c 7 1]] [some 2]) (.em (.call 96 [.g [.c 1 0, .c 1 1], .g [.c 6 0, .c 6 1]] [some 2]) (.em (.call 119 [.g [.c 9 0, .c 9 1]] [some 2]) (.em (.call 99 [.g [.c 8 0, .c 8 1], .g [.c 10 0, .c 10 1]] [some 4]) (.ret (.t [.g [.c 11 0, .c 11 1, .c 11 2, .c 11 3], .s (.k (.bool true))]))))))))))))))) (by kernel_rfl) (by kernel_rfl) (by kernel_rfl) ((mI _ _ _ _).and (mI _ _ _ _)) ⟨h, h'⟩ ⟨ipl h, ipl h', trivial⟩ ?_
  refine wVal (fun w b ⟨_, h⟩ => sign_any _ 0 k w h (by omega)) rfl ?_
  refine wPr (prEq rfl rfl) rfl ?_
  refine wTrue rfl ?_
  exact wRet fun w b _ => ⟨rfl, b⟩

theorem inv_neg {q : Rat} (h : q.num < 0) : (q⁻¹).num = -(q.den : Int) ∧ ((q⁻¹).den : Int) = -q.num := by
  have e : q⁻¹ = Rat.inv q := rfl
  rw [e]
  unfold Rat.inv
  rw [dif_pos h]
  exact ⟨rfl, by show ((q.num.natAbs : Nat) : Int) = _; omega⟩
theorem inv_pos {q : Rat} (h : 0 < q.num) : (q⁻¹).num = (q.den : Int) ∧ ((q⁻¹).den : Int) = q.num := by
  have e : q⁻¹ = Rat.inv q := rfl
  rw [e]
  unfold Rat.inv
  rw [dif_neg (by omega), dif_pos h]
  exact ⟨rfl, by show ((q.num.natAbs : Nat) : Int) = _; omega⟩

/-- inverse: 1 by it. -/
theorem qinv_any (v : Value) (q : Rat) (k : Nat) (w : World) (h : RatB w v q k) (hk : k ≤ 200000) (hq : q.num ≠ 0) :
    Calls Tryz.prog 122 #[v] w fun e w' => ∃ v', e = .returned v' ∧ RatB w' v' q⁻¹ k ∧ Below w.heap.size w w' := by
  obtain ⟨a, b, c, d, rfl, h⟩ := h
  refine go (fun w => QB w a b c d q k) [[a, b, c, d]] [some 4] (tr := (.em (.call 61 [.g [.c 0 0, .c 0 1, .c 0 2, .c 0 3]] [none]) (.em (.pr (.binOp .lss 3 (.tmp 0) (.const (.int .i64 0)) 3) 4 [.s (.c 1 0), .s (.k (.int .i64 0))]) (.cond (.c 2 0) (.em (.call 94 [.g [.c 0 0, .c 0 1, .c 0 2, .c 0 3]] [some 2]) (.em (.call 100 [.g [.c 3 0, .c 3 1]] [some 2]) (.em (.call 100 [.g [.c 0 0, .c 0 1]] [some 2]) (.em (.call 99 [.g [.c 4 0, .c 4 1], .g [.c 5 0, .c 5 1]] [some 4]) (.ret (.v (.g [.c 6 0, .c 6 1, .c 6 2, .c 6 3]))))))) (.em (.call 94 [.g [.c 0 0, .c 0 1, .c 0 2, .c 0 3]] [some 2]) (.em (.call 99 [.g [.c 3 0, .c 3 1], .g [.c 0 0, .c 0 1]] [some 4]) (.ret (.v (.g [.c 4 0, .c 4 1, .c 4 2, .c 4 3]))))))))) (by kernel_rfl) (by kernel_rfl) (by kernel_rfl) (mQ _ _ _ _ _ _) h ⟨qpl h, trivial⟩ ?_
  refine wVal (fun w b h => qsign_any _ q k w ⟨_, _, _, _, rfl, h⟩ (by omega)) rfl ?_
  refine wPr (prLt rfl rfl) rfl ?_
  refine wIf _ rfl (fun e => ?_) (fun e => ?_)
  · have e1 : q.num < 0 := by have := (sgn_neg q.num).symm.trans e; simpa using this
    obtain ⟨hn, hd⟩ := inv_neg e1
    refine wInt hU (fun w b h => bottom_any _ q k w ⟨_, _, _, _, rfl, h⟩ (by omega)) (fun x1 y1 => ?_)
    refine wInt hU (fun w b ⟨h1, _⟩ => neg_any _ _ k w h1 (by omega)) (fun x2 y2 => ?_)
    refine wInt hU (fun w b ⟨_, _, h⟩ => neg_any _ _ k w h.1 (by omega)) (fun x3 y3 => ?_)
    refine wRat (fun w b ⟨h3, h2, _⟩ => lowest_any _ _ _ _ q⁻¹ k w h2 h3 (by omega) hn hd) (fun a b c d => ?_)
    exact wRet fun w b ⟨h, _⟩ => ⟨_, rfl, ⟨_, _, _, _, rfl, h⟩, b⟩
  · have e1 : ¬ q.num < 0 := by have := (sgn_neg q.num).symm.trans e; simpa using this
    obtain ⟨hn, hd⟩ := inv_pos (q := q) (by omega)
    refine wInt hU (fun w b h => bottom_any _ q k w ⟨_, _, _, _, rfl, h⟩ (by omega)) (fun x1 y1 => ?_)
    refine wRat (fun w b ⟨h1, h⟩ => lowest_any _ _ _ _ q⁻¹ k w h1 h.1 (by omega) hn hd) (fun a b c d => ?_)
    exact wRet fun w b ⟨h, _⟩ => ⟨_, rfl, ⟨_, _, _, _, rfl, h⟩, b⟩

/-- Div: the one by the other. -/
theorem qdiv_any (v u : Value) (x y : Rat) (k j : Nat) (w : World) (h : RatB w v x k) (h' : RatB w u y j) (hk : k ≤ 200000) (hj : j ≤ 200000) (hy : y.num ≠ 0) :
    Calls Tryz.prog 83 #[v, u] w fun e w' => ∃ v', e = .returned (.tuple #[v', .bool true]) ∧ RatB w' v' (x / y) (k + j) ∧ Below w.heap.size w w' := by
  obtain ⟨a, b, c, d, rfl, h⟩ := h
  obtain ⟨a', b', c', d', rfl, h'⟩ := h'
  refine go (fun w => QB w a b c d x k ∧ QB w a' b' c' d' y j) [[a, b, c, d], [a', b', c', d']] [some 4, some 4] (tr := (.em (.call 61 [.g [.c 1 0, .c 1 1, .c 1 2, .c 1 3]] [none]) (.em (.pr (.binOp .eql 3 (.tmp 0) (.const (.int .i64 0)) 3) 4 [.s (.c 2 0), .s (.k (.int .i64 0))]) (.cond (.c 3 0) (.ret (.t [.g [.k (.bool false), .k (.slice none 0 0), .k (.bool false), .k (.slice none 0 0)], .s (.k (.bool false))])) (.em (.call 122 [.g [.c 1 0, .c 1 1, .c 1 2, .c 1 3]] [some 4]) (.em (.call 58 [.g [.c 0 0, .c 0 1, .c 0 2, .c 0 3], .g [.c 4 0, .c 4 1, .c 4 2, .c 4 3]] [some 4]) (.ret (.t [.g [.c 5 0, .c 5 1, .c 5 2, .c 5 3], .s (.k (.bool true))])))))))) (by kernel_rfl) (by kernel_rfl) (by kernel_rfl) ((mQ _ _ _ _ _ _).and (mQ _ _ _ _ _ _)) ⟨h, h'⟩ ⟨qpl h, qpl h', trivial⟩ ?_
  refine wVal (fun w b ⟨_, h⟩ => qsign_any _ y j w ⟨_, _, _, _, rfl, h⟩ (by omega)) rfl ?_
  refine wPr (prEq rfl rfl) rfl ?_
  refine wFalse (by show Value.bool (sgnZ y.num == 0) = _; rw [sgn_zero, decide_eq_false hy]) ?_
  refine wRat (fun w b ⟨_, h⟩ => qinv_any _ y j w ⟨_, _, _, _, rfl, h⟩ hj hy) (fun a b c d => ?_)
  refine wRat (fun w b ⟨h1, h, _⟩ => qmul_any _ _ x y⁻¹ k j w ⟨_, _, _, _, rfl, h⟩ ⟨_, _, _, _, rfl, h1⟩ hk hj) (fun a b c d => ?_)
  exact wRet fun w b ⟨h, _⟩ => ⟨_, rfl, ⟨_, _, _, _, rfl, by rw [Rat.div_def]; exact h⟩, b⟩

/-- Div by 0. -/
theorem qdivZero_any (v u : Value) (x y : Rat) (k j : Nat) (w : World) (h : RatB w v x k) (h' : RatB w u y j) (hj : j ≤ 200000) (hy : y.num = 0) :
    Calls Tryz.prog 83 #[v, u] w fun e w' => e = .returned (.tuple #[.agg #[.bool false, .slice none 0 0, .bool false, .slice none 0 0], .bool false]) ∧ Below w.heap.size w w' := by
  obtain ⟨a, b, c, d, rfl, h⟩ := h
  obtain ⟨a', b', c', d', rfl, h'⟩ := h'
  refine go (fun w => QB w a b c d x k ∧ QB w a' b' c' d' y j) [[a, b, c, d], [a', b', c', d']] [some 4, some 4] (tr := (.em (.call 61 [.g [.c 1 0, .c 1 1, .c 1 2, .c 1 3]] [none]) (.em (.pr (.binOp .eql 3 (.tmp 0) (.const (.int .i64 0)) 3) 4 [.s (.c 2 0), .s (.k (.int .i64 0))]) (.cond (.c 3 0) (.ret (.t [.g [.k (.bool false), .k (.slice none 0 0), .k (.bool false), .k (.slice none 0 0)], .s (.k (.bool false))])) (.em (.call 122 [.g [.c 1 0, .c 1 1, .c 1 2, .c 1 3]] [some 4]) (.em (.call 58 [.g [.c 0 0, .c 0 1, .c 0 2, .c 0 3], .g [.c 4 0, .c 4 1, .c 4 2, .c 4 3]] [some 4]) (.ret (.t [.g [.c 5 0, .c 5 1, .c 5 2, .c 5 3], .s (.k (.bool true))])))))))) (by kernel_rfl) (by kernel_rfl) (by kernel_rfl) ((mQ _ _ _ _ _ _).and (mQ _ _ _ _ _ _)) ⟨h, h'⟩ ⟨qpl h, qpl h', trivial⟩ ?_
  refine wVal (fun w b ⟨_, h⟩ => qsign_any _ y j w ⟨_, _, _, _, rfl, h⟩ (by omega)) rfl ?_
  refine wPr (prEq rfl rfl) rfl ?_
  refine wTrue (by show Value.bool (sgnZ y.num == 0) = _; rw [hy]; rfl) ?_
  exact wRet fun w b _ => ⟨rfl, b⟩

/-- Its text. -/
def ratS (q : Rat) : ByteArray := if q.den = 1 then intS q.num else intS q.num ++ ⟨#[47]⟩ ++ intS q.den
theorem intS_size {z : Int} {k : Nat} (h : z.natAbs < pw k) : (intS z).size ≤ 10 * k + 2 := by
  have : (decS z.natAbs).size ≤ 10 * k + 1 := dec_len_pw h
  by_cases h0 : z < 0
  · rw [intS_neg h0, ByteArray.size_append]; show 1 + _ ≤ _; omega
  · rw [intS_pos h0]; omega

/-- Text: its text. -/
theorem qtext_any (v : Value) (q : Rat) (k : Nat) (w : World) (h : RatB w v q k) (hk : k ≤ 200000) (hT : Tabs w) :
    Calls Tryz.prog 71 #[v] w fun e w' => e = .returned (.string (ratS q)) ∧ Below w.heap.size w w' := by
  obtain ⟨a, b, c, d, rfl, h⟩ := h
  have s1 := intS_size h.1.2
  have s2 := intS_size (z := (q.den : Int)) (k := k) (by rw [Int.natAbs_natCast]; exact h.2.2)
  refine go (fun w => QB w a b c d q k) [[a, b, c, d]] [some 4] (tr := (.em (.call 103 [.g [.c 0 2, .c 0 3]] [none]) (.em (.pr (.binOp .eql 3 (.tmp 0) (.const (.int .i64 0)) 3) 4 [.s (.c 1 0), .s (.k (.int .i64 0))]) (.cond (.c 2 0) (.em (.call 116 [.g [.c 0 0, .c 0 1]] [none]) (.ret (.v (.s (.c 3 0))))) (.em (.call 116 [.g [.c 0 0, .c 0 1]] [none]) (.em (.pr (.binOp .add 9 (.tmp 0) (.const (.string ⟨#[47]⟩)) 9) 9 [.s (.c 3 0), .s (.k (.string ⟨#[47]⟩))]) (.em (.call 116 [.g [.c 0 2, .c 0 3]] [none]) (.em (.pr (.binOp .add 9 (.tmp 0) (.tmp 1) 9) 9 [.s (.c 4 0), .s (.c 5 0)]) (.ret (.v (.s (.c 6 0)))))))))))) (by kernel_rfl) (by kernel_rfl) (by kernel_rfl) (mQ _ _ _ _ _ _) h ⟨qpl h, trivial⟩ ?_
  refine wVal (fun w b h => sign_any _ (denZ q) k w h.2.1 (by omega)) rfl ?_
  refine wPr (prEq rfl rfl) rfl ?_
  refine wIf _ rfl (fun e => ?_) (fun e => ?_)
  · have e1 : q.den = 1 := by have := (sgn_den q).symm.trans e; simpa using this
    refine wVal (fun w b h => itext_any _ q.num k w h.1 (by omega) (hT.below b)) rfl ?_
    exact wRet fun w b _ => ⟨by unfold ratS; rw [if_pos e1]; rfl, b⟩
  · have e1 : ¬ q.den = 1 := by have := (sgn_den q).symm.trans e; simpa using this
    refine wVal (fun w b h => itext_any _ q.num k w h.1 (by omega) (hT.below b)) rfl ?_
    refine wPr (prSAdd rfl rfl (by show _ + 1 ≤ _; omega)) rfl ?_
    refine wVal (v := .string (intS q.den)) (fun w b h => itext_any _ q.den k w (by have h2 := h.2.1; unfold denZ at h2; rw [if_neg e1] at h2; exact h2) (by omega) (hT.below b)) rfl ?_
    refine wPr (prSAdd rfl rfl (by rw [ByteArray.size_append]; show _ + 1 + _ ≤ _; omega)) rfl ?_
    exact wRet fun w b _ => ⟨by unfold ratS; rw [if_neg e1]; rfl, b⟩

end Go.Proofs.YtfohgkabmdhhaaaGreatDoor
