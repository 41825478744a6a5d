/- Rules for rows: what is known is carried along; operations on values. No program. -/
import Derived.Test.YtpchnejdbmoicaaDoorYs
import Derived.Test.YtpchnejdbmoicaaDoorYf
namespace Cin
open Go Go.RowKit

/-- What is known stays so. -/
def Mono (D : TypeId → Bool) (F : World → Prop) : Prop := ∀ u w, Ext D u w → F u → F w
section mono
variable {D : TypeId → Bool} {F G : World → Prop} {t : TypeId} {u w : World}
theorem Mono.and (h : Mono D F) (h' : Mono D G) : Mono D fun w => F w ∧ G w := fun u w e ⟨a, b⟩ => ⟨h u w e a, h' u w e b⟩
theorem Mono.true : Mono D fun _ => True := fun _ _ _ _ => trivial
theorem Sl.ext {k : IntKind} {v : Value} {xs : List Nat} (h : Sl t k u v xs) (e : Ext D u w) (ht : D t = true) : Sl t k w v xs := by
  rcases h with ⟨rfl, rfl⟩ | ⟨b, off, cap, cur, rfl, hB, r⟩
  · exact .inl ⟨rfl, rfl⟩
  · exact .inr ⟨b, off, cap, cur, rfl, e.block b _ _ _ hB ht, r⟩
theorem RefV.ext {v : Value} {n : Nat} (h : RefV t u v n) (e : Ext D u w) (ht : D t = true) : RefV t w v n := let ⟨xs, h1, h2⟩ := h; ⟨xs, h1.ext e ht, h2⟩
theorem NatB.ext {v : Value} {n k : Nat} (h : NatB t u v n k) (e : Ext D u w) (ht : D t = true) : NatB t w v n k := let ⟨⟨s, h1, h2⟩, hk⟩ := h; ⟨⟨s, h1, h2.ext e ht⟩, hk⟩
theorem IntB.ext {v : Value} {z : Int} {k : Nat} (h : IntB t u v z k) (e : Ext D u w) (ht : D t = true) : IntB t w v z k := let ⟨⟨s, h1, h2⟩, hk⟩ := h; ⟨⟨s, h1, h2.ext e ht⟩, hk⟩
theorem monoNat (ht : D t = true) (v : Value) (n k : Nat) : Mono D fun w => NatB t w v n k := fun _ _ e h => h.ext e ht
theorem monoInt (ht : D t = true) (v : Value) (z : Int) (k : Nat) : Mono D fun w => IntB t w v z k := fun _ _ e h => h.ext e ht
theorem monoRef (ht : D t = true) (v : Value) (n k : Nat) : Mono D fun w => RefV t w v n ∧ n < pw k := fun _ _ e h => ⟨h.1.ext e ht, h.2⟩
end mono

/-- A row under what is known. -/
def Wk (P : Program) (w0 : World) (D : TypeId → Bool) (Post : Ending → World → Prop) (L : LC) (F : World → Prop) (tr : Tr) (E : Env) : Prop :=
  Mono D F → ∀ u, F u → interp P w0 D Post tr L E u

section rules
variable {P : Program} {w0 : World} {D : TypeId → Bool} {Post : Ending → World → Prop} {F : World → Prop} {E : Env} {k : Tr} {L : LC}

theorem wRet {x : SV} (h : ∀ w, Below w0.heap.size w0 w → F w → Post (.returned (x.den [] E)) w) : Wk P w0 D Post L F (.ret x) E :=
  fun hm u hF w e b => h w b (hm u w e hF)
theorem wIf {c : A} {x y : Tr} (b : Bool) (hc : c.den [] E = .bool b) (h1 : b = true → Wk P w0 D Post L F x E) (h2 : b = false → Wk P w0 D Post L F y E) : Wk P w0 D Post L F (.cond c x y) E :=
  fun hm u hF => ⟨b, hc, fun e => h1 e hm u hF, fun e => h2 e hm u hF⟩
theorem wTrue {c : A} {x y : Tr} (hc : c.den [] E = .bool true) (h1 : Wk P w0 D Post L F x E) : Wk P w0 D Post L F (.cond c x y) E := wIf true hc (fun _ => h1) (fun h => by cases h)
theorem wFalse {c : A} {x y : Tr} (hc : c.den [] E = .bool false) (h1 : Wk P w0 D Post L F y E) : Wk P w0 D Post L F (.cond c x y) E := wIf false hc (fun h => by cases h) (fun _ => h1)
theorem wPr {op : Op} {ty : TypeId} {ar : List V1} {v : Value} (h : PrimOk P op ty (ar.map (V1.den [] E)) v) (hv : v.oneCell' = true) {E' : Env} (hk : Wk P w0 D Post L F k E') (hE : E ++ [[v]] = E' := by intros; (simp only [List.cons_append, List.nil_append]) <;> exact rfl) : Wk P w0 D Post L F (.em (.pr op ty ar) k) E :=
  fun hm u hF => ⟨v, h, hv, hE ▸ hk hm u hF⟩
theorem wMono {G : World → Prop} (hG : Mono D G) (h : ∀ w, F w → G w) {tr : Tr} (hk : Wk P w0 D Post L G tr E) : Wk P w0 D Post L F tr E := fun _ u hF => hk hG u (h u hF)

/-- A call that tells a value, and of it something that stays. -/
theorem wCall {f : FuncId} {ar : List V1} {sh : List (Option Nat)} {args : Array Value} (G : List Value → World → Prop) (hG : ∀ cs, Mono D (G cs))
    (hc : ∀ w, Below w0.heap.size w0 w → F w → Calls P f args w fun e w' => ∃ cs : List Value, e = .returned ((mkSV sh 0).den [] [cs]) ∧ cs.all Value.oneCell' = true ∧ G cs w' ∧ Below w.heap.size w w')
    {E' : List Value → Env} (hk : ∀ cs, Wk P w0 D Post L (fun w => G cs w ∧ F w) k (E' cs)) (ha : (ar.map (V1.den [] E)).toArray = args := by rfl) (hE : ∀ cs, E ++ [cs] = E' cs := by intros; (simp only [List.cons_append, List.nil_append]) <;> exact rfl) : Wk P w0 D Post L F (.em (.call f ar sh) k) E := by
  intro hm u hF w e b
  subst ha
  refine (hc w b (hm u w e hF)).mono ?_
  rintro e1 w' ⟨cs, h1, h2, h3, h4⟩
  exact ⟨cs, h1, h2, h4, hE cs ▸ hk cs ((hG cs).and hm) w' ⟨h3, hm u w' (e.below h4) hF⟩⟩
/-- A known value. -/
theorem wVal {f : FuncId} {ar : List V1} {args : Array Value} {v : Value}
    (hc : ∀ w, Below w0.heap.size w0 w → F w → Calls P f args w fun e w' => e = .returned v ∧ Below w.heap.size w w') (hv : v.oneCell' = true)
    {E' : Env} (hk : Wk P w0 D Post L F k E') (ha : (ar.map (V1.den [] E)).toArray = args := by rfl) (hE : E ++ [[v]] = E' := by intros; (simp only [List.cons_append, List.nil_append]) <;> exact rfl) : Wk P w0 D Post L F (.em (.call f ar [none]) k) E := by
  intro hm u hF w e b
  subst ha
  refine (hc w b (hm u w e hF)).mono ?_
  rintro e1 w' ⟨rfl, h4⟩
  exact ⟨[v], rfl, by simp [hv], h4, hE ▸ hk hm w' (hm u w' (e.below h4) hF)⟩
/-- A whole number. -/
theorem wInt {t : TypeId} (ht : D t = true) {f : FuncId} {ar : List V1} {args : Array Value} {z : Int} {m : Nat}
    (hc : ∀ w, Below w0.heap.size w0 w → F w → Calls P f args w fun e w' => ∃ v, e = .returned v ∧ IntB t w' v z m ∧ Below w.heap.size w w')
    {E' : Value → Value → Env} (hk : ∀ x y, Wk P w0 D Post L (fun w => IntB t w (.agg #[x, y]) z m ∧ F w) k (E' x y)) (ha : (ar.map (V1.den [] E)).toArray = args := by rfl) (hE : ∀ x y, E ++ [[x, y]] = E' x y := by intros; (simp only [List.cons_append, List.nil_append]) <;> exact rfl) : Wk P w0 D Post L F (.em (.call f ar [some 2]) k) E := by
  intro hm u hF w e b
  subst ha
  refine (hc w b (hm u w e hF)).mono ?_
  rintro e1 w' ⟨v, rfl, hv, h4⟩
  obtain ⟨bb, ad, len, cap, rfl, _⟩ := hv.shape2
  exact ⟨[.bool bb, .slice ad len cap], rfl, rfl, h4, hE _ _ ▸ hk _ _ ((monoInt ht _ _ _).and hm) w' ⟨hv, hm u w' (e.below h4) hF⟩⟩
/-- A whole number, its sign told. -/
theorem wIntS {t : TypeId} (ht : D t = true) {f : FuncId} {ar : List V1} {args : Array Value} {z : Int} {m : Nat}
    (hc : ∀ w, Below w0.heap.size w0 w → F w → Calls P f args w fun e w' => ∃ v, e = .returned v ∧ IntB t w' v z m ∧ Below w.heap.size w w')
    {E' : Value → Env} (hk : ∀ y, Wk P w0 D Post L (fun w => IntB t w (.agg #[.bool (decide (z < 0)), y]) z m ∧ F w) k (E' y)) (ha : (ar.map (V1.den [] E)).toArray = args := by rfl) (hE : ∀ y, E ++ [[.bool (decide (z < 0)), y]] = E' y := by intros; (simp only [List.cons_append, List.nil_append]) <;> exact rfl) : Wk P w0 D Post L F (.em (.call f ar [some 2]) k) E := by
  intro hm u hF w e b
  subst ha
  refine (hc w b (hm u w e hF)).mono ?_
  rintro e1 w' ⟨v, rfl, hv, h4⟩
  obtain ⟨ad, len, cap, rfl, _⟩ := hv.shape
  exact ⟨[.bool (decide (z < 0)), .slice ad len cap], rfl, rfl, h4, hE _ ▸ hk _ ((monoInt ht _ _ _).and hm) w' ⟨hv, hm u w' (e.below h4) hF⟩⟩
/-- A number from 0 on. -/
theorem wNat {t : TypeId} (ht : D t = true) {f : FuncId} {ar : List V1} {args : Array Value} {n m : Nat}
    (hc : ∀ w, Below w0.heap.size w0 w → F w → Calls P f args w fun e w' => ∃ v, e = .returned v ∧ NatB t w' v n m ∧ Below w.heap.size w w')
    {E' : Value → Env} (hk : ∀ x, Wk P w0 D Post L (fun w => NatB t w (.agg #[x]) n m ∧ F w) k (E' x)) (ha : (ar.map (V1.den [] E)).toArray = args := by rfl) (hE : ∀ x, E ++ [[x]] = E' x := by intros; (simp only [List.cons_append, List.nil_append]) <;> exact rfl) : Wk P w0 D Post L F (.em (.call f ar [some 1]) k) E := by
  intro hm u hF w e b
  subst ha
  refine (hc w b (hm u w e hF)).mono ?_
  rintro e1 w' ⟨v, rfl, hv, h4⟩
  obtain ⟨ad, len, cap, rfl⟩ := hv.shape2
  exact ⟨[.slice ad len cap], rfl, rfl, h4, hE _ ▸ hk _ ((monoNat ht _ _ _).and hm) w' ⟨hv, hm u w' (e.below h4) hF⟩⟩
/-- A number of the document's. -/
theorem wRef {t : TypeId} (ht : D t = true) {f : FuncId} {ar : List V1} {args : Array Value} {n m : Nat}
    (hc : ∀ w, Below w0.heap.size w0 w → F w → Calls P f args w fun e w' => ∃ v, e = .returned v ∧ (RefV t w' v n ∧ n < pw m) ∧ Below w.heap.size w w')
    {E' : Value → Env} (hk : ∀ x, Wk P w0 D Post L (fun w => (RefV t w x n ∧ n < pw m) ∧ F w) k (E' x)) (ha : (ar.map (V1.den [] E)).toArray = args := by rfl) (hE : ∀ x, E ++ [[x]] = E' x := by intros; (simp only [List.cons_append, List.nil_append]) <;> exact rfl) : Wk P w0 D Post L F (.em (.call f ar [none]) k) E := by
  intro hm u hF w e b
  subst ha
  refine (hc w b (hm u w e hF)).mono ?_
  rintro e1 w' ⟨v, rfl, hv, h4⟩
  obtain ⟨ad, len, cap, _, rfl, _⟩ := hv.1.shape
  exact ⟨[.slice ad len cap], rfl, rfl, h4, hE _ ▸ hk _ ((monoRef ht _ _ _).and hm) w' ⟨hv, hm u w' (e.below h4) hF⟩⟩
/-- Two numbers of the document's. -/
theorem wRef2 {t : TypeId} (ht : D t = true) {f : FuncId} {ar : List V1} {args : Array Value} {n m n' m' : Nat}
    (hc : ∀ w, Below w0.heap.size w0 w → F w → Calls P f args w fun e w' => ∃ v v', e = .returned (.tuple #[v, v']) ∧ (RefV t w' v n ∧ n < pw m) ∧ (RefV t w' v' n' ∧ n' < pw m') ∧ Below w.heap.size w w')
    {E' : Value → Value → Env} (hk : ∀ x y, Wk P w0 D Post L (fun w => (RefV t w x n ∧ n < pw m) ∧ (RefV t w y n' ∧ n' < pw m') ∧ F w) k (E' x y)) (ha : (ar.map (V1.den [] E)).toArray = args := by rfl) (hE : ∀ x y, E ++ [[x, y]] = E' x y := by intros; (simp only [List.cons_append, List.nil_append]) <;> exact rfl) : Wk P w0 D Post L F (.em (.call f ar [none, none]) k) E := by
  intro hm u hF w e b
  subst ha
  refine (hc w b (hm u w e hF)).mono ?_
  rintro e1 w' ⟨v, v', rfl, hv, hv', h4⟩
  obtain ⟨ad, len, cap, _, rfl, _⟩ := hv.1.shape
  obtain ⟨ad', len', cap', _, rfl, _⟩ := hv'.1.shape
  exact ⟨[.slice ad len cap, .slice ad' len' cap'], rfl, rfl, h4, hE _ _ ▸ hk _ _ ((monoRef ht _ _ _).and ((monoRef ht _ _ _).and hm)) w' ⟨hv, hv', hm u w' (e.below h4) hF⟩⟩
/-- Two whole numbers and a truth value. -/
theorem wInt2 {t : TypeId} (ht : D t = true) {f : FuncId} {ar : List V1} {args : Array Value} {z z' : Int} {m m' : Nat} {c : Bool}
    (hc : ∀ w, Below w0.heap.size w0 w → F w → Calls P f args w fun e w' => ∃ v v', e = .returned (.tuple #[v, v', .bool c]) ∧ IntB t w' v z m ∧ IntB t w' v' z' m' ∧ Below w.heap.size w w')
    {E' : Value → Value → Value → Value → Env} (hk : ∀ x y x' y', Wk P w0 D Post L (fun w => IntB t w (.agg #[x, y]) z m ∧ IntB t w (.agg #[x', y']) z' m' ∧ F w) k (E' x y x' y')) (ha : (ar.map (V1.den [] E)).toArray = args := by rfl) (hE : ∀ x y x' y', E ++ [[x, y, x', y', .bool c]] = E' x y x' y' := by intros; (simp only [List.cons_append, List.nil_append]) <;> exact rfl) : Wk P w0 D Post L F (.em (.call f ar [some 2, some 2, none]) k) E := by
  intro hm u hF w e b
  subst ha
  refine (hc w b (hm u w e hF)).mono ?_
  rintro e1 w' ⟨v, v', rfl, hv, hv', h4⟩
  obtain ⟨bb, ad, len, cap, rfl, _⟩ := hv.shape2
  obtain ⟨bb', ad', len', cap', rfl, _⟩ := hv'.shape2
  exact ⟨[.bool bb, .slice ad len cap, .bool bb', .slice ad' len' cap', .bool c], rfl, rfl, h4, hE _ _ _ _ ▸ hk _ _ _ _ ((monoInt ht _ _ _).and ((monoInt ht _ _ _).and hm)) w' ⟨hv, hv', hm u w' (e.below h4) hF⟩⟩
theorem wInt2' {t : TypeId} (ht : D t = true) {f : FuncId} {ar : List V1} {args : Array Value} {z z' : Int} {m m' : Nat}
    (hc : ∀ w, Below w0.heap.size w0 w → F w → Calls P f args w fun e w' => ∃ v v', e = .returned (.tuple #[v, v']) ∧ IntB t w' v z m ∧ IntB t w' v' z' m' ∧ Below w.heap.size w w')
    {E' : Value → Value → Value → Value → Env} (hk : ∀ x y x' y', Wk P w0 D Post L (fun w => IntB t w (.agg #[x, y]) z m ∧ IntB t w (.agg #[x', y']) z' m' ∧ F w) k (E' x y x' y')) (ha : (ar.map (V1.den [] E)).toArray = args := by rfl) (hE : ∀ x y x' y', E ++ [[x, y, x', y']] = E' x y x' y' := by intros; (simp only [List.cons_append, List.nil_append]) <;> exact rfl) : Wk P w0 D Post L F (.em (.call f ar [some 2, some 2]) k) E := by
  intro hm u hF w e b
  subst ha
  refine (hc w b (hm u w e hF)).mono ?_
  rintro e1 w' ⟨v, v', rfl, hv, hv', h4⟩
  obtain ⟨bb, ad, len, cap, rfl, _⟩ := hv.shape2
  obtain ⟨bb', ad', len', cap', rfl, _⟩ := hv'.shape2
  exact ⟨[.bool bb, .slice ad len cap, .bool bb', .slice ad' len' cap'], rfl, rfl, h4, hE _ _ _ _ ▸ hk _ _ _ _ ((monoInt ht _ _ _).and ((monoInt ht _ _ _).and hm)) w' ⟨hv, hv', hm u w' (e.below h4) hF⟩⟩
/-- What is told is known whole. -/
theorem wKnown {f : FuncId} {ar : List V1} {sh : List (Option Nat)} {args : Array Value} {V : Value} (cs : List Value)
    (hc : ∀ w, Below w0.heap.size w0 w → F w → Calls P f args w fun e w' => e = .returned V ∧ Below w.heap.size w w') (hV : (mkSV sh 0).den [] [cs] = V) (hv : cs.all Value.oneCell' = true)
    {E' : Env} (hk : Wk P w0 D Post L F k E') (ha : (ar.map (V1.den [] E)).toArray = args := by rfl) (hE : E ++ [cs] = E' := by intros; (simp only [List.cons_append, List.nil_append]) <;> exact rfl) : Wk P w0 D Post L F (.em (.call f ar sh) k) E := by
  intro hm u hF w e b
  subst ha hV
  refine (hc w b (hm u w e hF)).mono ?_
  rintro e1 w' ⟨rfl, h4⟩
  exact ⟨cs, rfl, hv, h4, hE ▸ hk hm w' (hm u w' (e.below h4) hF)⟩
/-- A whole number, and a value. -/
theorem wIntV {t : TypeId} (ht : D t = true) {f : FuncId} {ar : List V1} {args : Array Value} {z : Int} {m : Nat} {c : Value}
    (hc : ∀ w, Below w0.heap.size w0 w → F w → Calls P f args w fun e w' => ∃ v, e = .returned (.tuple #[v, c]) ∧ IntB t w' v z m ∧ Below w.heap.size w w') (hv : c.oneCell' = true)
    {E' : Value → Value → Env} (hk : ∀ x y, Wk P w0 D Post L (fun w => IntB t w (.agg #[x, y]) z m ∧ F w) k (E' x y)) (ha : (ar.map (V1.den [] E)).toArray = args := by rfl) (hE : ∀ x y, E ++ [[x, y, c]] = E' x y := by intros; (simp only [List.cons_append, List.nil_append]) <;> exact rfl) : Wk P w0 D Post L F (.em (.call f ar [some 2, none]) k) E := by
  intro hm u hF w e b
  subst ha
  refine (hc w b (hm u w e hF)).mono ?_
  rintro e1 w' ⟨v, rfl, h1, h4⟩
  obtain ⟨bb, ad, len, cap, rfl, _⟩ := h1.shape2
  exact ⟨[.bool bb, .slice ad len cap, c], rfl, by simp only [List.all_cons, List.all_nil, hv, Bool.and_true]; rfl, h4, hE _ _ ▸ hk _ _ ((monoInt ht _ _ _).and hm) w' ⟨h1, hm u w' (e.below h4) hF⟩⟩
/-- A number of the document's, and a value. -/
theorem wRefV {t : TypeId} (ht : D t = true) {f : FuncId} {ar : List V1} {args : Array Value} {n m : Nat} {c : Value}
    (hc : ∀ w, Below w0.heap.size w0 w → F w → Calls P f args w fun e w' => ∃ v, e = .returned (.tuple #[v, c]) ∧ (RefV t w' v n ∧ n < pw m) ∧ Below w.heap.size w w') (hv : c.oneCell' = true)
    {E' : Value → Env} (hk : ∀ x, Wk P w0 D Post L (fun w => (RefV t w x n ∧ n < pw m) ∧ F w) k (E' x)) (ha : (ar.map (V1.den [] E)).toArray = args := by rfl) (hE : ∀ x, E ++ [[x, c]] = E' x := by intros; (simp only [List.cons_append, List.nil_append]) <;> exact rfl) : Wk P w0 D Post L F (.em (.call f ar [none, none]) k) E := by
  intro hm u hF w e b
  subst ha
  refine (hc w b (hm u w e hF)).mono ?_
  rintro e1 w' ⟨v, rfl, h1, h4⟩
  obtain ⟨ad, len, cap, _, rfl, _⟩ := h1.1.shape
  exact ⟨[.slice ad len cap, c], rfl, by simp only [List.all_cons, List.all_nil, hv, Bool.and_true]; rfl, h4, hE _ ▸ hk _ ((monoRef ht _ _ _).and hm) w' ⟨h1, hm u w' (e.below h4) hF⟩⟩
/-- A loop: what its rounds keep, and how many may come. -/
theorem wLoop {d : Nat} {init : List A} {body : Tr} (I : List Value → World → Prop) (hI : ∀ cs, Mono D (I cs)) (μ : List Value → Nat) (h0 : ∀ w, F w → I (init.map (A.den [] E)) w)
    {E' : List Value → Env} (hk : ∀ cs, cs.length = init.length → Wk P w0 D Post (updL L d fun cs' u => I cs' u ∧ μ cs' < μ cs) (fun w => I cs w ∧ F w) body (E' cs)) (hE : ∀ cs, E ++ [cs] = E' cs := by intros; (simp only [List.cons_append, List.nil_append]) <;> exact rfl) :
    Wk P w0 D Post L F (.loop d init body) E :=
  fun hm u hF => ⟨I, μ, h0 u hF, fun cs u' hl _ he hi => hE cs ▸ hk cs hl ((hI cs).and hm) u' ⟨hi, hm u u' he hF⟩⟩
/-- The next round. -/
theorem wBack {d : Nat} {vals : List A} (h : ∀ w, F w → L d (vals.map (A.den [] E)) w) : Wk P w0 D Post L F (.back d vals) E := fun _ u hF => h u hF
end rules

section prims
variable {P : Program} {t t2 ty : TypeId} {vs : List Value} {p q : Operand} {κ : IntKind} {x y : Int} {b c : Bool}
theorem prEq (hp : pe vs p = .int κ x) (hq : pe vs q = .int κ y) : PrimOk P (.binOp .eql t p q t2) ty vs (.bool (x == y)) := fun w => by
  simp only [execOp, hp, hq]
  simp [eqGuard, binOp, Op.intCmp]
theorem prNe (hp : pe vs p = .int κ x) (hq : pe vs q = .int κ y) : PrimOk P (.binOp .neq t p q t2) ty vs (.bool (x != y)) := fun w => by
  simp only [execOp, hp, hq]
  simp [eqGuard, binOp, Op.intCmp]
theorem prLt (hp : pe vs p = .int κ x) (hq : pe vs q = .int κ y) : PrimOk P (.binOp .lss t p q t2) ty vs (.bool (decide (x < y))) := fun w => by
  simp only [execOp, hp, hq]
  simp [eqGuard, binOp, Op.intCmp]
theorem prLe (hp : pe vs p = .int κ x) (hq : pe vs q = .int κ y) : PrimOk P (.binOp .leq t p q t2) ty vs (.bool (decide (x ≤ y))) := fun w => by
  simp only [execOp, hp, hq]
  simp [eqGuard, binOp, Op.intCmp]
theorem prGt (hp : pe vs p = .int κ x) (hq : pe vs q = .int κ y) : PrimOk P (.binOp .gtr t p q t2) ty vs (.bool (decide (y < x))) := fun w => by
  simp only [execOp, hp, hq]
  simp [eqGuard, binOp, Op.intCmp]
theorem prGe (hp : pe vs p = .int κ x) (hq : pe vs q = .int κ y) : PrimOk P (.binOp .geq t p q t2) ty vs (.bool (decide (y ≤ x))) := fun w => by
  simp only [execOp, hp, hq]
  simp [eqGuard, binOp, Op.intCmp]
theorem prMul (hp : pe vs p = .int κ x) (hq : pe vs q = .int κ y) : PrimOk P (.binOp .mul t p q t2) ty vs (.int κ (κ.wrap (x * y))) := fun w => by
  simp only [execOp, hp, hq]
  simp [eqGuard, binOp, Op.intArith]
theorem prAdd (hp : pe vs p = .int κ x) (hq : pe vs q = .int κ y) : PrimOk P (.binOp .add t p q t2) ty vs (.int κ (κ.wrap (x + y))) := fun w => by
  simp only [execOp, hp, hq]
  simp [eqGuard, binOp, Op.intArith]
theorem prNot (hp : pe vs p = .bool b) : PrimOk P (.unOp .not t p) ty vs (.bool (!b)) := fun w => by
  simp only [execOp, hp]
  simp [Op.unary]
theorem run_beq (hu : P.underlying t = some .bool) (w : World) : (Op.equal t (.bool b) (.bool c)).run P w = .ok (b == c) w := by
  show (Op.equalIn (9999 + 1) t (.bool b) (.bool c)).run P w = _
  rw [Op.equalIn]
  simp only [Sem.run_bind, run_underlying hu, Result.andThen_ok]
  rfl
theorem prBEq (hu : P.underlying t = some .bool) (hp : pe vs p = .bool b) (hq : pe vs q = .bool c) : PrimOk P (.binOp .eql t p q t2) ty vs (.bool (b == c)) := fun w => by
  simp only [execOp, hp, hq]
  have e : binOp .eql t (.bool b) (.bool c) = (do pure (.bool (← Op.equal t (.bool b) (.bool c)))) := rfl
  simp [eqGuard, e, run_beq hu]
theorem prBNe (hu : P.underlying t = some .bool) (hp : pe vs p = .bool b) (hq : pe vs q = .bool c) : PrimOk P (.binOp .neq t p q t2) ty vs (.bool (!(b == c))) := fun w => by
  simp only [execOp, hp, hq]
  have e : binOp .neq t (.bool b) (.bool c) = (do pure (.bool (!(← Op.equal t (.bool b) (.bool c))))) := rfl
  simp [eqGuard, e, run_beq hu]
theorem prLenS {s : ByteArray} {T : TypeId} (hu : P.underlying T = some .string) (hp : pe vs p = .string s) : PrimOk P (.call { callee := .builtin .len, args := #[p], argTypes := #[T] }) ty vs (.int .i64 s.size) := fun w => by
  simp [execOp, resolve, hp, invoke, builtin, Builtin.len_, goInt, run_underlying hu]
theorem prLen {ad : Option Addr} {n m : Nat} {T e : TypeId} (hu : P.underlying T = some (.slice e)) (hp : pe vs p = .slice ad n m) : PrimOk P (.call { callee := .builtin .len, args := #[p], argTypes := #[T] }) ty vs (.int .i64 n) := fun w => by
  simp [execOp, resolve, hp, invoke, builtin, Builtin.len_, goInt, run_underlying hu]
theorem prSEq {s r : ByteArray} (hp : pe vs p = .string s) (hq : pe vs q = .string r) : PrimOk P (.binOp .eql t p q t2) ty vs (.bool (s.toList == r.toList)) := fun w => by
  simp only [execOp, hp, hq]
  simp [eqGuard, binOp, Op.stringOp]
theorem prSNe {s r : ByteArray} (hp : pe vs p = .string s) (hq : pe vs q = .string r) : PrimOk P (.binOp .neq t p q t2) ty vs (.bool (!(s.toList == r.toList))) := fun w => by
  simp only [execOp, hp, hq]
  simp [eqGuard, binOp, Op.stringOp]
theorem prSAdd {s r : ByteArray} (hp : pe vs p = .string s) (hq : pe vs q = .string r) (h : s.size + r.size ≤ 1000000000000) : PrimOk P (.binOp .add t p q t2) ty vs (.string (s ++ r)) := fun w => by
  simp only [execOp, hp, hq]
  simp [eqGuard, binOp, Op.stringOp]
  omega
theorem prIdx {s : ByteArray} {T : TypeId} {m : Nat} {b : UInt8} (hu : P.underlying T = some .string) (hp : pe vs p = .string s) (hq : pe vs q = .int κ m) (hm : s.data.toList[m]? = some b) : PrimOk P (.index T p q) ty vs (.int .u8 b.toNat) := fun w => by
  have e : s[m]? = some b := by
    rw [Array.getElem?_toList] at hm
    obtain ⟨h1, h2⟩ := Array.getElem?_eq_some_iff.1 hm
    rw [getElem?_pos s m h1]
    exact congrArg some h2
  simp only [execOp, hp, hq]
  simp [Instr.index, asIntOf, run_underlying hu, e]
theorem prSlH {s : ByteArray} {T : TypeId} {i : Int} (hu : P.underlying T = some .string) (hp : pe vs p = .string s) (hq : pe vs q = .int κ i) (h0 : 0 ≤ i) (h1 : i ≤ s.size) : PrimOk P (.slice T p none (some q) none) ty vs (.string (s.extract 0 i.toNat)) := fun w => by
  simp only [execOp, hp, hq, Option.map_none, Option.map_some]
  simp [Instr.sliceAt, Instr.slice, Instr.sliceBounds, Instr.sliceBound, asIntOf, run_underlying hu, h0, h1]
theorem prSlL {s : ByteArray} {T : TypeId} {i : Int} (hu : P.underlying T = some .string) (hp : pe vs p = .string s) (hq : pe vs q = .int κ i) (h0 : 0 ≤ i) (h1 : i ≤ s.size) : PrimOk P (.slice T p (some q) none none) ty vs (.string (s.extract i.toNat s.size)) := fun w => by
  simp only [execOp, hp, hq, Option.map_none, Option.map_some]
  simp [Instr.sliceAt, Instr.slice, Instr.sliceBounds, Instr.sliceBound, asIntOf, run_underlying hu, h0, h1]
end prims

end Cin
