/- Contracts of the document's quotients. -/
import Derived.Test.YtkekgmdofgkbcaaGreatDoorYr
import Derived.Test.YtkekgmdofgkbcaaGreatDoorYb
import Derived.Lib.IndexLaws
namespace Go.Proofs.YtkekgmdofgkbcaaGreatDoor
open Go.RowKit Cin
theorem hNatT : Tryz.prog.underlying 55 = some (.slice 190) := by kernel_rfl
theorem hStrT : Tryz.prog.underlying 9 = some .string := by kernel_rfl
def DenV (w : World) (d : Value) (q : Rat) : Prop := ∃ n, RefV 190 w d n ∧ (n = q.den ∨ (n = 0 ∧ q.den = 1))
def DQ (w : World) (a b d : Value) (q : Rat) (k : Nat) : Prop := IB w a b q.num k ∧ DenV w d q ∧ q.den < pw k
def DRatB (w : World) (v : Value) (q : Rat) (k : Nat) : Prop := ∃ a b d, v = .agg #[a, b, d] ∧ DQ w a b d q k
theorem mD {D : TypeId → Bool} (a b d : Value) (q : Rat) (k : Nat) (hD : D 190 = true := by rfl) : Mono D fun w => DQ w a b d q k := fun _ _ e ⟨h1, ⟨n, h2, hn⟩, h3⟩ => ⟨h1.ext e hD, ⟨n, h2.ext e hD, hn⟩, h3⟩
theorem dpl {w : World} {a b d : Value} {q : Rat} {k : Nat} (h : DQ w a b d q k) : [a, b, d].all Value.oneCell' = true := by
  have p1 := ipl h.1
  obtain ⟨n, h2, _⟩ := h.2.1
  obtain ⟨ad, len, cap, _, rfl, _⟩ := h2.shape
  simp only [List.all_cons, List.all_nil, Bool.and_true, Bool.and_eq_true] at p1 ⊢
  exact ⟨p1.1, p1.2, rfl⟩
theorem wDQ {D Z : TypeId → Bool} {w0 : World} {Post : Ending → World → Prop} {F : World → Prop} {L : LC} {E : Env} {tr : Tr} {f : FuncId} {ar : List V1} {args : Array Value} {q : Rat} {m : Nat}
    (hc : ∀ w, Below w0.heap.size w0 w → F w → Calls Tryz.prog f args w fun e w' => ∃ v, e = .returned v ∧ DRatB w' v q m ∧ Below w.heap.size w w')
    {E' : Value → Value → Value → Env} (hk : ∀ a b d, Wk Tryz.prog w0 D Z Post L (fun w => DQ w a b d q m ∧ F w) tr (E' a b d)) (ha : (ar.map (V1.den [] E)).toArray = args := by rfl) (hE : ∀ a b d, E ++ [[a, b, d]] = E' a b d := by intros; (simp only [List.cons_append, List.nil_append]) <;> exact rfl) (hD : D 190 = true := by rfl) : Wk Tryz.prog w0 D Z Post L F (.em (.call f ar [some 3]) tr) E := by
  intro hm u hF w e b
  subst ha
  refine (hc w b (hm u.w w e.ext hF)).mono ?_
  rintro e1 w' ⟨v, rfl, ⟨a, b, d, rfl, hv⟩, h4⟩
  exact ⟨[a, b, d], rfl, dpl hv, h4, hE _ _ _ ▸ hk _ _ _ ((mD _ _ _ _ _ hD).and hm) (u.more w w') ⟨hv, hm u.w w' (e.below h4).ext hF⟩⟩
theorem ibs {w : World} {v : Value} {z : Int} {k : Nat} (h : IntB 190 w v z k) : ∃ y, v = .agg #[.bool (decide (z < 0)), y] ∧ IB w (.bool (decide (z < 0))) y z k := by
  obtain ⟨ad, len, cap, rfl, _⟩ := h.shape
  exact ⟨_, rfl, h⟩
theorem ibr {w : World} {x y : Value} {z : Int} {k : Nat} (h : IB w x y z k) : RefB w y z.natAbs k := by
  obtain ⟨⟨s, e, r⟩, hk⟩ := h
  cases e
  exact ⟨r, hk⟩
theorem mR (v : Value) (n k : Nat) : Mono DD fun w => RefB w v n k := monoRef hU _ _ _
theorem dden_any (v : Value) (q : Rat) (k : Nat) (w : World) (h : DRatB w v q k) :
    Calls Tryz.prog 85 #[v] w fun e w' => ∃ v', e = .returned v' ∧ RefB w' v' q.den k ∧ Below w.heap.size w w' := by
  obtain ⟨a, b, d, rfl, h⟩ := h
  obtain ⟨n, hr, hn⟩ := h.2.1
  obtain ⟨ad, len, cap, _, rfl, _⟩ := hr.shape
  have hl := refV_len hr
  have hk := h.2.2
  refine go (fun w => RefV 190 w (.slice ad len cap) n) [[a, b, .slice ad len cap]] [some 3] (tr := (.em (.pr (.call (.mk (.builtin .len) #[.tmp 0] #[55])) 3 [.s (.c 0 2)]) (.em (.pr (.binOp .eql 3 (.tmp 0) (.const (.int .i64 0)) 3) 4 [.s (.c 1 0), .s (.k (.int .i64 0))]) (.cond (.c 2 0) (.em (.call 95 [.s (.k (.int .u64 1))] [none]) (.ret (.v (.s (.c 3 0))))) (.ret (.v (.s (.c 0 2)))))))) (by kernel_rfl) (by kernel_rfl) (by kernel_rfl) (fun _ _ e h => h.ext e hU) hr ⟨dpl h, trivial⟩ ?_
  refine wPr (prLen hNatT rfl) rfl ?_
  refine wPr (prEq rfl rfl) rfl ?_
  refine wIf _ rfl (fun e => ?_) (fun e => ?_)
  · have e1 : len = 0 := by have : (len : Int) = 0 := by simpa using e
                            omega
    have e2 : q.den = 1 := by have := hl.1 e1; have := q.den_pos; rcases hn with h | h <;> omega
    refine wRef hU (fun w b _ => rnatOf_one w) (fun x1 => ?_)
    exact wRet fun w b ⟨h1, _⟩ => ⟨_, rfl, ⟨by rw [e2]; exact h1.1, hk⟩, b⟩
  · have e1 : ¬ len = 0 := by have : ¬ (len : Int) = 0 := by simpa using e
                              omega
    have e2 : n = q.den := by rcases hn with h | h
                              · exact h
                              · exact absurd (hl.2 h.1) e1
    exact wRet fun w b h1 => ⟨_, rfl, ⟨by rw [← e2]; exact h1, hk⟩, b⟩
theorem pos_any (v : Value) (n k : Nat) (w : World) (h : RefB w v n k) :
    Calls Tryz.prog 84 #[v] w fun e w' => ∃ v', e = .returned v' ∧ IntB 190 w' v' (n : Int) k ∧ Below w.heap.size w w' := by
  obtain ⟨ad, len, cap, _, rfl, _⟩ := h.1.shape
  refine go (fun w => RefB w (.slice ad len cap) n k) [[.slice ad len cap]] [none] (tr := (.ret (.v (.g [.k (.bool false), .c 0 0])))) (by kernel_rfl) (by kernel_rfl) (by kernel_rfl) (mR _ _ _) h ⟨rfl, trivial⟩ ?_
  exact wRet fun w b h => ⟨_, rfl, intB_of (b := false) (bb := false) h.1 h.2 rfl, b⟩
theorem cmpI_one (n : Nat) : (cmpI n 1 == 0) = decide (n = 1) := by
  unfold cmpI
  by_cases h1 : n < 1
  · rw [if_pos h1]; simp; omega
  · rw [if_neg h1]
    by_cases h2 : 1 < n
    · rw [if_pos h2]; simp; omega
    · rw [if_neg h2]; simp; omega
theorem cmpI_one' (n : Nat) : (cmpI n 1 != 0) = decide (n ≠ 1) := by
  have := cmpI_one n
  simp only [bne, this, decide_not]
theorem sg_div {z : Int} {g : Nat} (hg : 0 < g) (hd : (g : Int) ∣ z) : sg (decide (z < 0)) (z.natAbs / g) = z / (g : Int) := by
  obtain ⟨c, rfl⟩ := hd
  have hgc : (0 : Int) < g := by omega
  rw [Int.natAbs_mul, Int.natAbs_natCast, Nat.mul_div_cancel_left _ hg, Int.mul_ediv_cancel_left _ (by omega)]
  unfold sg
  have e : decide ((g : Int) * c < 0) = decide (c < 0) := by
    by_cases hc : c < 0
    · rw [decide_eq_true hc, decide_eq_true (Int.mul_neg_of_pos_of_neg hgc hc)]
    · rw [decide_eq_false hc, decide_eq_false (Int.not_lt.2 (Int.mul_nonneg (by omega) (by omega)))]
  rw [e]
  by_cases hc : c < 0
  · rw [decide_eq_true hc]; simp; omega
  · rw [decide_eq_false hc]; simp; omega
set_option maxHeartbeats 1000000 in
theorem dnew_any (v u : Value) (n d : Int) (k : Nat) (w : World) (h : IntB 190 w v n k) (h' : IntB 190 w u d k) (hk : k ≤ 7000) (hk1 : 1 ≤ k) (hd : d ≠ 0) :
    Calls Tryz.prog 100 #[v, u] w fun e w' => ∃ v', e = .returned v' ∧ DRatB w' v' (nq n d) k ∧ Below w.heap.size w w' := by
  obtain ⟨b, rfl, h⟩ := ibs h
  obtain ⟨b', rfl, h'⟩ := ibs h'
  refine go (fun w => IB w _ b n k ∧ IB w _ b' d k) [[_, b], [_, b']] [some 2, some 2] (tr := (.cond (.c 1 0) (.em (.call 146 [.g [.c 0 0, .c 0 1]] [some 2]) (.em (.call 146 [.g [.k (.bool true), .c 1 1]] [some 2]) (.em (.call 95 [.s (.k (.int .u64 1))] [none]) (.em (.call 94 [.s (.c 3 1), .s (.c 4 0)] [none]) (.em (.pr (.binOp .eql 3 (.tmp 0) (.const (.int .i64 0)) 3) 4 [.s (.c 5 0), .s (.k (.int .i64 0))]) (.cond (.c 6 0) (.ret (.v (.g [.c 2 0, .c 2 1, .c 3 1]))) (.em (.call 108 [.s (.c 3 1), .s (.c 2 1)] [none]) (.em (.call 95 [.s (.k (.int .u64 1))] [none]) (.em (.call 94 [.s (.c 7 0), .s (.c 8 0)] [none]) (.em (.pr (.binOp .neq 3 (.tmp 0) (.const (.int .i64 0)) 3) 4 [.s (.c 9 0), .s (.k (.int .i64 0))]) (.cond (.c 10 0) (.em (.call 147 [.s (.c 2 1), .s (.c 7 0)] [none, none]) (.em (.call 147 [.s (.c 3 1), .s (.c 7 0)] [none, none]) (.em (.call 136 [.s (.c 2 0), .s (.c 11 0)] [some 2]) (.ret (.v (.g [.c 13 0, .c 13 1, .c 12 0])))))) (.ret (.v (.g [.c 2 0, .c 2 1, .c 3 1])))))))))))))) (.em (.call 95 [.s (.k (.int .u64 1))] [none]) (.em (.call 94 [.s (.c 1 1), .s (.c 2 0)] [none]) (.em (.pr (.binOp .eql 3 (.tmp 0) (.const (.int .i64 0)) 3) 4 [.s (.c 3 0), .s (.k (.int .i64 0))]) (.cond (.c 4 0) (.ret (.v (.g [.c 0 0, .c 0 1, .c 1 1]))) (.em (.call 108 [.s (.c 1 1), .s (.c 0 1)] [none]) (.em (.call 95 [.s (.k (.int .u64 1))] [none]) (.em (.call 94 [.s (.c 5 0), .s (.c 6 0)] [none]) (.em (.pr (.binOp .neq 3 (.tmp 0) (.const (.int .i64 0)) 3) 4 [.s (.c 7 0), .s (.k (.int .i64 0))]) (.cond (.c 8 0) (.em (.call 147 [.s (.c 0 1), .s (.c 5 0)] [none, none]) (.em (.call 147 [.s (.c 1 1), .s (.c 5 0)] [none, none]) (.em (.call 136 [.s (.c 0 0), .s (.c 9 0)] [some 2]) (.ret (.v (.g [.c 11 0, .c 11 1, .c 10 0])))))) (.ret (.v (.g [.c 0 0, .c 0 1, .c 1 1])))))))))))))) (by kernel_rfl) (by kernel_rfl) (by kernel_rfl) ((mI _ _ _ _).and (mI _ _ _ _)) ⟨h, h'⟩ ⟨ipl h, ipl h', trivial⟩ ?_
  refine wIf _ rfl (fun e => ?_) (fun e => ?_)
  · have e1 : d < 0 := by simpa using e
    generalize hg : Nat.gcd (-n).natAbs (-d).natAbs = g
    obtain ⟨hnum, hden, hgp, hgn, hgd⟩ := nq_parts n d hd (n' := -n) (d' := -d) (by rw [if_pos e1]) (by omega) hg.symm
    refine wIntS hU (fun w b ⟨h, _⟩ => rneg_any _ n k w h) (fun y1 => ?_)
    refine wIntS hU (fun w b ⟨_, _, h⟩ => rneg_any _ d k w (by rw [decide_eq_true e1] at h; exact h)) (fun y2 => ?_)
    refine wRef hU (fun w b _ => rnatOf_one w) (fun x4 => ?_)
    refine wVal (fun w b ⟨h4, hd2, hn2, _⟩ => rcmpB _ _ (-d).natAbs 1 k 1 w (ibr hd2) h4 (by omega) (by omega)) rfl ?_
    refine wPr (prEq rfl rfl) rfl ?_
    refine wIf _ rfl (fun e => ?_) (fun e => ?_)
    · have e2 : (-d).natAbs = 1 := by have := (cmpI_one _).symm.trans e; simpa using this
      have hg1 : g = 1 := by rw [← hg, e2, Nat.gcd_one_right]
      subst hg1
      refine wRet fun w b ⟨_, hd2, hn2, _⟩ => ⟨_, rfl, ⟨_, _, _, rfl, ?_, ⟨_, (ibr hd2).1, .inl ?_⟩, ?_⟩, b⟩
      · have e3 : (-n) / ((1 : Nat) : Int) = (-n) := Int.ediv_one _
        rw [hnum, e3]; exact hn2
      · omega
      · have := hd2.2; omega
    · refine wRef hU (n := g) (fun w b ⟨_, hd2, hn2, _⟩ => by rw [← hg, Nat.gcd_comm]; exact rgcd_any _ _ _ _ k k w (ibr hd2) (ibr hn2) (by omega) (by omega)) (fun x5 => ?_)
      refine wRef hU (fun w b _ => rnatOf_one w) (fun x6 => ?_)
      refine wVal (fun w b ⟨h6, h5, _⟩ => rcmpB _ _ g 1 (k + k) 1 w h5 h6 (by omega) (by omega)) rfl ?_
      refine wPr (prNe rfl rfl) rfl ?_
      refine wIf _ rfl (fun e => ?_) (fun e => ?_)
      · refine wRef2 hU (fun w b ⟨_, h5, _, hd2, hn2, _⟩ => rdiv_any _ _ _ _ k (k + k) w (ibr hn2) h5 (by omega) (by omega) (by omega)) (fun x7 y7 => ?_)
        refine wRef2 hU (fun w b ⟨_, _, _, h5, _, hd2, hn2, _⟩ => rdiv_any _ _ _ _ k (k + k) w (ibr hd2) h5 (by omega) (by omega) (by omega)) (fun x8 y8 => ?_)
        refine wInt hU (z := (-n) / (g : Int)) (m := k) (fun w b ⟨_, _, h1, _⟩ => by rw [← sg_div (z := (-n)) hgp hgn]; exact rfrom_any _ _ _ k w h1) (fun x9 y9 => ?_)
        refine wRet fun w b ⟨h9, h8, _⟩ => ?_
        refine ⟨_, rfl, ⟨_, _, _, rfl, ?_, ⟨_, h8.1, .inl ?_⟩, ?_⟩, b⟩
        · rw [hnum]; exact h9
        · rw [← Int.natAbs_natCast (nq n d).den, hden, Int.natAbs_ediv_of_dvd hgd]; rfl
        · have h2 := h8.2
          rw [← Int.natAbs_natCast (nq n d).den, hden, Int.natAbs_ediv_of_dvd hgd]; exact h2
      · have e2 : g = 1 := by have := (cmpI_one' _).symm.trans e; simpa using this
        subst e2
        refine wRet fun w b ⟨_, _, _, hd2, hn2, _⟩ => ⟨_, rfl, ⟨_, _, _, rfl, ?_, ⟨_, (ibr hd2).1, .inl ?_⟩, ?_⟩, b⟩
        · have e3 : (-n) / ((1 : Nat) : Int) = (-n) := Int.ediv_one _
          rw [hnum, e3]; exact hn2
        · omega
        · have := hd2.2; omega
  · have e1 : ¬ d < 0 := by simpa using e
    generalize hg : Nat.gcd n.natAbs d.natAbs = g
    obtain ⟨hnum, hden, hgp, hgn, hgd⟩ := nq_parts n d hd (n' := n) (d' := d) (by rw [if_neg e1]) (by omega) hg.symm
    refine wRef hU (fun w b _ => rnatOf_one w) (fun x4 => ?_)
    refine wVal (fun w b ⟨h4, hn2, hd2⟩ => rcmpB _ _ d.natAbs 1 k 1 w (ibr hd2) h4 (by omega) (by omega)) rfl ?_
    refine wPr (prEq rfl rfl) rfl ?_
    refine wIf _ rfl (fun e => ?_) (fun e => ?_)
    · have e2 : d.natAbs = 1 := by have := (cmpI_one _).symm.trans e; simpa using this
      have hg1 : g = 1 := by rw [← hg, e2, Nat.gcd_one_right]
      subst hg1
      refine wRet fun w b ⟨_, hn2, hd2⟩ => ⟨_, rfl, ⟨_, _, _, rfl, ?_, ⟨_, (ibr hd2).1, .inl ?_⟩, ?_⟩, b⟩
      · have e3 : n / ((1 : Nat) : Int) = n := Int.ediv_one _
        rw [hnum, e3]; exact hn2
      · omega
      · have := hd2.2; omega
    · refine wRef hU (n := g) (fun w b ⟨_, hn2, hd2⟩ => by rw [← hg, Nat.gcd_comm]; exact rgcd_any _ _ _ _ k k w (ibr hd2) (ibr hn2) (by omega) (by omega)) (fun x5 => ?_)
      refine wRef hU (fun w b _ => rnatOf_one w) (fun x6 => ?_)
      refine wVal (fun w b ⟨h6, h5, _⟩ => rcmpB _ _ g 1 (k + k) 1 w h5 h6 (by omega) (by omega)) rfl ?_
      refine wPr (prNe rfl rfl) rfl ?_
      refine wIf _ rfl (fun e => ?_) (fun e => ?_)
      · refine wRef2 hU (fun w b ⟨_, h5, _, hn2, hd2⟩ => rdiv_any _ _ _ _ k (k + k) w (ibr hn2) h5 (by omega) (by omega) (by omega)) (fun x7 y7 => ?_)
        refine wRef2 hU (fun w b ⟨_, _, _, h5, _, hn2, hd2⟩ => rdiv_any _ _ _ _ k (k + k) w (ibr hd2) h5 (by omega) (by omega) (by omega)) (fun x8 y8 => ?_)
        refine wInt hU (z := n / (g : Int)) (m := k) (fun w b ⟨_, _, h1, _⟩ => by rw [← sg_div (z := n) hgp hgn]; exact rfrom_any _ _ _ k w h1) (fun x9 y9 => ?_)
        refine wRet fun w b ⟨h9, h8, _⟩ => ?_
        refine ⟨_, rfl, ⟨_, _, _, rfl, ?_, ⟨_, h8.1, .inl ?_⟩, ?_⟩, b⟩
        · rw [hnum]; exact h9
        · rw [← Int.natAbs_natCast (nq n d).den, hden, Int.natAbs_ediv_of_dvd hgd]; rfl
        · have h2 := h8.2
          rw [← Int.natAbs_natCast (nq n d).den, hden, Int.natAbs_ediv_of_dvd hgd]; exact h2
      · have e2 : g = 1 := by have := (cmpI_one' _).symm.trans e; simpa using this
        subst e2
        refine wRet fun w b ⟨_, _, _, hn2, hd2⟩ => ⟨_, rfl, ⟨_, _, _, rfl, ?_, ⟨_, (ibr hd2).1, .inl ?_⟩, ?_⟩, b⟩
        · have e3 : n / ((1 : Nat) : Int) = n := Int.ediv_one _
          rw [hnum, e3]; exact hn2
        · omega
        · have := hd2.2; omega
end Go.Proofs.YtkekgmdofgkbcaaGreatDoor

namespace Go.Proofs.YtkekgmdofgkbcaaGreatDoor
open Go.RowKit Cin
def slashAt (s : ByteArray) : Int := Lib.indexByte s.data.toList 47
def nPart (s : ByteArray) : ByteArray := s.extract 0 (slashAt s).toNat
def dPart (s : ByteArray) : ByteArray := s.extract ((slashAt s).toNat + 1) s.size
def RatOk (s : ByteArray) : Prop := (slashAt s < 0 ∧ IsInt s) ∨ (0 ≤ slashAt s ∧ IsInt (nPart s) ∧ IsNum (byts (dPart s)) ∧ 1 < decL (byts (dPart s)) ∧ Nat.gcd (decL (byts (dPart s))) (intVal (nPart s)).natAbs = 1)
def ratVal (s : ByteArray) : Rat := if slashAt s < 0 then mkRat (intVal s) 1 else mkRat (intVal (nPart s)) (decL (byts (dPart s)))
theorem slash_lt (s : ByteArray) : slashAt s < s.size := by
  unfold slashAt
  by_cases h : Lib.indexByte s.data.toList 47 < 0
  · omega
  · obtain ⟨o, ho⟩ := Int.eq_ofNat_of_zero_le (Int.not_lt.1 h)
    have := (Lib.indexByte_some ho).1
    have h2 := (List.getElem?_eq_some_iff.1 this).1
    have e : s.data.toList.length = s.size := by rw [Array.length_toList]; rfl
    omega
theorem ratVal_int {s : ByteArray} (h : slashAt s < 0) : (ratVal s).num = intVal s ∧ (ratVal s).den = 1 := by
  unfold ratVal
  rw [if_pos h]
  exact rat_of (by decide) (Nat.coprime_one_right _) rfl
theorem ratVal_quo {s : ByteArray} (h : 0 ≤ slashAt s) (h1 : 1 < decL (byts (dPart s))) (h2 : Nat.gcd (decL (byts (dPart s))) (intVal (nPart s)).natAbs = 1) : (ratVal s).num = intVal (nPart s) ∧ (ratVal s).den = decL (byts (dPart s)) := by
  unfold ratVal
  rw [if_neg (by omega)]
  exact rat_of (by omega) (by rw [Nat.coprime_comm]; exact h2) rfl
theorem rparseY (s : ByteArray) (w : World) (h : IsInt s) : Calls Tryz.prog 106 #[.string s] w fun e w' => ∃ v, e = .returned (.tuple #[v, .bool true]) ∧ IntB 190 w' v (intVal s) 500 ∧ Below w.heap.size w w' :=
  (rparse_any s w).mono fun e w' hp => by
    rcases hp with ⟨_, h⟩ | ⟨hn, _⟩
    · exact h
    · exact absurd h hn
theorem rparseN (s : ByteArray) (w : World) (h : ¬ IsInt s) : Calls Tryz.prog 106 #[.string s] w fun e w' => e = .returned (.tuple #[.agg #[.bool false, .slice none 0 0], .bool false]) ∧ Below w.heap.size w w' :=
  (rparse_any s w).mono fun e w' hp => by
    rcases hp with ⟨hn, _⟩ | ⟨_, h⟩
    · exact absurd hn h
    · exact h
theorem nparseY (s : ByteArray) (w : World) (h : IsNum (byts s)) : Calls Tryz.prog 107 #[.string s] w fun e w' => ∃ v, e = .returned (.tuple #[v, .bool true]) ∧ (RefV 190 w' v (decL (byts s)) ∧ decL (byts s) < pw 500) ∧ Below w.heap.size w w' :=
  (refParse_any s w).mono fun e w' hp => by
    rcases hp with ⟨hn, v, e1, h1, h2⟩ | ⟨hn, _⟩
    · exact ⟨v, e1, ⟨h1, isNum_lt hn⟩, h2⟩
    · exact absurd h hn
theorem nparseN (s : ByteArray) (w : World) (h : ¬ IsNum (byts s)) : Calls Tryz.prog 107 #[.string s] w fun e w' => e = .returned (.tuple #[.slice none 0 0, .bool false]) ∧ Below w.heap.size w w' :=
  (refParse_any s w).mono fun e w' hp => by
    rcases hp with ⟨hn, _⟩ | ⟨_, h⟩
    · exact absurd hn h
    · exact h
def Srch (s : ByteArray) (cs : List Value) : Prop := ∃ (p : Int) (i : Nat), cs = [.int .i64 p, .int .i64 i] ∧ i ≤ s.size ∧
  ((p = -1 ∧ ∀ k, k < i → s.data.toList[k]? ≠ some 47) ∨ (∃ o : Nat, p = o ∧ o < i ∧ s.data.toList[o]? = some 47 ∧ ∀ k, k < o → s.data.toList[k]? ≠ some 47))
theorem index_of {l : List UInt8} {c : UInt8} {o : Nat} (h : l[o]? = some c) (hn : ∀ k, k < o → l[k]? ≠ some c) : Lib.indexByte l c = o := by
  by_cases h0 : Lib.indexByte l c < 0
  · have := Lib.indexByte_ge l c
    exact absurd h (Lib.indexByte_none (show Lib.indexByte l c = -1 by omega) o)
  · obtain ⟨m, hm⟩ := Int.eq_ofNat_of_zero_le (Int.not_lt.1 h0)
    obtain ⟨h1, h2⟩ := Lib.indexByte_some hm
    rcases Nat.lt_trichotomy m o with h3 | h3 | h3
    · exact absurd h1 (hn m h3)
    · omega
    · exact absurd h (h2 o h3)
theorem index_no {l : List UInt8} {c : UInt8} (hn : ∀ k, k < l.length → l[k]? ≠ some c) : Lib.indexByte l c = -1 := by
  by_cases h0 : Lib.indexByte l c < 0
  · have := Lib.indexByte_ge l c; omega
  · obtain ⟨m, hm⟩ := Int.eq_ofNat_of_zero_le (Int.not_lt.1 h0)
    obtain ⟨h1, _⟩ := Lib.indexByte_some hm
    exact absurd h1 (hn m (List.getElem?_eq_some_iff.1 h1).1)
theorem bytes_len (s : ByteArray) : s.data.toList.length = s.size := by rw [Array.length_toList]; rfl
def Smu (s : ByteArray) : List Value → Nat
  | [_, .int _ i] => s.size - i.toNat
  | _ => 0
theorem wrap_small {z : Int} (h0 : 0 ≤ z) (h1 : z ≤ 9223372036854775807) : IntKind.i64.wrap z = z := by
  unfold IntKind.wrap
  simp [IntKind.signed, IntKind.bits]
  omega
end Go.Proofs.YtkekgmdofgkbcaaGreatDoor

namespace Go.Proofs.YtkekgmdofgkbcaaGreatDoor
open Go.RowKit Cin
theorem cmpI_le (n : Nat) : decide (cmpI n 1 ≤ 0) = decide (¬ 1 < n) := by
  unfold cmpI
  by_cases h1 : n < 1
  · rw [if_pos h1]; simp; omega
  · rw [if_neg h1]
    by_cases h2 : 1 < n
    · rw [if_pos h2]; simp; omega
    · rw [if_neg h2]; simp; omega
def RQPost (s : ByteArray) (w : World) (e : Ending) (w' : World) : Prop :=
  (RatOk s ∧ ∃ v, e = .returned (.tuple #[v, .bool true]) ∧ DRatB w' v (ratVal s) 500 ∧ Below w.heap.size w w') ∨
  (¬ RatOk s ∧ ∃ a b d, e = .returned (.tuple #[.agg #[a, b, d], .bool false]) ∧ [a, b, d].all Value.oneCell' = true ∧ Below w.heap.size w w')
set_option maxHeartbeats 4000000 in
theorem dparse_any (s : ByteArray) (w : World) (hs : s.size ≤ 9223372036854775807) : Calls Tryz.prog 63 #[.string s] w (RQPost s w) := by
  have hlt := slash_lt s
  refine go (fun _ => True) [[.string s]] [none] (tr := (.loop 0 [.k (.int .i64 (Int.negSucc 0)), .k (.int .i64 0)] (.em (.pr (.call (.mk (.builtin .len) #[.tmp 0] #[9])) 3 [.s (.c 0 0)]) (.em (.pr (.binOp .lss 3 (.tmp 0) (.tmp 1) 3) 4 [.s (.c 1 1), .s (.c 2 0)]) (.cond (.c 3 0) (.em (.pr (.binOp .lss 3 (.tmp 0) (.const (.int .i64 0)) 3) 4 [.s (.c 1 0), .s (.k (.int .i64 0))]) (.cond (.c 4 0) (.em (.pr (.index 9 (.tmp 0) (.tmp 1)) 5 [.s (.c 0 0), .s (.c 1 1)]) (.em (.pr (.binOp .eql 5 (.tmp 0) (.const (.int .u8 47)) 5) 4 [.s (.c 5 0), .s (.k (.int .u8 47))]) (.cond (.c 6 0) (.em (.pr (.binOp .add 3 (.tmp 0) (.const (.int .i64 1)) 3) 3 [.s (.c 1 1), .s (.k (.int .i64 1))]) (.back 0 [.c 1 1, .c 7 0])) (.em (.pr (.binOp .add 3 (.tmp 0) (.const (.int .i64 1)) 3) 3 [.s (.c 1 1), .s (.k (.int .i64 1))]) (.back 0 [.c 1 0, .c 7 0]))))) (.em (.pr (.binOp .lss 3 (.tmp 0) (.const (.int .i64 0)) 3) 4 [.s (.c 1 0), .s (.k (.int .i64 0))]) (.cond (.c 5 0) (.em (.call 106 [.s (.c 0 0)] [some 2, none]) (.em (.call 95 [.s (.k (.int .u64 1))] [none]) (.ret (.t [.g [.c 6 0, .c 6 1, .c 7 0], .s (.c 6 2)])))) (.em (.pr (.slice 9 (.tmp 0) none (some (.tmp 1)) none) 9 [.s (.c 0 0), .s (.c 1 0)]) (.em (.call 106 [.s (.c 6 0)] [some 2, none]) (.em (.pr (.binOp .add 3 (.tmp 0) (.const (.int .i64 1)) 3) 3 [.s (.c 1 0), .s (.k (.int .i64 1))]) (.em (.pr (.slice 9 (.tmp 0) (some (.tmp 1)) none none) 9 [.s (.c 0 0), .s (.c 8 0)]) (.em (.call 107 [.s (.c 9 0)] [none, none]) (.em (.pr (.unOp .not 4 (.tmp 0)) 4 [.s (.c 7 2)]) (.cond (.c 11 0) (.ret (.t [.g [.k (.bool false), .k (.slice none 0 0), .k (.slice none 0 0)], .s (.k (.bool false))])) (.em (.pr (.unOp .not 4 (.tmp 0)) 4 [.s (.c 10 1)]) (.cond (.c 12 0) (.ret (.t [.g [.k (.bool false), .k (.slice none 0 0), .k (.slice none 0 0)], .s (.k (.bool false))])) (.em (.call 95 [.s (.k (.int .u64 1))] [none]) (.em (.call 94 [.s (.c 10 0), .s (.c 13 0)] [none]) (.em (.pr (.binOp .leq 3 (.tmp 0) (.const (.int .i64 0)) 3) 4 [.s (.c 14 0), .s (.k (.int .i64 0))]) (.cond (.c 15 0) (.ret (.t [.g [.k (.bool false), .k (.slice none 0 0), .k (.slice none 0 0)], .s (.k (.bool false))])) (.em (.call 108 [.s (.c 10 0), .s (.c 7 1)] [none]) (.em (.call 95 [.s (.k (.int .u64 1))] [none]) (.em (.call 94 [.s (.c 16 0), .s (.c 17 0)] [none]) (.em (.pr (.binOp .neq 3 (.tmp 0) (.const (.int .i64 0)) 3) 4 [.s (.c 18 0), .s (.k (.int .i64 0))]) (.cond (.c 19 0) (.ret (.t [.g [.k (.bool false), .k (.slice none 0 0), .k (.slice none 0 0)], .s (.k (.bool false))])) (.ret (.t [.g [.c 7 0, .c 7 1, .c 10 0], .s (.k (.bool true))])))))))))))))))))))))))) (.em (.pr (.binOp .lss 3 (.tmp 0) (.const (.int .i64 0)) 3) 4 [.s (.c 1 0), .s (.k (.int .i64 0))]) (.cond (.c 4 0) (.em (.call 106 [.s (.c 0 0)] [some 2, none]) (.em (.call 95 [.s (.k (.int .u64 1))] [none]) (.ret (.t [.g [.c 5 0, .c 5 1, .c 6 0], .s (.c 5 2)])))) (.em (.pr (.slice 9 (.tmp 0) none (some (.tmp 1)) none) 9 [.s (.c 0 0), .s (.c 1 0)]) (.em (.call 106 [.s (.c 5 0)] [some 2, none]) (.em (.pr (.binOp .add 3 (.tmp 0) (.const (.int .i64 1)) 3) 3 [.s (.c 1 0), .s (.k (.int .i64 1))]) (.em (.pr (.slice 9 (.tmp 0) (some (.tmp 1)) none none) 9 [.s (.c 0 0), .s (.c 7 0)]) (.em (.call 107 [.s (.c 8 0)] [none, none]) (.em (.pr (.unOp .not 4 (.tmp 0)) 4 [.s (.c 6 2)]) (.cond (.c 10 0) (.ret (.t [.g [.k (.bool false), .k (.slice none 0 0), .k (.slice none 0 0)], .s (.k (.bool false))])) (.em (.pr (.unOp .not 4 (.tmp 0)) 4 [.s (.c 9 1)]) (.cond (.c 11 0) (.ret (.t [.g [.k (.bool false), .k (.slice none 0 0), .k (.slice none 0 0)], .s (.k (.bool false))])) (.em (.call 95 [.s (.k (.int .u64 1))] [none]) (.em (.call 94 [.s (.c 9 0), .s (.c 12 0)] [none]) (.em (.pr (.binOp .leq 3 (.tmp 0) (.const (.int .i64 0)) 3) 4 [.s (.c 13 0), .s (.k (.int .i64 0))]) (.cond (.c 14 0) (.ret (.t [.g [.k (.bool false), .k (.slice none 0 0), .k (.slice none 0 0)], .s (.k (.bool false))])) (.em (.call 108 [.s (.c 9 0), .s (.c 6 1)] [none]) (.em (.call 95 [.s (.k (.int .u64 1))] [none]) (.em (.call 94 [.s (.c 15 0), .s (.c 16 0)] [none]) (.em (.pr (.binOp .neq 3 (.tmp 0) (.const (.int .i64 0)) 3) 4 [.s (.c 17 0), .s (.k (.int .i64 0))]) (.cond (.c 18 0) (.ret (.t [.g [.k (.bool false), .k (.slice none 0 0), .k (.slice none 0 0)], .s (.k (.bool false))])) (.ret (.t [.g [.c 6 0, .c 6 1, .c 9 0], .s (.k (.bool true))]))))))))))))))))))))))))))) (by kernel_rfl) (by kernel_rfl) (by kernel_rfl) Mono.true trivial ⟨rfl, trivial⟩ ?_
  refine wLoop (fun cs _ => Srch s cs) (fun _ _ _ _ h => h) (Smu s) (fun w _ => ⟨-1, 0, rfl, by omega, .inl ⟨rfl, fun k hk => by omega⟩⟩) (fun cs _ => ?_)
  intro hm u hF
  obtain ⟨⟨p, i, rfl, hi, hcase⟩, _⟩ := id hF
  refine wMono Mono.true (fun _ _ => trivial) ?_ hm u hF
  clear hm hF
  refine wPr (prLenS hStrT rfl) rfl ?_
  refine wPr (prLt rfl rfl) rfl ?_
  refine wIf _ rfl (fun e => ?_) (fun e => ?_)
  · have hil : i < s.size := by have : (i : Int) < s.size := by simpa using e
                                omega
    refine wPr (prLt rfl rfl) rfl ?_
    refine wIf _ rfl (fun e => ?_) (fun e => ?_)
    · have hp0 : p < 0 := by simpa using e
      have hno : p = -1 ∧ ∀ k, k < i → s.data.toList[k]? ≠ some 47 := by
        rcases hcase with h | ⟨o, h, _⟩
        · exact h
        · omega
      obtain ⟨b, hb⟩ : ∃ b, s.data.toList[i]? = some b := ⟨_, List.getElem?_eq_getElem (by rw [bytes_len]; exact hil)⟩
      refine wPr (prIdx hStrT rfl rfl hb) rfl ?_
      refine wPr (prEq rfl rfl) rfl ?_
      refine wIf _ rfl (fun e => ?_) (fun e => ?_)
      · have e1 : b = 47 := by
          have : (b.toNat : Int) = 47 := by simpa using e
          have h47 : (47 : UInt8).toNat = 47 := rfl
          exact UInt8.toNat_inj.1 (by omega)
        subst e1
        refine wPr (prAdd rfl rfl) rfl ?_
        rw [wrap_small (by omega) (by omega)]
        refine wBack fun w _ => ⟨⟨i, i + 1, rfl, by omega, .inr ⟨i, rfl, by omega, hb, hno.2⟩⟩, ?_⟩
        show s.size - ((i : Int) + 1).toNat < s.size - (i : Int).toNat
        omega
      · have e1 : b ≠ 47 := by
          intro h
          subst h
          simp at e
        refine wPr (prAdd rfl rfl) rfl ?_
        rw [wrap_small (by omega) (by omega)]
        refine wBack fun w _ => ⟨⟨p, i + 1, rfl, by omega, .inl ⟨hno.1, fun k hk => ?_⟩⟩, ?_⟩
        · by_cases hki : k = i
          · subst hki; rw [hb]; intro h; cases h; exact e1 rfl
          · exact hno.2 k (by omega)
        · show s.size - ((i : Int) + 1).toNat < s.size - (i : Int).toNat
          omega
    · have hp1 : ¬ p < 0 := by simpa using e
      have hsl : slashAt s = p := by
        rcases hcase with h | ⟨o, h, h2, h3, h4⟩
        · omega
        · rw [h]; exact index_of h3 h4
      refine wPr (prLt rfl rfl) rfl ?_
      refine wIf _ rfl (fun e => ?_) (fun e => ?_)
      · have hp0 : p < 0 := by simpa using e
        have hneg : slashAt s < 0 := by omega
        by_cases hi : IsInt s
        · refine wIntV hU (fun w b _ => rparseY s w hi) rfl (fun x1 y1 => ?_)
          refine wRef hU (fun w b _ => rnatOf_one w) (fun x2 => ?_)
          refine wRet fun w b ⟨h2, h1, _⟩ => .inl ⟨.inl ⟨hneg, hi⟩, _, rfl, ⟨_, _, _, rfl, ?_, ⟨_, h2.1, .inl ?_⟩, ?_⟩, b⟩
          · rw [(ratVal_int hneg).1]; exact h1
          · rw [(ratVal_int hneg).2]
          · rw [(ratVal_int hneg).2]; exact one_lt 500 (by decide)
        · refine wKnown [.bool false, .slice none 0 0, .bool false] (fun w b _ => rparseN s w hi) rfl rfl ?_
          refine wCall (fun cs w => ∃ x, cs = [x] ∧ x.oneCell' = true) (fun cs u w e h => h) (fun w b _ => (rnatOf_one w).mono ?_) (fun cs => ?_)
          · rintro e w' ⟨v, rfl, h1, hb⟩
            obtain ⟨_, _, _, _, rfl, _⟩ := h1.1.shape
            exact ⟨[_], rfl, rfl, ⟨_, rfl, rfl⟩, hb⟩
          · refine wRet fun w b ⟨⟨x, hc, hx⟩, _⟩ => ?_
            subst hc
            refine .inr ⟨fun h => ?_, _, _, _, rfl, by simp only [List.all_cons, List.all_nil, Bool.and_true, Bool.and_eq_true]; exact ⟨rfl, rfl, hx⟩, b⟩
            rcases h with h | h
            · exact hi h.2
            · omega
      · have hp0 : ¬ p < 0 := by simpa using e
        refine wPr (prSlH hStrT rfl rfl (by omega) (by omega)) rfl ?_
        rw [show s.extract 0 p.toNat = nPart s by unfold nPart; rw [hsl]]
        by_cases hi : IsInt (nPart s)
        · refine wIntV hU (fun w b _ => rparseY (nPart s) w hi) rfl (fun x1 y1 => ?_)
          refine wPr (prAdd rfl rfl) rfl ?_
          rw [wrap_small (by omega) (by omega)]
          refine wPr (prSlL hStrT rfl rfl (by omega) (by omega)) rfl ?_
          rw [show s.extract (p + 1).toNat s.size = dPart s by unfold dPart; rw [hsl, show (p + 1).toNat = p.toNat + 1 by omega]]
          by_cases hj : IsNum (byts (dPart s))
          · refine wRefV hU (fun w b _ => nparseY (dPart s) w hj) rfl (fun x2 => ?_)
            refine wPr (prNot rfl) rfl ?_
            refine wFalse rfl ?_
            refine wPr (prNot rfl) rfl ?_
            refine wFalse rfl ?_
            refine wRef hU (fun w b _ => rnatOf_one w) (fun x3 => ?_)
            refine wVal (fun w b ⟨h3, h2, _⟩ => rcmpB _ _ _ 1 500 1 w h2 h3 (by decide) (by decide)) rfl ?_
            refine wPr (prLe rfl rfl) rfl ?_
            refine wIf _ rfl (fun e => ?_) (fun e => ?_)
            · have e1 : ¬ 1 < decL (byts (dPart s)) := by have := (cmpI_le _).symm.trans e; simpa using this
              exact wRet fun w b _ => .inr ⟨fun h => h.elim (fun h => by omega) (fun h => e1 h.2.2.2.1), _, _, _, rfl, rfl, b⟩
            · have e1 : 1 < decL (byts (dPart s)) := by have := (cmpI_le _).symm.trans e; simpa using this
              refine wRef hU (fun w b ⟨_, h2, h1, _⟩ => rgcd_any _ _ _ _ 500 500 w h2 (ibr h1) (by decide) (by decide)) (fun x4 => ?_)
              refine wRef hU (fun w b _ => rnatOf_one w) (fun x5 => ?_)
              refine wVal (fun w b ⟨h5, h4, _⟩ => rcmpB _ _ _ 1 (500 + 500) 1 w h4 h5 (by decide) (by decide)) rfl ?_
              refine wPr (prNe rfl rfl) rfl ?_
              refine wIf _ rfl (fun e => ?_) (fun e => ?_)
              · have e2 : Nat.gcd (decL (byts (dPart s))) (intVal (nPart s)).natAbs ≠ 1 := by have := (cmpI_one' _).symm.trans e; simpa using this
                exact wRet fun w b _ => .inr ⟨fun h => h.elim (fun h => by omega) (fun h => e2 h.2.2.2.2), _, _, _, rfl, rfl, b⟩
              · have e2 : Nat.gcd (decL (byts (dPart s))) (intVal (nPart s)).natAbs = 1 := by have := (cmpI_one' _).symm.trans e; simpa using this
                obtain ⟨q1, q2⟩ := ratVal_quo (by omega) e1 e2
                refine wRet fun w b ⟨_, _, _, h2, h1, _⟩ => .inl ⟨.inr ⟨by omega, hi, hj, e1, e2⟩, _, rfl, ⟨_, _, _, rfl, ?_, ⟨_, h2.1, .inl ?_⟩, ?_⟩, b⟩
                · rw [q1]; exact h1
                · rw [q2]
                · rw [q2]; exact h2.2
          · refine wKnown [.slice none 0 0, .bool false] (fun w b _ => nparseN (dPart s) w hj) rfl rfl ?_
            refine wPr (prNot rfl) rfl ?_
            refine wFalse rfl ?_
            refine wPr (prNot rfl) rfl ?_
            refine wTrue rfl ?_
            exact wRet fun w b _ => .inr ⟨fun h => h.elim (fun h => by omega) (fun h => hj h.2.2.1), _, _, _, rfl, rfl, b⟩
        · refine wKnown [.bool false, .slice none 0 0, .bool false] (fun w b _ => rparseN (nPart s) w hi) rfl rfl ?_
          refine wPr (prAdd rfl rfl) rfl ?_
          rw [wrap_small (by omega) (by omega)]
          refine wPr (prSlL hStrT rfl rfl (by omega) (by omega)) rfl ?_
          rw [show s.extract (p + 1).toNat s.size = dPart s by unfold dPart; rw [hsl, show (p + 1).toNat = p.toNat + 1 by omega]]
          by_cases hj : IsNum (byts (dPart s))
          · refine wRefV hU (fun w b _ => nparseY (dPart s) w hj) rfl (fun x2 => ?_)
            refine wPr (prNot rfl) rfl ?_
            refine wTrue rfl ?_
            exact wRet fun w b _ => .inr ⟨fun h => h.elim (fun h => by omega) (fun h => hi h.2.1), _, _, _, rfl, rfl, b⟩
          · refine wKnown [.slice none 0 0, .bool false] (fun w b _ => nparseN (dPart s) w hj) rfl rfl ?_
            refine wPr (prNot rfl) rfl ?_
            refine wTrue rfl ?_
            exact wRet fun w b _ => .inr ⟨fun h => h.elim (fun h => by omega) (fun h => hi h.2.1), _, _, _, rfl, rfl, b⟩
  · have hil : ¬ i < s.size := by have : ¬ (i : Int) < s.size := by simpa using e
                                  omega
    have hsl : slashAt s = p := by
      rcases hcase with h | ⟨o, h, h2, h3, h4⟩
      · rw [h.1]; exact index_no (fun k hk => h.2 k (by rw [bytes_len] at hk; omega))
      · rw [h]; exact index_of h3 h4
    refine wPr (prLt rfl rfl) rfl ?_
    refine wIf _ rfl (fun e => ?_) (fun e => ?_)
    · have hp0 : p < 0 := by simpa using e
      have hneg : slashAt s < 0 := by omega
      by_cases hi : IsInt s
      · refine wIntV hU (fun w b _ => rparseY s w hi) rfl (fun x1 y1 => ?_)
        refine wRef hU (fun w b _ => rnatOf_one w) (fun x2 => ?_)
        refine wRet fun w b ⟨h2, h1, _⟩ => .inl ⟨.inl ⟨hneg, hi⟩, _, rfl, ⟨_, _, _, rfl, ?_, ⟨_, h2.1, .inl ?_⟩, ?_⟩, b⟩
        · rw [(ratVal_int hneg).1]; exact h1
        · rw [(ratVal_int hneg).2]
        · rw [(ratVal_int hneg).2]; exact one_lt 500 (by decide)
      · refine wKnown [.bool false, .slice none 0 0, .bool false] (fun w b _ => rparseN s w hi) rfl rfl ?_
        refine wCall (fun cs w => ∃ x, cs = [x] ∧ x.oneCell' = true) (fun cs u w e h => h) (fun w b _ => (rnatOf_one w).mono ?_) (fun cs => ?_)
        · rintro e w' ⟨v, rfl, h1, hb⟩
          obtain ⟨_, _, _, _, rfl, _⟩ := h1.1.shape
          exact ⟨[_], rfl, rfl, ⟨_, rfl, rfl⟩, hb⟩
        · refine wRet fun w b ⟨⟨x, hc, hx⟩, _⟩ => ?_
          subst hc
          refine .inr ⟨fun h => ?_, _, _, _, rfl, by simp only [List.all_cons, List.all_nil, Bool.and_true, Bool.and_eq_true]; exact ⟨rfl, rfl, hx⟩, b⟩
          rcases h with h | h
          · exact hi h.2
          · omega
    · have hp0 : ¬ p < 0 := by simpa using e
      refine wPr (prSlH hStrT rfl rfl (by omega) (by omega)) rfl ?_
      rw [show s.extract 0 p.toNat = nPart s by unfold nPart; rw [hsl]]
      by_cases hi : IsInt (nPart s)
      · refine wIntV hU (fun w b _ => rparseY (nPart s) w hi) rfl (fun x1 y1 => ?_)
        refine wPr (prAdd rfl rfl) rfl ?_
        rw [wrap_small (by omega) (by omega)]
        refine wPr (prSlL hStrT rfl rfl (by omega) (by omega)) rfl ?_
        rw [show s.extract (p + 1).toNat s.size = dPart s by unfold dPart; rw [hsl, show (p + 1).toNat = p.toNat + 1 by omega]]
        by_cases hj : IsNum (byts (dPart s))
        · refine wRefV hU (fun w b _ => nparseY (dPart s) w hj) rfl (fun x2 => ?_)
          refine wPr (prNot rfl) rfl ?_
          refine wFalse rfl ?_
          refine wPr (prNot rfl) rfl ?_
          refine wFalse rfl ?_
          refine wRef hU (fun w b _ => rnatOf_one w) (fun x3 => ?_)
          refine wVal (fun w b ⟨h3, h2, _⟩ => rcmpB _ _ _ 1 500 1 w h2 h3 (by decide) (by decide)) rfl ?_
          refine wPr (prLe rfl rfl) rfl ?_
          refine wIf _ rfl (fun e => ?_) (fun e => ?_)
          · have e1 : ¬ 1 < decL (byts (dPart s)) := by have := (cmpI_le _).symm.trans e; simpa using this
            exact wRet fun w b _ => .inr ⟨fun h => h.elim (fun h => by omega) (fun h => e1 h.2.2.2.1), _, _, _, rfl, rfl, b⟩
          · have e1 : 1 < decL (byts (dPart s)) := by have := (cmpI_le _).symm.trans e; simpa using this
            refine wRef hU (fun w b ⟨_, h2, h1, _⟩ => rgcd_any _ _ _ _ 500 500 w h2 (ibr h1) (by decide) (by decide)) (fun x4 => ?_)
            refine wRef hU (fun w b _ => rnatOf_one w) (fun x5 => ?_)
            refine wVal (fun w b ⟨h5, h4, _⟩ => rcmpB _ _ _ 1 (500 + 500) 1 w h4 h5 (by decide) (by decide)) rfl ?_
            refine wPr (prNe rfl rfl) rfl ?_
            refine wIf _ rfl (fun e => ?_) (fun e => ?_)
            · have e2 : Nat.gcd (decL (byts (dPart s))) (intVal (nPart s)).natAbs ≠ 1 := by have := (cmpI_one' _).symm.trans e; simpa using this
              exact wRet fun w b _ => .inr ⟨fun h => h.elim (fun h => by omega) (fun h => e2 h.2.2.2.2), _, _, _, rfl, rfl, b⟩
            · have e2 : Nat.gcd (decL (byts (dPart s))) (intVal (nPart s)).natAbs = 1 := by have := (cmpI_one' _).symm.trans e; simpa using this
              obtain ⟨q1, q2⟩ := ratVal_quo (by omega) e1 e2
              refine wRet fun w b ⟨_, _, _, h2, h1, _⟩ => .inl ⟨.inr ⟨by omega, hi, hj, e1, e2⟩, _, rfl, ⟨_, _, _, rfl, ?_, ⟨_, h2.1, .inl ?_⟩, ?_⟩, b⟩
              · rw [q1]; exact h1
              · rw [q2]
              · rw [q2]; exact h2.2
        · refine wKnown [.slice none 0 0, .bool false] (fun w b _ => nparseN (dPart s) w hj) rfl rfl ?_
          refine wPr (prNot rfl) rfl ?_
          refine wFalse rfl ?_
          refine wPr (prNot rfl) rfl ?_
          refine wTrue rfl ?_
          exact wRet fun w b _ => .inr ⟨fun h => h.elim (fun h => by omega) (fun h => hj h.2.2.1), _, _, _, rfl, rfl, b⟩
      · refine wKnown [.bool false, .slice none 0 0, .bool false] (fun w b _ => rparseN (nPart s) w hi) rfl rfl ?_
        refine wPr (prAdd rfl rfl) rfl ?_
        rw [wrap_small (by omega) (by omega)]
        refine wPr (prSlL hStrT rfl rfl (by omega) (by omega)) rfl ?_
        rw [show s.extract (p + 1).toNat s.size = dPart s by unfold dPart; rw [hsl, show (p + 1).toNat = p.toNat + 1 by omega]]
        by_cases hj : IsNum (byts (dPart s))
        · refine wRefV hU (fun w b _ => nparseY (dPart s) w hj) rfl (fun x2 => ?_)
          refine wPr (prNot rfl) rfl ?_
          refine wTrue rfl ?_
          exact wRet fun w b _ => .inr ⟨fun h => h.elim (fun h => by omega) (fun h => hi h.2.1), _, _, _, rfl, rfl, b⟩
        · refine wKnown [.slice none 0 0, .bool false] (fun w b _ => nparseN (dPart s) w hj) rfl rfl ?_
          refine wPr (prNot rfl) rfl ?_
          refine wTrue rfl ?_
          exact wRet fun w b _ => .inr ⟨fun h => h.elim (fun h => by omega) (fun h => hi h.2.1), _, _, _, rfl, rfl, b⟩
end Go.Proofs.YtkekgmdofgkbcaaGreatDoor

namespace Go.Proofs.YtkekgmdofgkbcaaGreatDoor
open Go.RowKit Cin
theorem dtext_any (v : Value) (q : Rat) (k : Nat) (w : World) (h : DRatB w v q k) (hk : k ≤ 200000) :
    Calls Tryz.prog 54 #[v] w fun e w' => e = .returned (.string (ratS q)) ∧ Below w.heap.size w w' := by
  obtain ⟨a, b, d, rfl, h⟩ := h
  have s1 := intS_size h.1.2
  have s2 := intS_size (z := (q.den : Int)) (k := k) (by rw [Int.natAbs_natCast]; exact h.2.2)
  have hd : decS q.den = intS q.den := by rw [intS_pos (by omega), Int.natAbs_natCast]
  refine go (fun w => DQ w a b d q k) [[a, b, d]] [some 3] (tr := (.em (.call 85 [.g [.c 0 0, .c 0 1, .c 0 2]] [none]) (.em (.call 95 [.s (.k (.int .u64 1))] [none]) (.em (.call 94 [.s (.c 1 0), .s (.c 2 0)] [none]) (.em (.pr (.binOp .eql 3 (.tmp 0) (.const (.int .i64 0)) 3) 4 [.s (.c 3 0), .s (.k (.int .i64 0))]) (.cond (.c 4 0) (.em (.call 96 [.g [.c 0 0, .c 0 1]] [none]) (.ret (.v (.s (.c 5 0))))) (.em (.call 96 [.g [.c 0 0, .c 0 1]] [none]) (.em (.pr (.binOp .add 9 (.tmp 0) (.const (.string ⟨#[47]⟩)) 9) 9 [.s (.c 5 0), .s (.k (.string ⟨#[47]⟩))]) (.em (.call 97 [.s (.c 0 2)] [none]) (.em (.pr (.binOp .add 9 (.tmp 0) (.tmp 1) 9) 9 [.s (.c 6 0), .s (.c 7 0)]) (.ret (.v (.s (.c 8 0)))))))))))))) (by kernel_rfl) (by kernel_rfl) (by kernel_rfl) (mD _ _ _ _ _) h ⟨dpl h, trivial⟩ ?_
  refine wRef hU (fun w b h => dden_any _ q k w ⟨_, _, _, rfl, h⟩) (fun x1 => ?_)
  refine wRef hU (fun w b _ => rnatOf_one w) (fun x2 => ?_)
  refine wVal (fun w b ⟨h2, h1, _⟩ => rcmpB _ _ q.den 1 k 1 w h1 h2 (by omega) (by decide)) rfl ?_
  refine wPr (prEq rfl rfl) rfl ?_
  refine wIf _ rfl (fun e => ?_) (fun e => ?_)
  · have e1 : q.den = 1 := by have := (cmpI_one _).symm.trans e; simpa using this
    refine wVal (fun w b ⟨_, _, h⟩ => ritext_any _ q.num k w h.1 (by omega)) rfl ?_
    exact wRet fun w b _ => ⟨by unfold ratS; rw [if_pos e1]; rfl, b⟩
  · have e1 : ¬ q.den = 1 := by have := (cmpI_one _).symm.trans e; simpa using this
    refine wVal (fun w b ⟨_, _, h⟩ => ritext_any _ q.num k w h.1 (by omega)) rfl ?_
    refine wPr (prSAdd rfl rfl (by show _ + 1 ≤ _; omega)) rfl ?_
    refine wVal (v := .string (intS q.den)) (fun w b ⟨_, _, _, ⟨n, hr, hn⟩, hlt⟩ => by
      rw [← hd]
      rcases hn with rfl | hn
      · exact rtextB _ _ k w ⟨hr, hlt⟩ (by omega)
      · exact absurd hn.2 e1) rfl ?_
    refine wPr (prSAdd rfl rfl (by rw [ByteArray.size_append]; show _ + 1 + _ ≤ _; omega)) rfl ?_
    exact wRet fun w b _ => ⟨by unfold ratS; rw [if_neg e1]; rfl, b⟩
theorem num_den (x : Rat) : (x.num : Rat) / ((x.den : Int) : Rat) = x := by rw [Rat.intCast_natCast, ← Rat.mkRat_eq_div, Rat.mkRat_self]
theorem den_ne (x : Rat) : ((x.den : Int) : Rat) ≠ 0 := fun h => by have := Rat.intCast_eq_zero_iff.1 h; have := x.den_pos; omega
theorem nq_div (n d : Int) : nq n d = (n : Rat) / (d : Rat) := by
  unfold nq
  rw [Rat.mkRat_eq_div]
  by_cases h : d < 0
  · rw [if_pos h, ← Rat.intCast_natCast, show ((d.natAbs : Nat) : Int) = -d by omega, Rat.intCast_neg, Rat.intCast_neg]
    grind
  · rw [if_neg h, ← Rat.intCast_natCast, show ((d.natAbs : Nat) : Int) = d by omega]
theorem cutL_any (s : ByteArray) (w : World) (hs : s.size ≤ 9223372036854775807) :
    Calls Tryz.prog 150 #[.string s, .string ⟨#[47]⟩] w fun e w' => e = .returned (if 0 ≤ slashAt s then .tuple #[.string (nPart s), .string (dPart s), .bool true] else .tuple #[.string s, .string ⟨#[]⟩, .bool false]) ∧ Below w.heap.size w w' := by
  have hlt := slash_lt s
  refine go (fun _ => True) [[.string s], [.string ⟨#[47]⟩]] [none, none] (tr := (.em (.call 186 [.s (.c 0 0), .s (.c 1 0)] [none]) (.em (.pr (.binOp .geq 3 (.tmp 0) (.const (.int .i64 0)) 3) 4 [.s (.c 2 0), .s (.k (.int .i64 0))]) (.cond (.c 3 0) (.em (.pr (.slice 9 (.tmp 0) none (some (.tmp 1)) none) 9 [.s (.c 0 0), .s (.c 2 0)]) (.em (.pr (.call (.mk (.builtin .len) #[.tmp 0] #[9])) 3 [.s (.c 1 0)]) (.em (.pr (.binOp .add 3 (.tmp 0) (.tmp 1) 3) 3 [.s (.c 2 0), .s (.c 5 0)]) (.em (.pr (.slice 9 (.tmp 0) (some (.tmp 1)) none none) 9 [.s (.c 0 0), .s (.c 6 0)]) (.ret (.t [.s (.c 4 0), .s (.c 7 0), .s (.k (.bool true))])))))) (.ret (.t [.s (.c 0 0), .s (.k (.string ⟨#[]⟩)), .s (.k (.bool false))])))))) (by kernel_rfl) (by kernel_rfl) (by kernel_rfl) Mono.true trivial ⟨rfl, rfl, trivial⟩ ?_
  refine wVal (v := .int .i64 (slashAt s)) (fun w b _ => (Tryz.stringslite_Index_one s 47 w).mono fun e w' ⟨h1, h2⟩ => ⟨h1, by rw [h2]; exact Below.refl _ _⟩) rfl ?_
  refine wPr (prGe rfl rfl) rfl ?_
  refine wIf _ rfl (fun e => ?_) (fun e => ?_)
  · have h0 : 0 ≤ slashAt s := by simpa using e
    refine wPr (prSlH hStrT rfl rfl (by omega) (by omega)) rfl ?_
    refine wPr (prLenS hStrT rfl) rfl ?_
    refine wPr (prAdd rfl rfl) rfl ?_
    rw [show ((ByteArray.size ⟨#[47]⟩ : Nat) : Int) = 1 from rfl, wrap_small (by omega) (by omega)]
    refine wPr (prSlL hStrT rfl rfl (by omega) (by omega)) rfl ?_
    refine wRet fun w b _ => ⟨?_, b⟩
    rw [if_pos h0]
    unfold nPart dPart
    rw [show (slashAt s).toNat + 1 = (slashAt s + 1).toNat by omega]
    rfl
  · have h0 : ¬ 0 ≤ slashAt s := by simpa using e
    exact wRet fun w b _ => ⟨by rw [if_neg h0]; rfl, b⟩
theorem cut_any (s : ByteArray) (w : World) (hs : s.size ≤ 9223372036854775807) :
    Calls Tryz.prog 109 #[.string s, .string ⟨#[47]⟩] w fun e w' => e = .returned (if 0 ≤ slashAt s then .tuple #[.string (nPart s), .string (dPart s), .bool true] else .tuple #[.string s, .string ⟨#[]⟩, .bool false]) ∧ Below w.heap.size w w' := by
  refine go (fun _ => True) [[.string s], [.string ⟨#[47]⟩]] [none, none] (tr := (.em (.call 150 [.s (.c 0 0), .s (.c 1 0)] [none, none, none]) (.ret (.t [.s (.c 2 0), .s (.c 2 1), .s (.c 2 2)])))) (by kernel_rfl) (by kernel_rfl) (by kernel_rfl) Mono.true trivial ⟨rfl, rfl, trivial⟩ ?_
  by_cases h0 : 0 ≤ slashAt s
  · refine wKnown [.string (nPart s), .string (dPart s), .bool true] (fun w b _ => cutL_any s w hs) (by rw [if_pos h0]; rfl) rfl ?_
    exact wRet fun w b _ => ⟨by rw [if_pos h0]; rfl, b⟩
  · refine wKnown [.string s, .string ⟨#[]⟩, .bool false] (fun w b _ => cutL_any s w hs) (by rw [if_neg h0]; rfl) rfl ?_
    exact wRet fun w b _ => ⟨by rw [if_neg h0]; rfl, b⟩
theorem iparseY (s : ByteArray) (w : World) (h : IsInt s) : Calls Tryz.prog 110 #[.string s] w fun e w' => ∃ v, e = .returned (.tuple #[v, .int .i64 0]) ∧ IntB 190 w' v (intVal s) 500 ∧ Below w.heap.size w w' :=
  (iparse_any s w).mono fun e w' hp => by
    rcases hp with ⟨_, h⟩ | ⟨hn, _⟩
    · exact h
    · exact absurd h hn
theorem num_int {s : ByteArray} (h : IsNum (byts s)) : IsInt s ∧ intVal s = (decL (byts s) : Nat) := by
  have hn : negT s = false := by
    cases hneg : negT s with
    | false => rfl
    | true =>
      unfold negT at hneg
      simp only [Bool.and_eq_true, decide_eq_true_eq] at hneg
      have h1 := h.1
      have := h.2.2.2 (lim (byts s) 0) (by
        have hl : 0 < (byts s).length := by omega
        have := getElem?_lim (xs := byts s) hl
        exact List.mem_of_getElem? this)
      omega
  have hd : digT s = s := by unfold digT; rw [hn]; rfl
  refine ⟨⟨by rw [hd]; exact h, by rw [hn]; intro h; cases h⟩, ?_⟩
  unfold intVal
  rw [hn, hd]; rfl
theorem qparse_ok (s : ByteArray) (w : World) (hs : s.size ≤ 9223372036854775807) (h : RatOk s) :
    Calls Tryz.prog 64 #[.string s] w fun e w' => ∃ v', e = .returned (.tuple #[v', .int .i64 0]) ∧ RatB w' v' (ratVal s) 500 ∧ Below w.heap.size w w' := by
  refine go (fun _ => True) [[.string s]] [none] (tr := (.em (.call 109 [.s (.c 0 0), .s (.k (.string ⟨#[47]⟩))] [none, none, none]) (.em (.call 110 [.s (.c 1 0)] [some 2, none]) (.em (.pr (.binOp .neq 27 (.tmp 0) (.const (.int .i64 0)) 27) 4 [.s (.c 2 2), .s (.k (.int .i64 0))]) (.cond (.c 3 0) (.ret (.t [.g [.k (.bool false), .k (.slice none 0 0), .k (.bool false), .k (.slice none 0 0)], .s (.k (.int .i64 2))])) (.em (.pr (.unOp .not 4 (.tmp 0)) 4 [.s (.c 1 2)]) (.cond (.c 4 0) (.ret (.t [.g [.c 2 0, .c 2 1, .k (.bool false), .k (.slice none 0 0)], .s (.k (.int .i64 0))])) (.em (.call 110 [.s (.c 1 1)] [some 2, none]) (.em (.pr (.binOp .neq 27 (.tmp 0) (.const (.int .i64 0)) 27) 4 [.s (.c 5 2), .s (.k (.int .i64 0))]) (.cond (.c 6 0) (.ret (.t [.g [.k (.bool false), .k (.slice none 0 0), .k (.bool false), .k (.slice none 0 0)], .s (.k (.int .i64 2))])) (.em (.call 111 [.s (.k (.int .i64 1))] [some 2]) (.em (.call 72 [.g [.c 5 0, .c 5 1], .g [.c 7 0, .c 7 1]] [none]) (.em (.pr (.binOp .leq 3 (.tmp 0) (.const (.int .i64 0)) 3) 4 [.s (.c 8 0), .s (.k (.int .i64 0))]) (.cond (.c 9 0) (.ret (.t [.g [.k (.bool false), .k (.slice none 0 0), .k (.bool false), .k (.slice none 0 0)], .s (.k (.int .i64 2))])) (.em (.call 76 [.g [.c 2 0, .c 2 1], .g [.c 5 0, .c 5 1]] [some 2]) (.em (.call 112 [.g [.c 10 0, .c 10 1]] [none]) (.em (.pr (.unOp .not 4 (.tmp 0)) 4 [.s (.c 11 0)]) (.cond (.c 12 0) (.ret (.t [.g [.k (.bool false), .k (.slice none 0 0), .k (.bool false), .k (.slice none 0 0)], .s (.k (.int .i64 2))])) (.ret (.t [.g [.c 2 0, .c 2 1, .c 5 0, .c 5 1], .s (.k (.int .i64 0))])))))))))))))))))))) (by kernel_rfl) (by kernel_rfl) (by kernel_rfl) Mono.true trivial ⟨rfl, trivial⟩ ?_
  rcases h with ⟨hneg, hi⟩ | ⟨hpos, hi, hj, e1, e2⟩
  · refine wKnown [.string s, .string ⟨#[]⟩, .bool false] (fun w b _ => cut_any s w hs) (by rw [if_neg (by omega)]; rfl) rfl ?_
    refine wIntV hU (fun w b _ => iparseY s w hi) rfl (fun x1 y1 => ?_)
    refine wPr (prNe rfl rfl) rfl ?_
    refine wFalse rfl ?_
    refine wPr (prNot rfl) rfl ?_
    refine wTrue rfl ?_
    obtain ⟨q1, q2⟩ := ratVal_int hneg
    refine wRet fun w b ⟨h1, _⟩ => ⟨_, rfl, ⟨_, _, _, _, rfl, ?_, ?_, ?_⟩, b⟩
    · rw [q1]; exact h1
    · show IntB _ _ _ (denZ _) _
      unfold denZ
      rw [if_pos q2]; exact IntB.zero _ _ _
    · rw [q2]; exact one_lt 500 (by decide)
  · obtain ⟨hj1, hj2⟩ := num_int hj
    obtain ⟨q1, q2⟩ := ratVal_quo hpos e1 e2
    refine wKnown [.string (nPart s), .string (dPart s), .bool true] (fun w b _ => cut_any s w hs) (by rw [if_pos hpos]; rfl) rfl ?_
    refine wIntV hU (fun w b _ => iparseY _ w hi) rfl (fun x1 y1 => ?_)
    refine wPr (prNe rfl rfl) rfl ?_
    refine wFalse rfl ?_
    refine wPr (prNot rfl) rfl ?_
    refine wFalse rfl ?_
    refine wIntV hU (z := (decL (byts (dPart s)) : Nat)) (fun w b _ => by rw [← hj2]; exact iparseY _ w hj1) rfl (fun x2 y2 => ?_)
    refine wPr (prNe rfl rfl) rfl ?_
    refine wFalse rfl ?_
    refine wInt hU (fun w b _ => iof_any 1 w (by decide) (by decide)) (fun x3 y3 => ?_)
    refine wVal (v := .int .i64 1) (fun w b ⟨h3, h2, _⟩ => by
      have e : cmpZ ((decL (byts (dPart s)) : Nat) : Int) 1 = 1 := by unfold cmpZ; rw [if_neg (by omega), if_pos (by omega)]
      rw [← e]
      exact icmp_any _ _ _ 1 500 2 w h2 h3 (by decide) (by decide)) rfl ?_
    refine wPr (prLe rfl rfl) rfl ?_
    refine wFalse rfl ?_
    refine wInt hU (z := 1) (fun w b ⟨_, h2, h1, _⟩ => by
      have e : ((Nat.gcd (intVal (nPart s)).natAbs ((decL (byts (dPart s)) : Nat) : Int).natAbs : Nat) : Int) = 1 := by rw [Int.natAbs_natCast, Nat.gcd_comm, e2]; rfl
      rw [← e]
      exact qgcd_any _ _ _ _ 500 500 w h1 h2 (by decide) (by decide)) (fun x4 y4 => ?_)
    refine wVal (v := .bool true) (fun w b ⟨h4, _⟩ => isOne_any _ 1 _ w h4 (by decide)) rfl ?_
    refine wPr (prNot rfl) rfl ?_
    refine wFalse rfl ?_
    refine wRet fun w b ⟨_, _, h2, h1, _⟩ => ⟨_, rfl, ⟨_, _, _, _, rfl, ?_, ?_, ?_⟩, b⟩
    · rw [q1]; exact h1
    · show IntB _ _ _ (denZ _) _
      unfold denZ
      rw [if_neg (by omega), q2]; exact h2
    · rw [q2]; have := h2.2; rwa [Int.natAbs_natCast] at this
theorem is_any (v u : Value) (q : Rat) (k j : Nat) (w : World) (h : RatB w v q k) (h' : DRatB w u q j) (hk : k ≤ 200000) (hj : j ≤ 200000) (hT : TabsP w) :
    Calls Tryz.prog 23 #[v, u] w fun e w' => e = .returned (.bool true) ∧ Below w.heap.size w w' := by
  obtain ⟨a, b, c, d, rfl, h⟩ := h
  obtain ⟨a', b', d', rfl, h'⟩ := h'
  refine go (fun w => QB w a b c d q k ∧ DQ w a' b' d' q j) [[a, b, c, d], [a', b', d']] [some 4, some 3] (tr := (.em (.call 53 [.g [.c 0 0, .c 0 1, .c 0 2, .c 0 3]] [none]) (.em (.call 54 [.g [.c 1 0, .c 1 1, .c 1 2]] [none]) (.em (.pr (.binOp .eql 9 (.tmp 0) (.tmp 1) 9) 4 [.s (.c 2 0), .s (.c 3 0)]) (.ret (.v (.s (.c 4 0)))))))) (by kernel_rfl) (by kernel_rfl) (by kernel_rfl) ((mQ _ _ _ _ _ _).and (mD _ _ _ _ _)) ⟨h, h'⟩ ⟨qpl h, dpl h', trivial⟩ ?_
  refine wVal (fun w b ⟨h, _⟩ => qtext_any _ q k w ⟨_, _, _, _, rfl, h⟩ hk (hT.below b)) rfl ?_
  refine wVal (fun w b ⟨_, h'⟩ => dtext_any _ q j w ⟨_, _, _, rfl, h'⟩ hj) rfl ?_
  refine wPr (prSEq rfl rfl) rfl ?_
  exact wRet fun w b _ => ⟨by show Ending.returned (.bool _) = _; rw [beq_self_eq_true], b⟩
end Go.Proofs.YtkekgmdofgkbcaaGreatDoor

namespace Go.Proofs.YtkekgmdofgkbcaaGreatDoor
open Go.RowKit Cin
section rules
variable {w0 : World} {Post : Ending → World → Prop} {F : World → Prop} {L : LC} {E : Env} {tr : Tr} {f : FuncId} {ar : List V1} {args : Array Value}
theorem wRatV {D Z : TypeId → Bool} {q : Rat} {m : Nat} {c : Value}
    (hc : ∀ w, Below w0.heap.size w0 w → F w → Calls Tryz.prog f args w fun e w' => ∃ v, e = .returned (.tuple #[v, c]) ∧ RatB w' v q m ∧ Below w.heap.size w w') (hv : c.oneCell' = true)
    {E' : Value → Value → Value → Value → Env} (hk : ∀ a b c d, Wk Tryz.prog w0 D Z Post L (fun w => QB w a b c d q m ∧ F w) tr (E' a b c d)) (ha : (ar.map (V1.den [] E)).toArray = args := by rfl) (hE : ∀ a b c' d, E ++ [[a, b, c', d, c]] = E' a b c' d := by intros; (simp only [List.cons_append, List.nil_append]) <;> exact rfl) (hD : D 190 = true := by rfl) : Wk Tryz.prog w0 D Z Post L F (.em (.call f ar [some 4, none]) tr) E := by
  intro hm u hF w e b
  subst ha
  refine (hc w b (hm u.w w e.ext hF)).mono ?_
  rintro e1 w' ⟨v, rfl, ⟨a, b, c', d, rfl, h1⟩, h4⟩
  have p := qpl h1
  simp only [List.all_cons, List.all_nil, Bool.and_true, Bool.and_eq_true] at p
  exact ⟨[a, b, c', d, c], rfl, by simp only [List.all_cons, List.all_nil, Bool.and_true, Bool.and_eq_true]; exact ⟨p.1, p.2.1, p.2.2.1, p.2.2.2, hv⟩, h4, hE _ _ _ _ ▸ hk _ _ _ _ ((mQ _ _ _ _ _ _ hD).and hm) (u.more w w') ⟨h1, hm u.w w' (e.below h4).ext hF⟩⟩
theorem wDQV {D Z : TypeId → Bool} {q : Rat} {m : Nat} {c : Value}
    (hc : ∀ w, Below w0.heap.size w0 w → F w → Calls Tryz.prog f args w fun e w' => ∃ v, e = .returned (.tuple #[v, c]) ∧ DRatB w' v q m ∧ Below w.heap.size w w') (hv : c.oneCell' = true)
    {E' : Value → Value → Value → Env} (hk : ∀ a b d, Wk Tryz.prog w0 D Z Post L (fun w => DQ w a b d q m ∧ F w) tr (E' a b d)) (ha : (ar.map (V1.den [] E)).toArray = args := by rfl) (hE : ∀ a b d, E ++ [[a, b, d, c]] = E' a b d := by intros; (simp only [List.cons_append, List.nil_append]) <;> exact rfl) (hD : D 190 = true := by rfl) : Wk Tryz.prog w0 D Z Post L F (.em (.call f ar [some 3, none]) tr) E := by
  intro hm u hF w e b
  subst ha
  refine (hc w b (hm u.w w e.ext hF)).mono ?_
  rintro e1 w' ⟨v, rfl, ⟨a, b, d, rfl, h1⟩, h4⟩
  have p := dpl h1
  simp only [List.all_cons, List.all_nil, Bool.and_true, Bool.and_eq_true] at p
  exact ⟨[a, b, d, c], rfl, by simp only [List.all_cons, List.all_nil, Bool.and_true, Bool.and_eq_true]; exact ⟨p.1, p.2.1, p.2.2, hv⟩, h4, hE _ _ _ ▸ hk _ _ _ ((mD _ _ _ _ _ hD).and hm) (u.more w w') ⟨h1, hm u.w w' (e.below h4).ext hF⟩⟩
end rules
theorem dparseY (s : ByteArray) (w : World) (hs : s.size ≤ 9223372036854775807) (h : RatOk s) : Calls Tryz.prog 63 #[.string s] w fun e w' => ∃ v, e = .returned (.tuple #[v, .bool true]) ∧ DRatB w' v (ratVal s) 500 ∧ Below w.heap.size w w' :=
  (dparse_any s w hs).mono fun e w' hp => by
    rcases hp with ⟨_, h⟩ | ⟨hn, _⟩
    · exact h
    · exact absurd h hn
def NumQ (a : ByteArray) : Prop := RatOk a ∧ a.size ≤ 100
theorem int_lt {s : ByteArray} (h : IsInt s) (hs : s.size ≤ 100) : (intVal s).natAbs < pw 21 := by
  unfold intVal
  rw [sg_natAbs]
  refine decL_lt_pw h.1.2.2.2 ?_
  unfold digT
  split
  · rw [byts_tl, List.length_drop, byts_length]; omega
  · rw [byts_length]; omega
theorem ext_size (s : ByteArray) (a b : Nat) : (s.extract a b).size ≤ s.size := by
  rw [← byts_length, byts_extract, List.length_take, List.length_drop, byts_length]; omega
theorem numQ_lt {s : ByteArray} (h : NumQ s) : (ratVal s).num.natAbs < pw 21 ∧ (ratVal s).den < pw 21 := by
  obtain ⟨h, hs⟩ := h
  rcases h with ⟨hneg, hi⟩ | ⟨hpos, hi, hj, e1, e2⟩
  · obtain ⟨q1, q2⟩ := ratVal_int hneg
    rw [q1, q2]
    exact ⟨int_lt hi hs, one_lt 21 (by decide)⟩
  · obtain ⟨q1, q2⟩ := ratVal_quo hpos e1 e2
    rw [q1, q2]
    refine ⟨int_lt hi (Nat.le_trans (ext_size _ _ _) hs), decL_lt_pw hj.2.2.2 ?_⟩
    rw [byts_length]
    have := ext_size s ((slashAt s).toNat + 1) s.size
    exact Nat.le_trans this (by omega)
theorem QB.cut {w : World} {a b c d : Value} {q : Rat} {k j : Nat} (h : QB w a b c d q k) (hn : q.num.natAbs < pw j) (hd : q.den < pw j) : QB w a b c d q j :=
  ⟨⟨h.1.1, hn⟩, ⟨h.2.1.1, by unfold denZ; split <;> (first | exact pw_pos j | (rw [Int.natAbs_natCast]; exact hd))⟩, hd⟩
theorem DQ.cut {w : World} {a b d : Value} {q : Rat} {k j : Nat} (h : DQ w a b d q k) (hn : q.num.natAbs < pw j) (hd : q.den < pw j) : DQ w a b d q j := ⟨⟨h.1.1, hn⟩, h.2.1, hd⟩
theorem isNum_one {c : Nat} (h : 48 ≤ c ∧ c ≤ 57) : IsNum [c] := ⟨by simp, by simp, .inl rfl, fun x hx => by rw [List.mem_singleton.1 hx]; exact h⟩
end Go.Proofs.YtkekgmdofgkbcaaGreatDoor
