/- Numbers whose denominator is a power of two: plain facts. No program. -/
import Derived.Test.YtfohgkabmdhhaaaGreatDoorYt
import Derived.Test.YtfohgkabmdhhaaaGreatDoorYu
import Derived.Test.YtfohgkabmdhhaaaGreatDoorYv
import Derived.Test.YtfohgkabmdhhaaaGreatDoorYc
namespace Cin

/-- 2 to the e. -/
def tp (e : Int) : Rat := (2 : Rat) ^ e
theorem rle_lt {a b c : Rat} (h : a ≤ b) (h' : b < c) : a < c := by grind
theorem rlt_le {a b c : Rat} (h : a < b) (h' : b ≤ c) : a < c := by grind
theorem two_pos (e : Int) : 0 < tp e := Rat.zpow_pos (by decide)
theorem two_ne (e : Int) : tp e ≠ 0 := Rat.ne_of_gt (two_pos e)
theorem two_add (a b : Int) : tp (a + b) = tp a * tp b := Rat.zpow_add (by decide) a b
theorem two_zero : tp 0 = 1 := Rat.zpow_zero 2
theorem two_nat (n : Nat) : tp n = ((2 ^ n : Nat) : Rat) := by
  unfold tp
  rw [Rat.zpow_natCast, Rat.natCast_pow]; rfl
theorem two_natZ (n : Nat) : tp n = ((2 ^ n : Int) : Rat) := by rw [two_nat, ← Rat.intCast_natCast, Int.natCast_pow]; rfl
theorem two_neg (e : Int) : tp e * tp (-e) = 1 := by rw [← two_add, Int.add_right_neg, two_zero]
theorem two_one : tp 1 = 2 := Rat.zpow_one 2
theorem two_mono {a b : Int} (h : a ≤ b) : tp a ≤ tp b := by
  obtain ⟨n, rfl⟩ := Int.le.dest h
  rw [two_add, two_nat]
  have h1 : (1 : Rat) ≤ ((2 ^ n : Nat) : Rat) := by
    have : ((1 : Nat) : Rat) ≤ ((2 ^ n : Nat) : Rat) := Rat.natCast_le_natCast.2 (Nat.one_le_two_pow)
    exact this
  have := Rat.mul_le_mul_of_nonneg_left h1 (Rat.le_of_lt (two_pos a))
  rwa [Rat.mul_one] at this
theorem two_lt_of {a b : Int} (h : tp a < tp b) : a < b := by
  by_cases h1 : a < b
  · exact h1
  · exact absurd (two_mono (Int.not_lt.1 h1)) (Rat.not_le.2 h)
/-- In one form: an odd number times a power of two. -/
def Can (m e : Int) : Prop := (m = 0 ∧ e = 0) ∨ m % 2 = 1
def IsDy (q : Rat) (m e : Int) : Prop := Can m e ∧ q = (m : Rat) * tp e
theorem IsDy.unique_le {q : Rat} {m e m' e' : Int} (h : IsDy q m e) (h' : IsDy q m' e') (hle : e ≤ e') (h0 : q ≠ 0) : m = m' ∧ e = e' := by
  obtain ⟨n, rfl⟩ := Int.le.dest hle
  have hq := h.2.symm.trans h'.2
  rw [two_add, two_natZ] at hq
  have e1 : (m : Rat) = ((m' * 2 ^ n : Int) : Rat) := by
    rw [Rat.intCast_mul]
    have := two_ne e
    generalize tp e = t at *
    generalize ((2 ^ n : Int) : Rat) = s at *
    grind
  have e2 : m = m' * 2 ^ n := Rat.intCast_inj.1 e1
  have hm : m % 2 = 1 := by
    rcases h.1 with ⟨r, _⟩ | r
    · refine absurd ?_ h0
      rw [h.2, r]; exact Rat.zero_mul _
    · exact r
  cases n with
  | zero => simp at e2; subst e2; exact ⟨rfl, by simp⟩
  | succ n =>
    rw [Int.pow_succ, ← Int.mul_assoc] at e2
    omega
theorem IsDy.unique {q : Rat} {m e m' e' : Int} (h : IsDy q m e) (h' : IsDy q m' e') : m = m' ∧ e = e' := by
  by_cases h0 : q = 0
  · have z : ∀ {m e : Int}, IsDy q m e → m = 0 ∧ e = 0 := by
      intro m e h
      rcases h.1 with r | r
      · exact r
      · have h2 := h.2
        rw [h0] at h2
        rcases Rat.mul_eq_zero.1 h2.symm with r1 | r1
        · have := Rat.intCast_eq_zero_iff.1 r1
          omega
        · exact absurd r1 (two_ne e)
    obtain ⟨rfl, rfl⟩ := z h
    obtain ⟨rfl, rfl⟩ := z h'
    exact ⟨rfl, rfl⟩
  · rcases Int.le_total e e' with hl | hl
    · exact h.unique_le h' hl h0
    · obtain ⟨a, b⟩ := h'.unique_le h hl h0
      exact ⟨a.symm, b.symm⟩
/-- Each whole number times a power of two is one. -/
theorem isDy_of {m : Int} {n z : Nat} {e : Int} (hm : m ≠ 0) (hz : IsTz m.natAbs z) (hn : n = m.natAbs / 2 ^ z) : IsDy ((m : Rat) * tp e) (if m < 0 then -(n : Int) else n) (e + z) := by
  rcases hz with ⟨h, _⟩ | ⟨c, hc⟩
  · omega
  · have h1 : n = 2 * c + 1 := by rw [hn, hc, Nat.mul_div_cancel_left _ (Nat.two_pow_pos z)]
    have h2 : m = (if m < 0 then -(n : Int) else n) * 2 ^ z := by
      have h3 : (m.natAbs : Int) = (n : Int) * 2 ^ z := by
        rw [hc, h1, Int.natCast_mul, Int.natCast_pow, Int.mul_comm]; rfl
      split
      · rw [Int.neg_mul]; omega
      · omega
    refine ⟨.inr ?_, ?_⟩
    · split <;> omega
    · generalize (if m < 0 then -(n : Int) else (n : Int)) = r at h2
      rw [h2, two_add, two_natZ, Rat.intCast_mul]
      grind
theorem dy_zero : IsDy 0 0 0 := ⟨.inl ⟨rfl, rfl⟩, by rw [two_zero, Rat.mul_one]; rfl⟩
theorem tz_ex (n : Nat) (h : n ≠ 0) : ∃ z, IsTz n z := by
  induction n using Nat.strongRecOn with
  | ind n ih =>
    rcases Nat.mod_two_eq_zero_or_one n with r | r
    · obtain ⟨z, hz⟩ := ih (n / 2) (by omega) (by omega)
      rcases hz with ⟨h1, _⟩ | ⟨c, hc⟩
      · omega
      · exact ⟨z + 1, .inr ⟨c, by rw [Nat.pow_succ, Nat.mul_right_comm, ← hc]; omega⟩⟩
    · exact ⟨0, .inr ⟨n / 2, by omega⟩⟩
def tzG : Nat → Nat → Nat
  | 0, _ => 0
  | f + 1, n => if n % 2 = 0 then tzG f (n / 2) + 1 else 0
/-- How often 2 goes into it. -/
def tzOf (n : Nat) : Nat := if n = 0 then 0 else tzG n n
theorem tzG_ok (f n : Nat) (h : n ≠ 0) (hf : n ≤ f) : IsTz n (tzG f n) := by
  induction f generalizing n with
  | zero => omega
  | succ f ih =>
    unfold tzG
    split
    · rename_i r
      rcases ih (n / 2) (by omega) (by omega) with ⟨h1, _⟩ | ⟨c, hc⟩
      · omega
      · exact .inr ⟨c, by rw [Nat.pow_succ, Nat.mul_right_comm, ← hc]; omega⟩
    · exact .inr ⟨n / 2, by simp; omega⟩
theorem tzOf_ok (n : Nat) : IsTz n (tzOf n) := by
  unfold tzOf
  split
  · rename_i h; exact .inl ⟨h, rfl⟩
  · rename_i h; exact tzG_ok n n h (Nat.le_refl _)
/-- Its odd part, its power of two. -/
def oddOf (q : Rat) : Int := if q.num < 0 then -((q.num.natAbs / 2 ^ tzOf q.num.natAbs : Nat) : Int) else (q.num.natAbs / 2 ^ tzOf q.num.natAbs : Nat)
def expOf (q : Rat) : Int := -(tzOf q.den : Int) + tzOf q.num.natAbs
def Dy (q : Rat) : Prop := IsDy q (oddOf q) (expOf q)
theorem dy_iff {q : Rat} {k : Nat} (h : q.den = 2 ^ k) : Dy q := by
  have e : q = (q.num : Rat) * tp (-(k : Int)) := by
    have h1 : (q.num : Rat) = q * (q.den : Rat) := by
      have e := Rat.mkRat_self q
      rw [Rat.mkRat_eq_div] at e
      have hd : (q.den : Rat) ≠ 0 := by
        have := q.den_nz
        intro h; exact this (Rat.natCast_eq_zero_iff.1 h)
      rw [← Rat.div_mul_cancel (a := (q.num : Rat)) hd, e]
    rw [h1, h, ← two_nat, Rat.mul_assoc, two_neg, Rat.mul_one]
  by_cases h0 : q.num = 0
  · have : q = 0 := Rat.num_eq_zero.1 h0
    rw [this]
    exact dy_zero
  · have hk : tzOf q.den = k := by
      have h1 := tzOf_ok q.den
      rw [h] at h1 ⊢
      rcases h1 with ⟨r, _⟩ | ⟨m, hm⟩
      · have := Nat.two_pow_pos k; omega
      · generalize tzOf (2 ^ k) = t at *
        have hle : t ≤ k := by
          have : 2 ^ t ≤ 2 ^ k := by rw [hm]; exact Nat.le_mul_of_pos_right _ (by omega)
          exact (Nat.pow_le_pow_iff_right (by decide)).1 this
        obtain ⟨d, rfl⟩ := Nat.exists_eq_add_of_le hle
        rw [Nat.pow_add] at hm
        have r2 := Nat.eq_of_mul_eq_mul_left (Nat.two_pow_pos t) hm
        cases d with
        | zero => rfl
        | succ d => rw [Nat.pow_succ] at r2; omega
    have r := isDy_of (m := q.num) (e := -(k : Int)) h0 (tzOf_ok q.num.natAbs) rfl
    rw [← e] at r
    unfold Dy oddOf expOf
    rw [hk]
    exact r
theorem IsDy.den {q : Rat} {m e : Int} (h : IsDy q m e) : ∃ k, q.den = 2 ^ k := by
  obtain ⟨h1, h2⟩ := h
  by_cases he : 0 ≤ e
  · obtain ⟨n, rfl⟩ := Int.eq_ofNat_of_zero_le he
    refine ⟨0, ?_⟩
    rw [h2, two_natZ, ← Rat.intCast_mul]; rfl
  · rcases h1 with ⟨rfl, rfl⟩ | h1
    · omega
    · obtain ⟨n, hn⟩ := Int.eq_ofNat_of_zero_le (show 0 ≤ -e by omega)
      have hc : m.natAbs.Coprime (2 ^ n) := Nat.Coprime.pow_right n (by
        rw [Nat.Coprime, Nat.gcd_comm, Nat.gcd_rec, show m.natAbs % 2 = 1 by omega, Nat.gcd_one_left])
      refine ⟨n, (rat_of (q := q) (Nat.pos_iff_ne_zero.1 (Nat.two_pow_pos n)) hc ?_).2⟩
      have h3 : tp e * ((2 ^ n : Nat) : Rat) = 1 := by rw [← two_nat, ← two_add, show e + (n : Int) = 0 by omega, two_zero]
      rw [Rat.mkRat_eq_div, h2, Rat.div_def]
      congr 1
      exact Rat.inv_eq_of_mul_eq_one (by rw [Rat.mul_comm]; exact h3)
theorem IsDy.dy {q : Rat} {m e : Int} (h : IsDy q m e) : Dy q := let ⟨_, hk⟩ := h.den; dy_iff hk
theorem IsDy.odd {q : Rat} {m e : Int} (h : IsDy q m e) : oddOf q = m := (h.dy.unique h).1
theorem IsDy.exp {q : Rat} {m e : Int} (h : IsDy q m e) : expOf q = e := (h.dy.unique h).2
theorem Dy.val {q : Rat} (h : Dy q) : (oddOf q : Rat) * tp (expOf q) = q := h.2.symm
theorem dy_of (m e : Int) : Dy ((m : Rat) * tp e) := by
  by_cases hm : m = 0
  · rw [hm]
    have : ((0 : Int) : Rat) * tp e = 0 := Rat.zero_mul _
    rw [this]; exact dy_zero.dy
  · obtain ⟨z, hz⟩ := tz_ex m.natAbs (by omega)
    exact (isDy_of hm hz rfl).dy
/-- With at most b binary digits. -/
def Rep (b : Nat) (q : Rat) : Prop := ∃ m e : Int, q = (m : Rat) * tp e ∧ m.natAbs < 2 ^ b
def IsDown (b : Nat) (a d : Rat) : Prop := Rep b d ∧ d ≤ a ∧ ∀ r, Rep b r → r ≤ a → r ≤ d
theorem IsDown.unique {b : Nat} {a d d' : Rat} (h : IsDown b a d) (h' : IsDown b a d') : d = d' := Rat.le_antisymm (h'.2.2 d h.1 h.2.1) (h.2.2 d' h'.1 h'.2.1)
theorem Rep.neg {b : Nat} {q : Rat} (h : Rep b q) : Rep b (-q) := by
  obtain ⟨m, e, rfl, hb⟩ := h
  exact ⟨-m, e, by rw [Rat.intCast_neg, Rat.neg_mul], by rw [Int.natAbs_neg]; exact hb⟩
theorem Rep.mono {b c : Nat} {q : Rat} (h : Rep b q) (hc : b ≤ c) : Rep c q := by
  obtain ⟨m, e, rfl, hb⟩ := h
  exact ⟨m, e, rfl, Nat.lt_of_lt_of_le hb (Nat.pow_le_pow_right (by decide) hc)⟩
theorem Rep.top {b : Nat} {m e : Int} (hb : 1 ≤ b) (hm : m.natAbs ≤ 2 ^ b) : Rep b ((m : Rat) * tp e) := by
  by_cases h : m.natAbs < 2 ^ b
  · exact ⟨m, e, rfl, h⟩
  · have h1 : m.natAbs = 2 ^ b := by omega
    have h2 : (1 : Nat) < 2 ^ b := by have := Nat.pow_le_pow_right (n := 2) (by decide) hb; omega
    have hp : ((2 ^ b : Nat) : Int) = 2 ^ b := by rw [Int.natCast_pow]; rfl
    rcases Int.natAbs_eq m with e1 | e1
    · refine ⟨1, e + b, ?_, h2⟩
      rw [e1, h1, two_add, two_natZ, hp]
      have : ((1 : Int) : Rat) = 1 := rfl
      rw [this]
      grind
    · refine ⟨-1, e + b, ?_, h2⟩
      rw [e1, h1, two_add, two_natZ, hp, Rat.intCast_neg]
      have : ((-1 : Int) : Rat) = -1 := rfl
      rw [this]
      grind
/-- What is great enough is a multiple of the last place. -/
theorem Rep.mult {b : Nat} {r : Rat} {e : Int} (h : Rep b r) (hb : 1 ≤ b) (hr : tp (e + (b - 1 : Nat)) ≤ r ∨ r ≤ -tp (e + (b - 1 : Nat))) : ∃ c : Int, r = (c : Rat) * tp e := by
  obtain ⟨m, e', rfl, hm⟩ := h
  have h1 : tp (e + (b - 1 : Nat)) < tp (e' + b) := by
    have hm1 : (m : Rat) < ((2 ^ b : Nat) : Rat) := by
      rw [← Rat.intCast_natCast]
      exact Rat.intCast_lt_intCast.2 (by omega)
    have hm2 : -(m : Rat) < ((2 ^ b : Nat) : Rat) := by
      rw [← Rat.intCast_natCast, ← Rat.intCast_neg]
      exact Rat.intCast_lt_intCast.2 (by omega)
    rw [two_add e' b, two_nat b]
    have hp := two_pos e'
    rcases hr with hr | hr
    · have := Rat.mul_lt_mul_of_pos_right hm1 hp
      grind
    · have := Rat.mul_lt_mul_of_pos_right hm2 hp
      grind
  have h2 := two_lt_of h1
  obtain ⟨n, hn⟩ := Int.le.dest (show e ≤ e' by omega)
  refine ⟨m * 2 ^ n, ?_⟩
  rw [← hn, two_add, two_natZ, Rat.intCast_mul]
  grind
/-- The greatest whole number of last places that is not above is the greatest of all. -/
theorem down_of {b : Nat} {a : Rat} {c e : Int} (hb : 1 ≤ b) (h1 : (c : Rat) * tp e ≤ a) (h2 : a < ((c + 1 : Int) : Rat) * tp e) (ha : tp (e + (b - 1 : Nat)) ≤ a ∨ a ≤ -tp (e + (b - 1 : Nat))) (hr : Rep b ((c : Rat) * tp e)) : IsDown b a ((c : Rat) * tp e) := by
  refine ⟨hr, h1, fun r hrr hra => ?_⟩
  by_cases hs : tp (e + (b - 1 : Nat)) ≤ r ∨ r ≤ -tp (e + (b - 1 : Nat))
  · obtain ⟨d, rfl⟩ := hrr.mult hb hs
    have h3 : (d : Rat) * tp e < ((c + 1 : Int) : Rat) * tp e := rle_lt hra h2
    have h4 := Rat.intCast_lt_intCast.1 (Rat.lt_of_mul_lt_mul_right h3 (Rat.le_of_lt (two_pos e)))
    exact Rat.mul_le_mul_of_nonneg_right (Rat.intCast_le_intCast.2 (by omega)) (Rat.le_of_lt (two_pos e))
  · have hs1 : r < tp (e + (b - 1 : Nat)) := Rat.not_le.1 fun h => hs (.inl h)
    have hs2 : -tp (e + (b - 1 : Nat)) < r := Rat.not_le.1 fun h => hs (.inr h)
    rcases ha with ha | ha
    · have e1 : tp (e + (b - 1 : Nat)) = ((2 ^ (b - 1) : Int) : Rat) * tp e := by rw [two_add, two_natZ, Rat.mul_comm]
      have h3 : ((2 ^ (b - 1) : Int) : Rat) * tp e < ((c + 1 : Int) : Rat) * tp e := by rw [← e1]; exact rle_lt ha h2
      have h4 := Rat.intCast_lt_intCast.1 (Rat.lt_of_mul_lt_mul_right h3 (Rat.le_of_lt (two_pos e)))
      have h5 : ((2 ^ (b - 1) : Int) : Rat) * tp e ≤ (c : Rat) * tp e := Rat.mul_le_mul_of_nonneg_right (Rat.intCast_le_intCast.2 (by omega)) (Rat.le_of_lt (two_pos e))
      rw [← e1] at h5
      exact Rat.le_trans (Rat.le_of_lt hs1) h5
    · exfalso
      exact Rat.lt_irrefl (rlt_le hs2 (Rat.le_trans hra ha))
theorem down_self {b : Nat} {a : Rat} (h : Rep b a) : IsDown b a a := ⟨h, Rat.le_refl, fun _ _ h => h⟩
theorem Rep.odd {b : Nat} {q : Rat} (h : Rep b q) : (oddOf q).natAbs < 2 ^ b := by
  obtain ⟨m, e, rfl, hm⟩ := h
  by_cases h0 : m = 0
  · have : IsDy ((m : Rat) * tp e) 0 0 := by
      rw [h0]
      have : ((0 : Int) : Rat) * tp e = 0 := Rat.zero_mul _
      rw [this]; exact dy_zero
    rw [this.odd]; exact Nat.two_pow_pos b
  · obtain ⟨z, hz⟩ := tz_ex m.natAbs (by omega)
    rw [(isDy_of (e := e) h0 hz rfl).odd]
    have := Nat.div_le_self m.natAbs (2 ^ z)
    generalize m.natAbs / 2 ^ z = t at *
    split <;> omega
theorem rep_zero (b : Nat) : Rep b 0 := ⟨0, 0, by rw [two_zero, Rat.mul_one]; rfl, Nat.two_pow_pos b⟩
theorem rep_pow {b z : Nat} {c e : Int} (hb : 1 ≤ b) (h : c.natAbs = 2 ^ z) : Rep b ((c : Rat) * tp e) := by
  have h2 : (1 : Nat) < 2 ^ b := by have := Nat.pow_le_pow_right (n := 2) (by decide) hb; omega
  have hp : ((2 ^ z : Nat) : Int) = 2 ^ z := by rw [Int.natCast_pow]; rfl
  rcases Int.natAbs_eq c with e1 | e1
  · refine ⟨1, e + z, ?_, h2⟩
    rw [e1, h, two_add, two_natZ, hp]
    have : ((1 : Int) : Rat) = 1 := rfl
    rw [this]
    grind
  · refine ⟨-1, e + z, ?_, h2⟩
    rw [e1, h, two_add, two_natZ, hp, Rat.intCast_neg]
    have : ((-1 : Int) : Rat) = -1 := rfl
    rw [this]
    grind
/-- A number by its sign and its size. -/
def sgr (neg : Bool) (x : Rat) : Rat := if neg then -x else x
theorem natR {a b : Nat} (h : a ≤ b) : (a : Rat) ≤ (b : Rat) := Rat.natCast_le_natCast.2 h
theorem natRl {a b : Nat} (h : a < b) : (a : Rat) < (b : Rat) := Rat.natCast_lt_natCast.2 h
/-- Cut to its highest digits, away from 0 or not. -/
theorem round_down {neg ex : Bool} {b M0 X Y : Nat} {p : Int} {A : Rat} (hb : 1 ≤ b) (hA : A * (Y : Rat) = (X : Rat) * tp (-p)) (hY : 0 < Y) (h1 : M0 * Y ≤ X) (h2 : X < (M0 + 1) * Y) (h3 : 2 ^ (b - 1) ≤ M0) (h4 : M0 < 2 ^ b) (he : ex = true ↔ M0 * Y = X) :
    IsDown b (sgr neg A) (sgr neg (((if neg && !ex then M0 + 1 else M0 : Nat) : Rat) * tp (-p))) := by
  have hYr : (0 : Rat) < (Y : Rat) := Rat.natCast_pos.2 hY
  have ht := two_pos (-p)
  have k1 : (M0 : Rat) * tp (-p) ≤ A := by
    refine Rat.le_of_mul_le_mul_right (c := (Y : Rat)) ?_ hYr
    rw [hA]
    have := Rat.mul_le_mul_of_nonneg_right (natR h1) (Rat.le_of_lt ht)
    rw [Rat.natCast_mul] at this
    grind
  have k2 : A < ((M0 + 1 : Nat) : Rat) * tp (-p) := by
    refine Rat.lt_of_mul_lt_mul_right (c := (Y : Rat)) ?_ (Rat.le_of_lt hYr)
    rw [hA]
    have := Rat.mul_lt_mul_of_pos_right (natRl h2) ht
    rw [Rat.natCast_mul] at this
    grind
  have k3 : tp (-p + (b - 1 : Nat)) ≤ A := by
    rw [two_add, two_nat, Rat.mul_comm]
    exact Rat.le_trans (Rat.mul_le_mul_of_nonneg_right (natR h3) (Rat.le_of_lt ht)) k1
  have c1 : ((M0 + 1 : Nat) : Rat) = (M0 : Rat) + 1 := by rw [Rat.natCast_add]; rfl
  have z0 : ((M0 : Int) : Rat) = (M0 : Rat) := rfl
  have z1 : ((1 : Int) : Rat) = 1 := rfl
  cases neg with
  | false =>
    have := down_of (b := b) (a := A) (c := (M0 : Int)) (e := -p) hb k1 (by rw [Rat.intCast_add, z0, z1, ← c1]; exact k2) (.inl k3) ⟨(M0 : Int), -p, rfl, by omega⟩
    rw [z0] at this
    simpa [sgr] using this
  | true =>
    have k4 : -A ≤ -tp (-p + (b - 1 : Nat)) := Rat.neg_le_neg k3
    cases ex with
    | true =>
      have k5 : A = (M0 : Rat) * tp (-p) := by
        have e1 := he.1 rfl
        refine Rat.le_antisymm (Rat.le_of_mul_le_mul_right (c := (Y : Rat)) ?_ hYr) k1
        rw [hA, ← e1, Rat.natCast_mul]
        grind
      have := down_of (b := b) (a := -A) (c := -(M0 : Int)) (e := -p) hb (by rw [Rat.intCast_neg, z0]; grind) (by rw [Rat.intCast_add, Rat.intCast_neg, z0, z1]; grind) (.inr k4) ⟨-(M0 : Int), -p, rfl, by omega⟩
      rw [Rat.intCast_neg, z0, Rat.neg_mul] at this
      simpa [sgr] using this
    | false =>
      have k5 : (M0 : Rat) * tp (-p) < A := by
        have e1 : M0 * Y < X := by
          have : ¬ M0 * Y = X := fun h => by cases he.2 h
          omega
        refine Rat.lt_of_mul_lt_mul_right (c := (Y : Rat)) ?_ (Rat.le_of_lt hYr)
        rw [hA]
        have := Rat.mul_lt_mul_of_pos_right (natRl e1) ht
        rw [Rat.natCast_mul] at this
        grind
      have e2 : ((-(M0 + 1 : Nat) : Int) : Rat) = -((M0 + 1 : Nat) : Rat) := rfl
      have := down_of (b := b) (a := -A) (c := (-(M0 + 1 : Nat) : Int)) (e := -p) hb (by rw [e2]; grind) (by rw [Rat.intCast_add, e2, c1, z1]; grind) (.inr k4) (Rep.top hb (by omega))
      rw [e2, Rat.neg_mul] at this
      simpa [sgr] using this
/-- So many places up it has b digits ahead of its point, or one more. -/
theorem round_fit {N D bn bd b : Nat} {p : Int} (hN : IsBl N bn) (hD : IsBl D bd) (hN0 : 0 < N) (hD0 : 0 < D) (hb : 1 ≤ b) (hp : p = b + bd - bn) : 2 ^ (b - 1) * (D * 2 ^ (-p).toNat) ≤ N * 2 ^ p.toNat ∧ N * 2 ^ p.toNat < 2 ^ (b + 1) * (D * 2 ^ (-p).toNat) := by
  obtain ⟨n1, n2⟩ := hN
  obtain ⟨d1, d2⟩ := hD
  have hbn : bn ≠ 0 := by intro h; rw [h] at n1; simp at n1; omega
  have hbd : bd ≠ 0 := by intro h; rw [h] at d1; simp at d1; omega
  have n3 : 2 ^ (bn - 1) ≤ N := by rcases n2 with h | h; exact absurd h hbn; exact h
  have d3 : 2 ^ (bd - 1) ≤ D := by rcases d2 with h | h; exact absurd h hbd; exact h
  have e1 : b - 1 + bd + (-p).toNat = bn - 1 + p.toNat := by omega
  have e2 : bn + p.toNat = b + 1 + (bd - 1) + (-p).toNat := by omega
  constructor
  · calc 2 ^ (b - 1) * (D * 2 ^ (-p).toNat) ≤ 2 ^ (b - 1) * (2 ^ bd * 2 ^ (-p).toNat) := Nat.mul_le_mul_left _ (Nat.mul_le_mul_right _ (Nat.le_of_lt d1))
      _ = 2 ^ (b - 1 + bd + (-p).toNat) := by rw [Nat.pow_add, Nat.pow_add, Nat.mul_assoc]
      _ = 2 ^ (bn - 1) * 2 ^ p.toNat := by rw [e1, Nat.pow_add]
      _ ≤ N * 2 ^ p.toNat := Nat.mul_le_mul_right _ n3
  · calc N * 2 ^ p.toNat < 2 ^ bn * 2 ^ p.toNat := Nat.mul_lt_mul_of_pos_right n1 (Nat.two_pow_pos _)
      _ = 2 ^ (b + 1) * (2 ^ (bd - 1) * 2 ^ (-p).toNat) := by rw [← Nat.pow_add, e2, Nat.pow_add, Nat.pow_add, Nat.mul_assoc]
      _ ≤ 2 ^ (b + 1) * (D * 2 ^ (-p).toNat) := Nat.mul_le_mul_left _ (Nat.mul_le_mul_right _ d3)
theorem two_split (p : Int) : tp (-p) * ((2 ^ p.toNat : Nat) : Rat) = ((2 ^ (-p).toNat : Nat) : Rat) := by
  rw [← two_nat, ← two_nat, ← two_add]
  congr 1
  omega
theorem floor_two {a : Rat} {c e : Int} (hc : c = (a * tp (-e)).floor) : (c : Rat) * tp e ≤ a ∧ a < ((c + 1 : Int) : Rat) * tp e := by
  have h1 := Rat.floor_le (a * tp (-e))
  have h2 := Rat.lt_floor_add_one (a * tp (-e))
  rw [← hc] at h1 h2
  have h3 := Rat.mul_le_mul_of_nonneg_right h1 (Rat.le_of_lt (two_pos e))
  have h4 := Rat.mul_lt_mul_of_pos_right h2 (two_pos e)
  have h5 : a * tp (-e) * tp e = a := by
    have := two_neg e
    grind
  rw [h5] at h3 h4
  exact ⟨h3, h4⟩
/-- Of at least such a size. -/
def Far (x a : Rat) : Prop := x ≤ a ∨ a ≤ -x
theorem rdown_done {b bl tz : Nat} {a : Rat} {c e : Int} (hb : 1 ≤ b) (hc : c = (a * tp (-e)).floor) (ha : Far (tp (e + (b - 1 : Nat))) a) (h1 : IsBl c.natAbs bl) (h2 : IsTz c.natAbs tz) (h : bl ≤ b ∨ (bl : Int) - 1 ≤ tz) : IsDown b a ((c : Rat) * tp e) := by
  obtain ⟨f1, f2⟩ := floor_two hc
  refine down_of hb f1 f2 ha ?_
  rcases h with h | h
  · exact ⟨c, e, rfl, Nat.lt_of_lt_of_le h1.1 (Nat.pow_le_pow_right (by decide) h)⟩
  · rcases h2 with ⟨h3, _⟩ | ⟨m, hm⟩
    · have : c = 0 := by omega
      rw [this]
      have : ((0 : Int) : Rat) * tp e = 0 := Rat.zero_mul _
      rw [this]; exact rep_zero b
    · have h4 : 2 ^ bl ≤ 2 ^ (tz + 1) := Nat.pow_le_pow_right (by decide) (by omega)
      have h5 := h1.1
      have h6 : m = 0 := by
        rw [hm] at h5
        have h7 : 2 ^ tz * (2 * m + 1) < 2 ^ tz * 2 := by rw [Nat.pow_succ] at h4; omega
        have := Nat.lt_of_mul_lt_mul_left h7
        omega
      exact rep_pow (z := tz) hb (by rw [hm, h6]; simp)
theorem rdown_next {b bl tz : Nat} {a : Rat} {c e : Int} (hb : 1 ≤ b) (hc : c = (a * tp (-e)).floor) (h1 : IsBl c.natAbs bl) (h2 : IsTz c.natAbs tz) (h : ¬ bl ≤ b) (h' : ¬ (bl : Int) - 1 ≤ tz) : Far (tp (e + 1 + (b - 1 : Nat))) a := by
  obtain ⟨f1, f2⟩ := floor_two hc
  have e1 : e + 1 + ((b - 1 : Nat) : Int) = (b : Int) + e := by omega
  rw [e1, two_add, two_natZ]
  have hp : ((2 ^ b : Nat) : Int) = 2 ^ b := by rw [Int.natCast_pow]; rfl
  have h3 : 2 ^ (bl - 1) ≤ c.natAbs := by rcases h1.2 with r | r; omega; exact r
  have h4 : 2 ^ b ≤ 2 ^ (bl - 1) := Nat.pow_le_pow_right (by decide) (by omega)
  have h5 : c.natAbs ≠ 2 ^ b := by
    intro r
    have h6 : IsTz c.natAbs b := .inr ⟨0, by rw [r]; simp⟩
    have h7 : 2 ^ (bl - 1) ≤ 2 ^ b := by omega
    have h8 : bl - 1 ≤ b := (Nat.pow_le_pow_iff_right (by decide)).1 h7
    have h9 : tz = b := by
      rcases h2 with ⟨r1, _⟩ | ⟨m, hm⟩
      · have := Nat.two_pow_pos b; omega
      · rw [hm] at r
        have hle : tz ≤ b := by
          have : 2 ^ tz ≤ 2 ^ b := by rw [← r]; exact Nat.le_mul_of_pos_right _ (by omega)
          exact (Nat.pow_le_pow_iff_right (by decide)).1 this
        obtain ⟨d, rfl⟩ := Nat.exists_eq_add_of_le hle
        rw [Nat.pow_add] at r
        have r2 := Nat.eq_of_mul_eq_mul_left (Nat.two_pow_pos tz) r
        cases d with
        | zero => rfl
        | succ d => rw [Nat.pow_succ] at r2; omega
    omega
  by_cases h0 : 0 ≤ c
  · left
    have : (2 ^ b : Int) ≤ c := by omega
    exact Rat.le_trans (Rat.mul_le_mul_of_nonneg_right (Rat.intCast_le_intCast.2 this) (Rat.le_of_lt (two_pos e))) f1
  · right
    have : c + 1 ≤ -(2 ^ b : Int) := by omega
    have := Rat.mul_le_mul_of_nonneg_right (Rat.intCast_le_intCast.2 this) (Rat.le_of_lt (two_pos e))
    rw [Rat.intCast_neg, Rat.neg_mul] at this
    exact Rat.le_of_lt (rlt_le f2 this)
theorem rdown_fits {b bl tz : Nat} {a : Rat} {c e : Int} (hc : c = (a * tp (-e)).floor) (h1 : IsBl c.natAbs bl) (h2 : IsTz c.natAbs tz) (ha : ¬ Far (tp (e + b)) a) : bl ≤ b ∨ (bl : Int) - 1 ≤ tz := by
  obtain ⟨f1, f2⟩ := floor_two hc
  rw [Int.add_comm, two_add, two_natZ] at ha
  have ha1 : a < ((2 ^ b : Int) : Rat) * tp e := Rat.not_le.1 fun h => ha (.inl h)
  have ha2 : -(((2 ^ b : Int) : Rat) * tp e) < a := Rat.not_le.1 fun h => ha (.inr h)
  have hp : ((2 ^ b : Nat) : Int) = 2 ^ b := by rw [Int.natCast_pow]; rfl
  have g1 := Rat.intCast_lt_intCast.1 (Rat.lt_of_mul_lt_mul_right (rle_lt f1 ha1) (Rat.le_of_lt (two_pos e)))
  rw [← Rat.neg_mul, ← Rat.intCast_neg] at ha2
  have g2 := Rat.intCast_lt_intCast.1 (Rat.lt_of_mul_lt_mul_right (rlt_le ha2 (Rat.le_of_lt f2)) (Rat.le_of_lt (two_pos e)))
  by_cases h : bl ≤ b
  · exact .inl h
  · right
    have h3 : 2 ^ (bl - 1) ≤ c.natAbs := by rcases h1.2 with r | r; omega; exact r
    have h4 : 2 ^ b ≤ 2 ^ (bl - 1) := Nat.pow_le_pow_right (by decide) (by omega)
    have h5 : c.natAbs = 2 ^ b := by omega
    have h7 : 2 ^ (bl - 1) ≤ 2 ^ b := by omega
    have h8 : bl - 1 ≤ b := (Nat.pow_le_pow_iff_right (by decide)).1 h7
    rcases h2 with ⟨r1, _⟩ | ⟨m, hm⟩
    · have := Nat.two_pow_pos b; omega
    · rw [hm] at h5
      have hle : tz ≤ b := by
        have : 2 ^ tz ≤ 2 ^ b := by rw [← h5]; exact Nat.le_mul_of_pos_right _ (by omega)
        exact (Nat.pow_le_pow_iff_right (by decide)).1 this
      obtain ⟨d, rfl⟩ := Nat.exists_eq_add_of_le hle
      rw [Nat.pow_add] at h5
      have r2 := Nat.eq_of_mul_eq_mul_left (Nat.two_pow_pos tz) h5
      cases d with
      | zero => omega
      | succ d => rw [Nat.pow_succ] at r2; omega
theorem num_over (a : Rat) : a * (a.den : Rat) = (a.num : Rat) := by
  have e := Rat.mkRat_self a
  rw [Rat.mkRat_eq_div] at e
  have hd : (a.den : Rat) ≠ 0 := by
    have := a.den_nz
    intro h; exact this (Rat.natCast_eq_zero_iff.1 h)
  have h := Rat.div_mul_cancel (a := (a.num : Rat)) hd
  rwa [e] at h
theorem sgr_num (a : Rat) : ∃ A, a = sgr (decide (a.num < 0)) A ∧ A * (a.den : Rat) = ((a.num.natAbs : Nat) : Rat) := by
  have h := num_over a
  have c : ((a.num.natAbs : Nat) : Rat) = ((a.num.natAbs : Int) : Rat) := rfl
  by_cases h0 : a.num < 0
  · refine ⟨-a, by simp [sgr, h0], ?_⟩
    rw [Rat.neg_mul, h, c, ← Rat.intCast_neg]
    congr 1; omega
  · refine ⟨a, by simp [sgr, h0], ?_⟩
    rw [h, c]
    congr 1; omega
theorem far_sgr {x A : Rat} {neg : Bool} (h : x ≤ A) : Far x (sgr neg A) := by
  cases neg
  · exact .inl (by simpa [sgr] using h)
  · exact .inr (by simpa [sgr] using Rat.neg_le_neg h)
theorem near_sgr {x A : Rat} {neg : Bool} (h : A < x) (h0 : 0 ≤ A) : ¬ Far x (sgr neg A) := by
  cases neg
  · rintro (h1 | h1) <;> simp [sgr] at h1 <;> grind
  · rintro (h1 | h1) <;> simp [sgr] at h1 <;> grind
/-- Where it lies, by the digits of its parts. -/
theorem rdown_start {a : Rat} {bn bd b : Nat} (hN : IsBl a.num.natAbs bn) (hD : IsBl a.den bd) (h0 : a.num ≠ 0) (hb : 1 ≤ b) : Far (tp ((bn : Int) - bd - b + (b - 1 : Nat))) a ∧ ¬ Far (tp ((bn : Int) - bd - b + 1 + b)) a := by
  obtain ⟨A, ha, hA⟩ := sgr_num a
  have hd := a.den_pos
  have n1 := hN.1
  have d1 := hD.1
  have n3 : 2 ^ (bn - 1) ≤ a.num.natAbs := by
    rcases hN.2 with h | h
    · rw [h, Nat.pow_zero] at n1; omega
    · exact h
  have hbn : bn ≠ 0 := by intro h; rw [h, Nat.pow_zero] at n1; omega
  have hbd : bd ≠ 0 := by intro h; rw [h, Nat.pow_zero] at d1; omega
  have d3 : 2 ^ (bd - 1) ≤ a.den := by rcases hD.2 with h | h; exact absurd h hbd; exact h
  have hdr : (0 : Rat) < (a.den : Rat) := Rat.natCast_pos.2 hd
  have e1 : (bn : Int) - bd - b + (b - 1 : Nat) + bd = ((bn - 1 : Nat) : Int) := by omega
  have e2 : (bn : Int) - bd - b + 1 + b + ((bd - 1 : Nat) : Int) = (bn : Int) := by omega
  have k1 : tp ((bn : Int) - bd - b + (b - 1 : Nat)) ≤ A := by
    refine Rat.le_of_mul_le_mul_right (c := (a.den : Rat)) ?_ hdr
    rw [hA]
    have s1 := Rat.mul_le_mul_of_nonneg_left (natR (Nat.le_of_lt d1)) (Rat.le_of_lt (two_pos ((bn : Int) - bd - b + (b - 1 : Nat))))
    rw [← two_nat, ← two_add, e1, two_nat] at s1
    exact Rat.le_trans s1 (natR n3)
  have k2 : A < tp ((bn : Int) - bd - b + 1 + b) := by
    refine Rat.lt_of_mul_lt_mul_right (c := (a.den : Rat)) ?_ (Rat.le_of_lt hdr)
    rw [hA]
    have s1 := Rat.mul_le_mul_of_nonneg_left (natR d3) (Rat.le_of_lt (two_pos ((bn : Int) - bd - b + 1 + b)))
    rw [← two_nat, ← two_add, e2, two_nat] at s1
    exact rlt_le (natRl n1) s1
  rw [ha]
  exact ⟨far_sgr k1, near_sgr k2 (Rat.le_trans (Rat.le_of_lt (two_pos _)) k1)⟩
/-- How many binary digits. -/
def blOf (n : Nat) : Nat := if n = 0 then 0 else Nat.log2 n + 1
theorem blOf_ok (n : Nat) : IsBl n (blOf n) := by
  unfold blOf
  split
  · rename_i h; subst h; exact ⟨by decide, .inl rfl⟩
  · rename_i h; exact ⟨Nat.lt_log2_self, .inr (Nat.log2_self_le h)⟩
theorem blOf_le {n j : Nat} (h : n < 2 ^ j) : blOf n ≤ j := by
  have h1 := blOf_ok n
  rcases Nat.lt_or_ge j (blOf n) with hl | hl
  · rcases h1.2 with r | r
    · omega
    · have := Nat.pow_le_pow_right (n := 2) (by decide) (show j ≤ blOf n - 1 by omega)
      omega
  · exact hl
theorem tzOf_le {n j : Nat} (h : n < 2 ^ j) : tzOf n ≤ j := by
  by_cases h0 : n = 0
  · subst h0; exact Nat.zero_le _
  · exact Nat.le_of_lt ((tzOf_ok n).lt h0 h)
/-- A power of two stands below the line. -/
def DyOk (q : Rat) : Prop := tzOf q.den + 1 = blOf q.den
theorem DyOk.den {q : Rat} (h : DyOk q) : q.den = 2 ^ tzOf q.den := by
  unfold DyOk at h
  have h1 := (blOf_ok q.den).1
  rw [← h] at h1
  rcases tzOf_ok q.den with ⟨r, _⟩ | ⟨m, hm⟩
  · exact absurd r q.den_nz
  · generalize tzOf q.den = t at *
    rw [hm, Nat.pow_succ] at h1
    have := Nat.lt_of_mul_lt_mul_left h1
    have : m = 0 := by omega
    rw [hm, this]; simp
theorem DyOk.val {q : Rat} (h : DyOk q) : (q.num : Rat) * tp (-(tzOf q.den : Int)) = q := by
  have h1 := num_over q
  have h2 : (q.den : Rat) = tp (tzOf q.den) := by rw [two_nat, ← h.den]
  rw [← h1, h2, Rat.mul_assoc, two_neg, Rat.mul_one]
theorem DyOk.dy {q : Rat} (h : DyOk q) : Dy q := dy_iff h.den
theorem two_lift (m : Int) {e e1 : Int} (h : e ≤ e1) : ((m * 2 ^ (e1 - e).toNat : Int) : Rat) * tp e = (m : Rat) * tp e1 := by
  obtain ⟨n, rfl⟩ := Int.le.dest h
  rw [show (e + (n : Int) - e).toNat = n by omega, two_add, two_natZ, Rat.intCast_mul]
  grind
theorem cmpQ_scale {a b t : Rat} (ht : 0 < t) : cmpQ (a * t) (b * t) = cmpQ a b := by
  unfold cmpQ
  simp only [Rat.mul_lt_mul_right ht]
theorem cmpQ_int (a b : Int) : cmpQ a b = cmpZ a b := by
  unfold cmpQ cmpZ
  simp only [Rat.intCast_lt_intCast]
theorem cmp_at {m1 m2 e e1 e2 : Int} (h1 : e ≤ e1) (h2 : e ≤ e2) : cmpZ (m1 * 2 ^ (e1 - e).toNat) (m2 * 2 ^ (e2 - e).toNat) = cmpQ ((m1 : Rat) * tp e1) ((m2 : Rat) * tp e2) := by
  rw [← two_lift m1 h1, ← two_lift m2 h2, cmpQ_scale (two_pos e), cmpQ_int]
theorem dv_sign (m e : Int) : (m < 0 → (m : Rat) * tp e < 0) ∧ (m = 0 → (m : Rat) * tp e = 0) ∧ (0 < m → 0 < (m : Rat) * tp e) :=
  ⟨fun h => (Rat.mul_neg_iff_of_pos_right (two_pos e)).2 (Rat.intCast_neg_iff.2 h), fun h => by rw [h]; exact Rat.zero_mul _, fun h => Rat.mul_pos (Rat.intCast_pos.2 h) (two_pos e)⟩
theorem cmp_sign {m1 m2 e1 e2 : Int} (h : sgnZ m1 ≠ sgnZ m2) : cmpZ (sgnZ m1) (sgnZ m2) = cmpQ ((m1 : Rat) * tp e1) ((m2 : Rat) * tp e2) := by
  obtain ⟨a1, a2, a3⟩ := dv_sign m1 e1
  obtain ⟨b1, b2, b3⟩ := dv_sign m2 e2
  generalize (m1 : Rat) * tp e1 = x at *
  generalize (m2 : Rat) * tp e2 = y at *
  unfold sgnZ cmpZ cmpQ at *
  rcases Int.lt_trichotomy m1 0 with g | g | g <;> rcases Int.lt_trichotomy m2 0 with g' | g' | g' <;> grind
theorem mag {m e : Int} {b : Nat} (h : IsBl m.natAbs b) (h0 : m ≠ 0) : tp (b + e - 1) ≤ ((m.natAbs : Nat) : Rat) * tp e ∧ ((m.natAbs : Nat) : Rat) * tp e < tp (b + e) := by
  have n1 := h.1
  have hb : b ≠ 0 := by intro h; rw [h, Nat.pow_zero] at n1; omega
  have n3 : 2 ^ (b - 1) ≤ m.natAbs := by rcases h.2 with r | r; exact absurd r hb; exact r
  rw [show (b : Int) + e - 1 = ((b - 1 : Nat) : Int) + e by omega, two_add, two_add, two_nat, two_nat]
  exact ⟨Rat.mul_le_mul_of_nonneg_right (natR n3) (Rat.le_of_lt (two_pos e)), Rat.mul_lt_mul_of_pos_right (natRl n1) (two_pos e)⟩
theorem cmp_top {m1 m2 e1 e2 : Int} {b1 b2 : Nat} (h1 : IsBl m1.natAbs b1) (h2 : IsBl m2.natAbs b2) (hs : sgnZ m1 = sgnZ m2) (ht : (b1 : Int) + e1 ≠ b2 + e2) : cmpZ (b1 + e1) (b2 + e2) * sgnZ m1 = cmpQ ((m1 : Rat) * tp e1) ((m2 : Rat) * tp e2) := by
  by_cases z1 : m1 = 0
  · have z2 : m2 = 0 := by unfold sgnZ at hs; grind
    rw [(dv_sign m1 e1).2.1 z1, (dv_sign m2 e2).2.1 z2, z1]
    have : cmpQ 0 0 = 0 := by unfold cmpQ; simp
    rw [this]; exact Int.mul_zero _
  · have z2 : m2 ≠ 0 := by unfold sgnZ at hs; grind
    obtain ⟨l1, u1⟩ := mag (e := e1) h1 z1
    obtain ⟨l2, u2⟩ := mag (e := e2) h2 z2
    have hA : ∀ m : Int, 0 < m → (m : Rat) = ((m.natAbs : Nat) : Rat) := fun m h => by
      have : ((m.natAbs : Nat) : Rat) = ((m.natAbs : Int) : Rat) := rfl
      rw [this]; congr 1; omega
    have hB : ∀ m : Int, m < 0 → (m : Rat) = -((m.natAbs : Nat) : Rat) := fun m h => by
      have : ((m.natAbs : Nat) : Rat) = ((m.natAbs : Int) : Rat) := rfl
      rw [this, ← Rat.intCast_neg]; congr 1; omega
    by_cases p1 : 0 < m1
    · have p2 : 0 < m2 := by unfold sgnZ at hs; grind
      have s1 : sgnZ m1 = 1 := by unfold sgnZ; grind
      rw [s1, hA m1 p1, hA m2 p2, Int.mul_one]
      rcases Int.lt_or_gt_of_ne ht with r | r
      · have := two_mono (show (b1 : Int) + e1 ≤ b2 + e2 - 1 by omega)
        unfold cmpZ cmpQ
        rw [if_pos r, if_pos (rlt_le u1 (Rat.le_trans this l2))]
      · have := two_mono (show (b2 : Int) + e2 ≤ b1 + e1 - 1 by omega)
        have c := rlt_le u2 (Rat.le_trans this l1)
        unfold cmpZ cmpQ
        rw [if_neg (by omega), if_pos (by omega), if_neg (by grind), if_pos c]
    · have q1 : m1 < 0 := by omega
      have q2 : m2 < 0 := by unfold sgnZ at hs; grind
      have s1 : sgnZ m1 = -1 := by unfold sgnZ; grind
      rw [s1, hB m1 q1, hB m2 q2, Rat.neg_mul, Rat.neg_mul]
      rcases Int.lt_or_gt_of_ne ht with r | r
      · have := two_mono (show (b1 : Int) + e1 ≤ b2 + e2 - 1 by omega)
        have c := rlt_le u1 (Rat.le_trans this l2)
        unfold cmpZ cmpQ
        rw [if_pos r, if_neg (by grind), if_pos (by grind)]; rfl
      · have := two_mono (show (b2 : Int) + e2 ≤ b1 + e1 - 1 by omega)
        have c := rlt_le u2 (Rat.le_trans this l1)
        unfold cmpZ cmpQ
        rw [if_neg (by omega), if_pos (by omega), if_pos (by grind)]; rfl
theorem IsDy.neg {q : Rat} {m e : Int} (h : IsDy q m e) : IsDy (-q) (-m) e := by
  refine ⟨?_, by rw [h.2, Rat.intCast_neg, Rat.neg_mul]⟩
  rcases h.1 with ⟨rfl, rfl⟩ | r
  · exact .inl ⟨rfl, rfl⟩
  · exact .inr (by omega)
theorem Dy.neg {q : Rat} (h : Dy q) : Dy (-q) := (IsDy.neg h).dy
theorem Dy.oddNeg {q : Rat} (h : Dy q) : oddOf (-q) = -oddOf q := (IsDy.neg h).odd
theorem Dy.expNeg {q : Rat} (h : Dy q) : expOf (-q) = expOf q := (IsDy.neg h).exp
theorem odd_zero : oddOf 0 = 0 := dy_zero.odd
theorem exp_zero : expOf 0 = 0 := dy_zero.exp

end Cin
/- Contracts of package dyad: shifts, one form, sums, products, quotients. -/
namespace Go.Proofs.YtfohgkabmdhhaaaGreatDoor
open Go.RowKit Cin

theorem wrap64 {z : Int} (h0 : -9223372036854775808 ≤ z) (h1 : z ≤ 9223372036854775807) : IntKind.i64.wrap z = z := by
  unfold IntKind.wrap
  simp [IntKind.signed, IntKind.bits]
  omega
section prims
variable {P : Program} {t t2 ty : TypeId} {vs : List Value} {p q : Operand} {x y : Int}
theorem prAddI (hp : pe vs p = .int .i64 x) (hq : pe vs q = .int .i64 y) (h0 : -9223372036854775808 ≤ x + y) (h1 : x + y ≤ 9223372036854775807) : PrimOk P (.binOp .add t p q t2) ty vs (.int .i64 (x + y)) := by
  have h := prAdd (P := P) (t := t) (t2 := t2) (ty := ty) hp hq
  rwa [wrap64 h0 h1] at h
theorem prSubI (hp : pe vs p = .int .i64 x) (hq : pe vs q = .int .i64 y) (h0 : -9223372036854775808 ≤ x - y) (h1 : x - y ≤ 9223372036854775807) : PrimOk P (.binOp .sub t p q t2) ty vs (.int .i64 (x - y)) := fun w => by
  simp only [execOp, hp, hq]
  simp [eqGuard, binOp, Op.intArith, wrap64 h0 h1]
theorem prMulI (hp : pe vs p = .int .i64 x) (hq : pe vs q = .int .i64 y) (h0 : -9223372036854775808 ≤ x * y) (h1 : x * y ≤ 9223372036854775807) : PrimOk P (.binOp .mul t p q t2) ty vs (.int .i64 (x * y)) := by
  have h := prMul (P := P) (t := t) (t2 := t2) (ty := ty) hp hq
  rwa [wrap64 h0 h1] at h
theorem prNegI (hp : pe vs p = .int .i64 x) (h0 : -9223372036854775807 ≤ x) (h1 : x ≤ 9223372036854775807) : PrimOk P (.unOp .neg t p) ty vs (.int .i64 (-x)) := fun w => by
  simp only [execOp, hp]
  have e : (0 : Int) - x = -x := by omega
  simp [Op.unary, Op.intArith, wrap64 (z := -x) (by omega) (by omega)]
theorem prMinE {T T' : TypeId} {z : Int} (hp : pe vs p = .int .i64 x) (hq : pe vs q = .int .i64 y) (h : min x y = z) : PrimOk P (.call { callee := .builtin .min, args := #[p, q], argTypes := #[T, T'] }) ty vs (.int .i64 z) := by subst h; exact prMin hp hq
theorem prMaxE {T T' : TypeId} {z : Int} (hp : pe vs p = .int .i64 x) (hq : pe vs q = .int .i64 y) (h : max x y = z) : PrimOk P (.call { callee := .builtin .max, args := #[p, q], argTypes := #[T, T'] }) ty vs (.int .i64 z) := by subst h; exact prMax hp hq
theorem prNegE {z : Int} (hp : pe vs p = .int .i64 x) (h : -x = z) (h0 : -9223372036854775807 ≤ z) (h1 : z ≤ 9223372036854775807) : PrimOk P (.unOp .neg t p) ty vs (.int .i64 z) := by subst h; exact prNegI hp (by omega) (by omega)
theorem prSubE {z : Int} (hp : pe vs p = .int .i64 x) (hq : pe vs q = .int .i64 y) (h : x - y = z) (h0 : -9223372036854775808 ≤ z) (h1 : z ≤ 9223372036854775807) : PrimOk P (.binOp .sub t p q t2) ty vs (.int .i64 z) := by subst h; exact prSubI hp hq h0 h1
theorem prRemI (hp : pe vs p = .int .i64 x) (hq : pe vs q = .int .i64 y) (hy : y ≠ 0) : PrimOk P (.binOp .rem t p q t2) ty vs (.int .i64 (x.tmod y)) := fun w => by
  simp only [execOp, hp, hq]
  simp [eqGuard, binOp, Op.intDiv, hy]
end prims

/-- What does not hang on memory. -/
theorem wPure {P : Program} {w0 : World} {D : TypeId → Bool} {Post : Ending → World → Prop} {F : World → Prop} {E : Env} {tr : Tr} {L : LC} {p : Prop} (hp : ∀ w, F w → p) (hk : p → Wk P w0 D D Post L F tr E) : Wk P w0 D D Post L F tr E := fun hm u hF => hk (hp u hF) hm u hF
abbrev NB (w : World) (x : Value) (n k : Nat) : Prop := NatB 146 w (.agg #[x]) n k
theorem nbc {w : World} {v : Value} {n k : Nat} (h : NatB 146 w v n k) : ∃ x, v = .agg #[x] ∧ NB w x n k := by
  obtain ⟨ad, len, cap, rfl⟩ := h.shape2
  exact ⟨_, rfl, h⟩
theorem npl {w : World} {x : Value} {n k : Nat} (h : NB w x n k) : [x].all Value.oneCell' = true := by
  obtain ⟨ad, len, cap, e⟩ := h.shape2
  cases e; rfl
theorem mN (x : Value) (n k : Nat) : Mono DD fun w => NB w x n k := monoNat hU _ _ _
theorem shl_pw {x k N : Nat} (hx : x < pw k) : x * 2 ^ N < pw (k + N / 32 + 1) := by
  rw [pw_two] at *
  calc x * 2 ^ N < 2 ^ (32 * k) * 2 ^ N := Nat.mul_lt_mul_of_pos_right hx (Nat.two_pow_pos _)
    _ = 2 ^ (32 * k + N) := by rw [Nat.pow_add]
    _ ≤ _ := Nat.pow_le_pow_right (by decide) (by omega)
theorem cut_eq {n : Int} (h0 : 0 ≤ n) (h1 : n ≤ 1048576) : cut n = n.toNat := by unfold cut; rw [if_neg (by omega), if_neg (by omega)]
theorem shlI (v : Value) (x : Nat) (n : Int) (k : Nat) (w : World) (h : NatB 146 w v x k) (hk : k ≤ 1000000) (h0 : 0 ≤ n) (h1 : n ≤ 1048576) :
    Calls Tryz.prog 183 #[v, .int .i64 n] w fun e w' => ∃ v', e = .returned v' ∧ NatB 146 w' v' (x * 2 ^ n.toNat) (k + n.toNat / 32 + 1) ∧ Below w.heap.size w w' :=
  (shl_any v x n k w h.1 h.2 (by omega)).mono fun _ _ ⟨v', e, hn, hb⟩ => ⟨v', e, ⟨by rw [← cut_eq h0 h1]; exact hn, shl_pw h.2⟩, hb⟩
theorem shrI (v : Value) (x : Nat) (n : Int) (k : Nat) (w : World) (h : NatB 146 w v x k) (hk : k ≤ 1000000) (h0 : 0 ≤ n) (h1 : n ≤ 1048576) :
    Calls Tryz.prog 155 #[v, .int .i64 n] w fun e w' => ∃ v', e = .returned v' ∧ NatB 146 w' v' (x / 2 ^ n.toNat) k ∧ Below w.heap.size w w' :=
  (shr_any v x n k w h.1 h.2 (by omega)).mono fun _ _ ⟨v', e, hn, hb⟩ => ⟨v', e, ⟨by rw [← cut_eq h0 h1]; exact hn, Nat.lt_of_le_of_lt (Nat.div_le_self _ _) h.2⟩, hb⟩
theorem bitsI (v : Value) (x k : Nat) (w : World) (h : NatB 146 w v x k) (hk : k ≤ 1000000) :
    Calls Tryz.prog 151 #[v] w fun e w' => e = .returned (.int .i64 (blOf x : Nat)) ∧ Below w.heap.size w w' :=
  (bits_any v x k w h.1 h.2 (by omega)).mono fun _ _ ⟨j, e, hn, hb⟩ => ⟨by rw [e, hn.unique (blOf_ok x)], hb⟩
theorem zerosI (v : Value) (x k : Nat) (w : World) (hT : Tabs w) (h : NatB 146 w v x k) (hk : k ≤ 1000000) :
    Calls Tryz.prog 154 #[v] w fun e w' => e = .returned (.int .i64 (tzOf x : Nat)) ∧ Below w.heap.size w w' :=
  (zeros_any v x k w hT h.1 h.2 (by omega)).mono fun _ _ ⟨j, e, hn, hb⟩ => ⟨by rw [e, hn.unique (tzOf_ok x)], hb⟩
theorem tz_pw {x k : Nat} (h : x < pw k) : tzOf x ≤ 32 * k := by rw [pw_two] at h; exact tzOf_le h
theorem bl_pw {x k : Nat} (h : x < pw k) : blOf x ≤ 32 * k := by rw [pw_two] at h; exact blOf_le h

def Zmu : List Value → Nat
  | .int _ i :: _ => i.toNat
  | _ => 0
def Zinv (n : Int) (x y k j : Nat) (cs : List Value) (w : World) : Prop := ∃ (m : Int) (a : Value), cs = [.int .i64 m, a] ∧ (m = n ∨ (m = n - 1048576 ∧ 0 < n)) ∧ NB w a (if m = n then x else y) (if m = n then k else j)
theorem Zinv.mono (n : Int) (x y k j : Nat) (cs : List Value) : Mono DD (Zinv n x y k j cs) := fun _ _ e ⟨m, a, h1, h2, h3⟩ => ⟨m, a, h1, h2, h3.ext e hU⟩
theorem Zinv.at {n m : Int} {x y k j : Nat} {a : Value} {w : World} (h : Zinv n x y k j [.int .i64 m, a] w) : NB w a (if m = n then x else y) (if m = n then k else j) := by
  obtain ⟨m', a', e, _, h⟩ := h
  injection e with e1 e2
  injection e2 with e2 _
  injection e1 with _ e1
  subst e1 e2
  exact h

/-- shiftUp: times a power of two. -/
theorem sup_any (v : Value) (x : Nat) (n : Int) (k : Nat) (w : World) (h : NatB 146 w v x k) (hk : k ≤ 1000000) (h0 : -9000000000000000000 ≤ n) (h1 : n ≤ 1048576) :
    Calls Tryz.prog 153 #[v, .int .i64 n] w fun e w' => ∃ v', e = .returned v' ∧ NatB 146 w' v' (x * 2 ^ n.toNat) (k + n.toNat / 32 + 1) ∧ Below w.heap.size w w' := by
  obtain ⟨a, rfl, h⟩ := nbc h
  refine go (fun w => NB w a x k) [[a], [.int .i64 n]] [some 1, none] (tr := (.loop 0 [.c 1 0, .c 0 0] (.em (.pr (.binOp .gtr 3 (.tmp 0) (.const (.int .i64 0)) 3) 4 [.s (.c 2 0), .s (.k (.int .i64 0))]) (.cond (.c 3 0) (.em (.pr (.call (.mk (.builtin .min) #[.tmp 0, .const (.int .i64 1048576)] #[3, 3])) 3 [.s (.c 2 0), .s (.k (.int .i64 1048576))]) (.em (.call 183 [.g [.c 2 1], .s (.c 4 0)] [some 1]) (.em (.pr (.binOp .sub 3 (.tmp 0) (.const (.int .i64 1048576)) 3) 3 [.s (.c 2 0), .s (.k (.int .i64 1048576))]) (.back 0 [.c 6 0, .c 5 0])))) (.ret (.v (.g [.c 2 1]))))))) (by kernel_rfl) (by kernel_rfl) (by kernel_rfl) (mN _ _ _) h ⟨npl h, rfl, trivial⟩ ?_
  refine wLoop (Zinv n x (x * 2 ^ n.toNat) k (k + n.toNat / 32 + 1)) (Zinv.mono _ _ _ _ _) Zmu (fun w h => ⟨n, a, rfl, .inl rfl, by rw [if_pos rfl, if_pos rfl]; exact h⟩) (fun cs _ => ?_)
  intro hm u hF
  obtain ⟨⟨m, a1, rfl, hc, _⟩, _⟩ := id hF
  refine wMono (G := fun w => NB w a1 (if m = n then x else x * 2 ^ n.toNat) (if m = n then k else k + n.toNat / 32 + 1)) (mN _ _ _) (fun w h => h.1.at) ?_ hm u hF
  clear hm hF
  refine wPr (prGt rfl rfl) rfl ?_
  rcases hc with rfl | ⟨rfl, hn⟩
  · refine wIf _ rfl (fun e => ?_) (fun e => ?_)
    · have hn : 0 < m := by simpa using e
      refine wPr (prMinE (z := m) rfl rfl (by show min m (1048576 : Int) = m; omega)) rfl ?_
      refine wNat hU (n := x * 2 ^ m.toNat) (m := k + m.toNat / 32 + 1) (fun w b h => by
        rw [if_pos rfl, if_pos rfl] at h
        exact shlI _ x m k w h hk (by omega) h1) (fun x1 => ?_)
      refine wPr (prSubI rfl rfl (by show _ ≤ m - (1048576 : Int); omega) (by show m - (1048576 : Int) ≤ _; omega)) rfl ?_
      refine wBack fun w ⟨h1', _⟩ => ⟨⟨m - 1048576, x1, rfl, .inr ⟨rfl, hn⟩, by rw [if_neg (by omega), if_neg (by omega)]; exact h1'⟩, ?_⟩
      show (m - 1048576).toNat < m.toNat
      omega
    · have hn : ¬ 0 < m := by simpa using e
      refine wRet fun w b h => ⟨_, rfl, ?_, b⟩
      rw [if_pos rfl, if_pos rfl] at h
      rw [show m.toNat = 0 by omega, Nat.pow_zero, Nat.mul_one]
      exact h.mono (by omega)
  · refine wFalse (by show Value.bool (decide (0 < n - 1048576)) = _; rw [decide_eq_false (by omega)]) ?_
    refine wRet fun w b h => ⟨_, rfl, ?_, b⟩
    rw [if_neg (by omega), if_neg (by omega)] at h
    exact h

/-- shiftDown: by a power of two. -/
theorem sdn_any (v : Value) (x : Nat) (n : Int) (k : Nat) (w : World) (h : NatB 146 w v x k) (hk : k ≤ 1000000) (h0 : -9000000000000000000 ≤ n) (h1 : n ≤ 1048576) :
    Calls Tryz.prog 188 #[v, .int .i64 n] w fun e w' => ∃ v', e = .returned v' ∧ NatB 146 w' v' (x / 2 ^ n.toNat) k ∧ Below w.heap.size w w' := by
  obtain ⟨a, rfl, h⟩ := nbc h
  refine go (fun w => NB w a x k) [[a], [.int .i64 n]] [some 1, none] (tr := (.loop 0 [.c 1 0, .c 0 0] (.em (.pr (.binOp .gtr 3 (.tmp 0) (.const (.int .i64 0)) 3) 4 [.s (.c 2 0), .s (.k (.int .i64 0))]) (.cond (.c 3 0) (.em (.pr (.call (.mk (.builtin .min) #[.tmp 0, .const (.int .i64 1048576)] #[3, 3])) 3 [.s (.c 2 0), .s (.k (.int .i64 1048576))]) (.em (.call 155 [.g [.c 2 1], .s (.c 4 0)] [some 1]) (.em (.pr (.binOp .sub 3 (.tmp 0) (.const (.int .i64 1048576)) 3) 3 [.s (.c 2 0), .s (.k (.int .i64 1048576))]) (.back 0 [.c 6 0, .c 5 0])))) (.ret (.v (.g [.c 2 1]))))))) (by kernel_rfl) (by kernel_rfl) (by kernel_rfl) (mN _ _ _) h ⟨npl h, rfl, trivial⟩ ?_
  refine wLoop (Zinv n x (x / 2 ^ n.toNat) k k) (Zinv.mono _ _ _ _ _) Zmu (fun w h => ⟨n, a, rfl, .inl rfl, by rw [if_pos rfl, if_pos rfl]; exact h⟩) (fun cs _ => ?_)
  intro hm u hF
  obtain ⟨⟨m, a1, rfl, hc, _⟩, _⟩ := id hF
  refine wMono (G := fun w => NB w a1 (if m = n then x else x / 2 ^ n.toNat) (if m = n then k else k)) (mN _ _ _) (fun w h => h.1.at) ?_ hm u hF
  clear hm hF
  refine wPr (prGt rfl rfl) rfl ?_
  rcases hc with rfl | ⟨rfl, hn⟩
  · refine wIf _ rfl (fun e => ?_) (fun e => ?_)
    · have hn : 0 < m := by simpa using e
      refine wPr (prMinE (z := m) rfl rfl (by show min m (1048576 : Int) = m; omega)) rfl ?_
      refine wNat hU (n := x / 2 ^ m.toNat) (m := k) (fun w b h => by
        rw [if_pos rfl, if_pos rfl] at h
        exact shrI _ x m k w h hk (by omega) h1) (fun x1 => ?_)
      refine wPr (prSubI rfl rfl (by show _ ≤ m - (1048576 : Int); omega) (by show m - (1048576 : Int) ≤ _; omega)) rfl ?_
      refine wBack fun w ⟨h1', _⟩ => ⟨⟨m - 1048576, x1, rfl, .inr ⟨rfl, hn⟩, by rw [if_neg (by omega), if_neg (by omega)]; exact h1'⟩, ?_⟩
      show (m - 1048576).toNat < m.toNat
      omega
    · have hn : ¬ 0 < m := by simpa using e
      refine wRet fun w b h => ⟨_, rfl, ?_, b⟩
      rw [if_pos rfl, if_pos rfl] at h
      rw [show m.toNat = 0 by omega, Nat.pow_zero, Nat.div_one]
      exact h
  · refine wFalse (by show Value.bool (decide (0 < n - 1048576)) = _; rw [decide_eq_false (by omega)]) ?_
    refine wRet fun w b h => ⟨_, rfl, ?_, b⟩
    rw [if_neg (by omega), if_neg (by omega)] at h
    exact h

/-- One of the program's dyadic numbers: its odd part below pw k, its power of two at most K. -/
def DyQ (w : World) (x y : Value) (q : Rat) (k K : Nat) : Prop := IB w x y (oddOf q) k ∧ Dy q ∧ -(K : Int) ≤ expOf q ∧ expOf q ≤ K
def DyB (w : World) (v : Value) (q : Rat) (k K : Nat) : Prop := ∃ x y, v = .agg #[x, y, .int .i64 (expOf q)] ∧ DyQ w x y q k K
theorem mY (x y : Value) (q : Rat) (k K : Nat) : Mono DD fun w => DyQ w x y q k K := fun _ _ e ⟨h1, h2⟩ => ⟨h1.ext e hU, h2⟩
theorem ypl {w : World} {x y : Value} {q : Rat} {k K : Nat} (h : DyQ w x y q k K) (c : Value) (hc : c.oneCell' = true) : [x, y, c].all Value.oneCell' = true := by
  have p := ipl h.1
  simp only [List.all_cons, List.all_nil, Bool.and_true, Bool.and_eq_true] at p ⊢
  exact ⟨p.1, p.2, hc⟩
theorem wDy {w0 : World} {Post : Ending → World → Prop} {F : World → Prop} {L : LC} {E : Env} {tr : Tr} {f : FuncId} {ar : List V1} {args : Array Value} {q : Rat} {k K : Nat}
    (hc : ∀ w, Below w0.heap.size w0 w → F w → Calls Tryz.prog f args w fun e w' => ∃ v, e = .returned v ∧ DyB w' v q k K ∧ Below w.heap.size w w')
    {E' : Value → Value → Env} (hk : ∀ a b, Wk Tryz.prog w0 DD DD Post L (fun w => DyQ w a b q k K ∧ F w) tr (E' a b)) (ha : (ar.map (V1.den [] E)).toArray = args := by rfl) (hE : ∀ a b, E ++ [[a, b, .int .i64 (expOf q)]] = E' a b := by intros; (simp only [List.cons_append, List.nil_append]) <;> exact rfl) : Wk Tryz.prog w0 DD DD Post L F (.em (.call f ar [some 3]) tr) E := by
  intro hm u hF w e b
  subst ha
  refine (hc w b (hm u w e hF)).mono ?_
  rintro e1 w' ⟨v, rfl, ⟨a, b, rfl, hv⟩, h4⟩
  exact ⟨[a, b, .int .i64 (expOf q)], rfl, ypl hv _ rfl, h4, hE _ _ ▸ hk _ _ ((mY _ _ _ _ _).and hm) w' ⟨hv, hm u w' (e.below h4) hF⟩⟩
theorem wDyV {w0 : World} {Post : Ending → World → Prop} {F : World → Prop} {L : LC} {E : Env} {tr : Tr} {f : FuncId} {ar : List V1} {args : Array Value} {q : Rat} {k K : Nat} {c : Value}
    (hc : ∀ w, Below w0.heap.size w0 w → F w → Calls Tryz.prog f args w fun e w' => ∃ v, e = .returned (.tuple #[v, c]) ∧ DyB w' v q k K ∧ Below w.heap.size w w') (hv : c.oneCell' = true)
    {E' : Value → Value → Env} (hk : ∀ a b, Wk Tryz.prog w0 DD DD Post L (fun w => DyQ w a b q k K ∧ F w) tr (E' a b)) (ha : (ar.map (V1.den [] E)).toArray = args := by rfl) (hE : ∀ a b, E ++ [[a, b, .int .i64 (expOf q), c]] = E' a b := by intros; (simp only [List.cons_append, List.nil_append]) <;> exact rfl) : Wk Tryz.prog w0 DD DD Post L F (.em (.call f ar [some 3, none]) tr) E := by
  intro hm u hF w e b
  subst ha
  refine (hc w b (hm u w e hF)).mono ?_
  rintro e1 w' ⟨v, rfl, ⟨a, b, rfl, h1⟩, h4⟩
  have p := ipl h1.1
  simp only [List.all_cons, List.all_nil, Bool.and_true, Bool.and_eq_true] at p
  exact ⟨[a, b, .int .i64 (expOf q), c], rfl, by simp only [List.all_cons, List.all_nil, Bool.and_true, Bool.and_eq_true]; exact ⟨p.1, p.2, rfl, hv⟩, h4, hE _ _ ▸ hk _ _ ((mY _ _ _ _ _).and hm) w' ⟨h1, hm u w' (e.below h4) hF⟩⟩
theorem DyQ.wide {w : World} {x y : Value} {q : Rat} {k K j J : Nat} (h : DyQ w x y q k K) (hk : k ≤ j) (hK : K ≤ J) : DyQ w x y q j J := ⟨h.1.mono hk, h.2.1, by have := h.2.2.1; omega, by have := h.2.2.2; omega⟩
theorem zeroDy (w : World) (k K : Nat) : DyB w (.agg #[.bool false, .slice none 0 0, .int .i64 0]) 0 k K := by
  refine ⟨.bool false, .slice none 0 0, by rw [exp_zero], ?_, dy_zero.dy, by rw [exp_zero]; omega, by rw [exp_zero]; omega⟩
  rw [odd_zero]; exact IntB.zero _ _ _

/-- strip: m times 2 to the e in its one form. -/
theorem strip_any (v : Value) (m e : Int) (k K : Nat) (w : World) (hT : Tabs w) (h : IntB 146 w v m k) (hk : k ≤ 32768) (h0 : -(K : Int) ≤ e) (h1 : e ≤ K) (hK : K ≤ 1000000000000) :
    Calls Tryz.prog 157 #[v, .int .i64 e] w fun e' w' => ∃ v', e' = .returned v' ∧ DyB w' v' ((m : Rat) * tp e) k (K + 32 * k) ∧ Below w.heap.size w w' := by
  obtain ⟨x, y, rfl, h⟩ := ibc h
  have htz := tz_pw h.2
  refine go (fun w => IB w x y m k) [[x, y], [.int .i64 e]] [some 2, none] (tr := (.em (.call 103 [.g [.c 0 0, .c 0 1]] [none]) (.em (.pr (.binOp .eql 3 (.tmp 0) (.const (.int .i64 0)) 3) 4 [.s (.c 2 0), .s (.k (.int .i64 0))]) (.cond (.c 3 0) (.ret (.v (.g [.k (.bool false), .k (.slice none 0 0), .k (.int .i64 0)]))) (.em (.call 135 [.g [.c 0 0, .c 0 1]] [some 1]) (.em (.call 154 [.g [.c 4 0]] [none]) (.em (.pr (.binOp .add 3 (.tmp 0) (.tmp 1) 3) 3 [.s (.c 1 0), .s (.c 5 0)]) (.em (.call 103 [.g [.c 0 0, .c 0 1]] [none]) (.em (.pr (.binOp .lss 3 (.tmp 0) (.const (.int .i64 0)) 3) 4 [.s (.c 7 0), .s (.k (.int .i64 0))]) (.em (.call 188 [.g [.c 4 0], .s (.c 5 0)] [some 1]) (.em (.call 133 [.s (.c 8 0), .g [.c 9 0]] [some 2]) (.ret (.v (.g [.c 10 0, .c 10 1, .c 6 0])))))))))))))) (by kernel_rfl) (by kernel_rfl) (by kernel_rfl) (mI _ _ _ _) h ⟨ipl h, rfl, trivial⟩ ?_
  refine wVal (fun w b h => sign_any _ m k w h (by omega)) rfl ?_
  refine wPr (prEq rfl rfl) rfl ?_
  refine wIf _ rfl (fun e1 => ?_) (fun e1 => ?_)
  · have e2 : m = 0 := by have := (sgn_zero m).symm.trans e1; simpa using this
    refine wRet fun w b _ => ⟨_, rfl, ?_, b⟩
    rw [(dv_sign m e).2.1 e2]
    exact zeroDy w _ _
  · have e2 : m ≠ 0 := by have := (sgn_zero m).symm.trans e1; simpa using this
    have hd := isDy_of (e := e) e2 (tzOf_ok m.natAbs) rfl
    refine wNat hU (fun w b h => abs_any _ m k w h (by omega)) (fun x1 => ?_)
    refine wVal (fun w b ⟨h1, _⟩ => zerosI _ m.natAbs k w (hT.below b) h1 (by omega)) rfl ?_
    refine wPr (prAddI rfl rfl (by omega) (by omega)) rfl ?_
    refine wVal (fun w b ⟨_, h⟩ => sign_any _ m k w h (by omega)) rfl ?_
    refine wPr (prLt rfl rfl) rfl ?_
    refine wNat hU (fun w b ⟨h1, _⟩ => sdn_any _ m.natAbs (tzOf m.natAbs : Nat) k w h1 (by omega) (by omega) (by omega)) (fun x2 => ?_)
    refine wInt hU (fun w b ⟨h2, _⟩ => from_any _ _ _ k w h2 (by omega)) (fun x3 y3 => ?_)
    refine wRet fun w b ⟨h3, _⟩ => ⟨_, rfl, ⟨x3, y3, by rw [hd.exp]; rfl, ?_, hd.dy, by rw [hd.exp]; omega, by rw [hd.exp]; omega⟩, b⟩
    rw [sgn_neg] at h3
    rw [hd.odd]
    by_cases hm : m < 0
    · rw [if_pos hm]; rw [decide_eq_true hm] at h3; exact h3
    · rw [if_neg hm]; rw [decide_eq_false hm] at h3; exact h3

theorem sg_shl (m : Int) (N : Nat) : sg (decide (m < 0)) (m.natAbs * 2 ^ N) = m * 2 ^ N := by
  have hp : ((2 ^ N : Nat) : Int) = 2 ^ N := by rw [Int.natCast_pow]; rfl
  unfold sg
  by_cases h : m < 0
  · rw [decide_eq_true h, if_pos rfl, Int.natCast_mul, hp, ← Int.neg_mul]; congr 1; omega
  · rw [decide_eq_false h, if_neg (by simp), Int.natCast_mul, hp]; congr 1; omega

/-- at: by 2 to the e. -/
theorem at_any (x y : Value) (m e' e : Int) (k : Nat) (w : World) (h : IB w x y m k) (hk : k ≤ 1000000) (h0 : 0 ≤ e' - e) (h1 : e' - e ≤ 1048576) :
    Calls Tryz.prog 125 #[.agg #[x, y, .int .i64 e'], .int .i64 e] w fun r w' => ∃ v', r = .returned v' ∧ IntB 146 w' v' (m * 2 ^ (e' - e).toNat) (k + (e' - e).toNat / 32 + 1) ∧ Below w.heap.size w w' := by
  have p := ipl h
  refine go (fun w => IB w x y m k) [[x, y, .int .i64 e'], [.int .i64 e]] [some 3, none] (tr := (.em (.pr (.binOp .sub 3 (.tmp 0) (.tmp 1) 3) 3 [.s (.c 0 2), .s (.c 1 0)]) (.em (.pr (.call (.mk (.builtin .min) #[.tmp 0, .const (.int .i64 67108864)] #[3, 3])) 3 [.s (.c 2 0), .s (.k (.int .i64 67108864))]) (.em (.call 103 [.g [.c 0 0, .c 0 1]] [none]) (.em (.pr (.binOp .lss 3 (.tmp 0) (.const (.int .i64 0)) 3) 4 [.s (.c 4 0), .s (.k (.int .i64 0))]) (.em (.call 135 [.g [.c 0 0, .c 0 1]] [some 1]) (.em (.call 153 [.g [.c 6 0], .s (.c 3 0)] [some 1]) (.em (.call 133 [.s (.c 5 0), .g [.c 7 0]] [some 2]) (.ret (.v (.g [.c 8 0, .c 8 1]))))))))))) (by kernel_rfl) (by kernel_rfl) (by kernel_rfl) (mI _ _ _ _) h ⟨by simp only [List.all_cons, List.all_nil, Bool.and_true, Bool.and_eq_true] at p ⊢; exact ⟨p.1, p.2, rfl⟩, rfl, trivial⟩ ?_
  refine wPr (prSubI rfl rfl (by omega) (by omega)) rfl ?_
  refine wPr (prMinE (z := e' - e) rfl rfl (by show min (e' - e) (67108864 : Int) = _; omega)) rfl ?_
  refine wVal (fun w b h => sign_any _ m k w h (by omega)) rfl ?_
  refine wPr (prLt rfl rfl) rfl ?_
  refine wNat hU (fun w b h => abs_any _ m k w h (by omega)) (fun x1 => ?_)
  refine wNat hU (n := m.natAbs * 2 ^ (e' - e).toNat) (m := k + (e' - e).toNat / 32 + 1) (fun w b ⟨h1', _⟩ => sup_any _ m.natAbs (e' - e) k w h1' (by omega) (by omega) (by omega)) (fun x2 => ?_)
  refine wInt hU (fun w b ⟨h2, _⟩ => from_any _ _ _ _ w h2 (by omega)) (fun x3 y3 => ?_)
  refine wRet fun w b ⟨h3, _⟩ => ⟨_, rfl, ?_, b⟩
  rw [sgn_neg, sg_shl] at h3
  exact h3

theorem sumDy {q r : Rat} {e : Int} (hq : Dy q) (hr : Dy r) (h1 : e ≤ expOf q) (h2 : e ≤ expOf r) : ((oddOf q * 2 ^ (expOf q - e).toNat + oddOf r * 2 ^ (expOf r - e).toNat : Int) : Rat) * tp e = q + r := by
  rw [Rat.intCast_add, Rat.add_mul, two_lift _ h1, two_lift _ h2, hq.val, hr.val]

theorem DyQ.neg {w : World} {x y x' y' : Value} {q : Rat} {k K : Nat} (h : DyQ w x y q k K) (h' : IB w x' y' (-oddOf q) k) : DyQ w x' y' (-q) k K := ⟨by rw [h.2.1.oddNeg]; exact h', h.2.1.neg, by rw [h.2.1.expNeg]; exact h.2.2.1, by rw [h.2.1.expNeg]; exact h.2.2.2⟩

theorem mulDy {q r : Rat} (hq : Dy q) (hr : Dy r) : ((oddOf q * oddOf r : Int) : Rat) * tp (expOf q + expOf r) = q * r := by
  rw [Rat.intCast_mul, two_add]
  have h1 := hq.val
  have h2 := hr.val
  generalize (oddOf q : Rat) = a at *
  generalize (oddOf r : Rat) = b at *
  generalize tp (expOf q) = c at *
  generalize tp (expOf r) = d at *
  subst h1 h2
  grind

theorem midDy {q : Rat} (hq : Dy q) : (oddOf q : Rat) * tp (expOf q - 1) = q / 2 := by
  have h1 := hq.val
  rw [Int.sub_eq_add_neg, two_add]
  have h2 := two_neg 1
  rw [two_one] at h2
  generalize (oddOf q : Rat) = a at *
  generalize tp (expOf q) = c at *
  generalize tp (-1) = d at *
  subst h1
  grind

end Go.Proofs.YtfohgkabmdhhaaaGreatDoor
/- Contracts of package dyad: New, Of, Rat, Parts, Cmp, Parse, Text. -/
namespace Go.Proofs.YtfohgkabmdhhaaaGreatDoor
open Go.RowKit Cin

theorem den_lt {w : World} {a b c d : Value} {q : Rat} {k : Nat} (h : QB w a b c d q k) : q.den < pw k := h.2.2

theorem nq_two {m e : Int} {N D : Int} (hN : N = m * 2 ^ e.toNat) (hD : D = 2 ^ (-e).toNat) : nq N D = (m : Rat) * tp e := by
  have h1 := two_split (-e)
  rw [Int.neg_neg] at h1
  have c1 : (D : Rat) = ((2 ^ (-e).toNat : Nat) : Rat) := by
    have : ((2 ^ (-e).toNat : Nat) : Rat) = (((2 ^ (-e).toNat : Nat) : Int) : Rat) := rfl
    rw [this, hD, Int.natCast_pow]; rfl
  have c2 : ((2 ^ e.toNat : Int) : Rat) = ((2 ^ e.toNat : Nat) : Rat) := by
    have : ((2 ^ e.toNat : Nat) : Rat) = (((2 ^ e.toNat : Nat) : Int) : Rat) := rfl
    rw [this, Int.natCast_pow]; rfl
  have hd : (D : Rat) ≠ 0 := by
    rw [c1]; intro h
    have := Rat.natCast_eq_zero_iff.1 h
    exact absurd this (Nat.pos_iff_ne_zero.1 (Nat.two_pow_pos _))
  rw [nq_div, hN, Rat.intCast_mul, c2, ← h1, ← c1]
  rw [← Rat.mul_assoc, Rat.mul_div_cancel hd]

set_option maxHeartbeats 1000000 in
/-- Rat: as a quotient. -/
theorem yrat_any (v : Value) (q : Rat) (k K : Nat) (w : World) (h : DyB w v q k K) (hk : k ≤ 8000) (hK : K ≤ 1000000) :
    Calls Tryz.prog 86 #[v] w fun r w' => ∃ v', r = .returned v' ∧ RatB w' v' q (k + K / 32 + 3) ∧ Below w.heap.size w w' := by
  obtain ⟨x, y, rfl, h⟩ := h
  obtain ⟨dq, b1, b2⟩ := h.2
  refine go (fun w => DyQ w x y q k K) [[x, y, .int .i64 (expOf q)]] [some 3] (tr := (.em (.call 104 [.s (.k (.int .i64 1))] [some 2]) (.em (.pr (.binOp .lss 3 (.tmp 0) (.const (.int .i64 0)) 3) 4 [.s (.c 0 2), .s (.k (.int .i64 0))]) (.cond (.c 2 0) (.em (.pr (.unOp .neg 3 (.tmp 0)) 3 [.s (.c 0 2)]) (.em (.call 125 [.g [.c 0 0, .c 0 1, .k (.int .i64 0)], .s (.k (.int .i64 0))] [some 2]) (.em (.call 125 [.g [.c 1 0, .c 1 1, .c 3 0], .s (.k (.int .i64 0))] [some 2]) (.em (.call 124 [.g [.c 4 0, .c 4 1], .g [.c 5 0, .c 5 1]] [some 4, none]) (.ret (.v (.g [.c 6 0, .c 6 1, .c 6 2, .c 6 3]))))))) (.em (.call 125 [.g [.c 0 0, .c 0 1, .c 0 2], .s (.k (.int .i64 0))] [some 2]) (.em (.call 125 [.g [.c 1 0, .c 1 1, .k (.int .i64 0)], .s (.k (.int .i64 0))] [some 2]) (.em (.call 124 [.g [.c 3 0, .c 3 1], .g [.c 4 0, .c 4 1]] [some 4, none]) (.ret (.v (.g [.c 5 0, .c 5 1, .c 5 2, .c 5 3])))))))))) (by kernel_rfl) (by kernel_rfl) (by kernel_rfl) (mY _ _ _ _ _) h ⟨ypl h _ rfl, trivial⟩ ?_
  refine wInt hU (fun w b _ => iof_any 1 w (by decide) (by decide)) (fun x1 y1 => ?_)
  refine wPr (prLt rfl rfl) rfl ?_
  refine wIf _ rfl (fun e => ?_) (fun e => ?_)
  · have e1 : expOf q < 0 := by simpa using e
    refine wPr (prNegI rfl (by omega) (by omega)) rfl ?_
    refine wInt hU (fun w b ⟨_, h⟩ => at_any x y (oddOf q) 0 0 k w h.1 (by omega) (by decide) (by decide)) (fun x2 y2 => ?_)
    refine wInt hU (fun w b ⟨_, h1, _⟩ => at_any x1 y1 1 (-expOf q) 0 2 w h1 (by omega) (by omega) (by omega)) (fun x3 y3 => ?_)
    refine wRatV (q := q) (m := k + K / 32 + 3) (fun w b ⟨h3, h2, _⟩ => by
      have hh := qnew_any _ _ _ _ (k + K / 32 + 3) w (h2.mono (by show k + 0 / 32 + 1 ≤ _; omega)) (h3.mono (by omega)) (by omega) (by rw [Int.one_mul]; exact Int.ne_of_gt (Int.pow_pos (by decide)))
      rw [nq_two (m := oddOf q) (e := expOf q) (by rw [show (expOf q).toNat = 0 by omega]; rfl) (by rw [Int.one_mul]; congr 1; omega), dq.val] at hh
      exact hh) rfl (fun a b c d => ?_)
    exact wRet fun w b ⟨h, _⟩ => ⟨_, rfl, ⟨_, _, _, _, rfl, h⟩, b⟩
  · have e1 : ¬ expOf q < 0 := by simpa using e
    refine wInt hU (fun w b ⟨_, h⟩ => at_any x y (oddOf q) (expOf q) 0 k w h.1 (by omega) (by omega) (by omega)) (fun x2 y2 => ?_)
    refine wInt hU (fun w b ⟨_, h1, _⟩ => at_any x1 y1 1 0 0 2 w h1 (by omega) (by decide) (by decide)) (fun x3 y3 => ?_)
    refine wRatV (q := q) (m := k + K / 32 + 3) (fun w b ⟨h3, h2, _⟩ => by
      have hh := qnew_any _ _ _ _ (k + K / 32 + 3) w (h2.mono (by omega)) (h3.mono (by show 2 + 0 / 32 + 1 ≤ _; omega)) (by omega) (by decide)
      rw [nq_two (m := oddOf q) (e := expOf q) (by rw [show (expOf q - 0).toNat = (expOf q).toNat by omega]) (by rw [show (-expOf q).toNat = 0 by omega]; rfl), dq.val] at hh
      exact hh) rfl (fun a b c d => ?_)
    exact wRet fun w b ⟨h, _⟩ => ⟨_, rfl, ⟨_, _, _, _, rfl, h⟩, b⟩

theorem cmpZ_cases (x y : Int) : cmpZ x y = -1 ∨ cmpZ x y = 0 ∨ cmpZ x y = 1 := by unfold cmpZ; split; exact .inl rfl; split; exact .inr (.inr rfl); exact .inr (.inl rfl)
theorem sgnZ_three (x : Int) : sgnZ x = -1 ∨ sgnZ x = 0 ∨ sgnZ x = 1 := by unfold sgnZ; split; exact .inl rfl; split; exact .inr (.inr rfl); exact .inr (.inl rfl)
theorem cmpZ_ne {x y : Int} : cmpZ x y ≠ 0 ↔ x ≠ y := by unfold cmpZ; split; omega; split <;> omega

end Go.Proofs.YtfohgkabmdhhaaaGreatDoor
