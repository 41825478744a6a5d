/- Numbers whose denominator is a power of two: plain facts. No program. -/
import Derived.Test.YtkekgmdofgkbcaaGreatDoorYj
import Derived.Test.YtkekgmdofgkbcaaGreatDoorYa
import Derived.Deep.RegionHeld3
namespace Cin
def tp (e : Int) : Rat := (2 : Rat) ^ e
theorem two_pos (e : Int) : 0 < tp e := Rat.zpow_pos (by decide)
theorem two_ne (e : Int) : tp e ≠ 0 := Rat.ne_of_gt (two_pos e)
theorem two_add (a b : Int) : tp (a + b) = tp a * tp b := Rat.zpow_add (by decide) a b
theorem two_zero : tp 0 = 1 := Rat.zpow_zero 2
theorem two_nat (n : Nat) : tp n = ((2 ^ n : Nat) : Rat) := by
  unfold tp
  rw [Rat.zpow_natCast, Rat.natCast_pow]; rfl
theorem two_natZ (n : Nat) : tp n = ((2 ^ n : Int) : Rat) := by rw [two_nat, ← Rat.intCast_natCast, Int.natCast_pow]; rfl
theorem two_neg (e : Int) : tp e * tp (-e) = 1 := by rw [← two_add, Int.add_right_neg, two_zero]
def Can (m e : Int) : Prop := (m = 0 ∧ e = 0) ∨ m % 2 = 1
def IsDy (q : Rat) (m e : Int) : Prop := Can m e ∧ q = (m : Rat) * tp e
theorem IsDy.unique_le {q : Rat} {m e m' e' : Int} (h : IsDy q m e) (h' : IsDy q m' e') (hle : e ≤ e') (h0 : q ≠ 0) : m = m' ∧ e = e' := by
  obtain ⟨n, rfl⟩ := Int.le.dest hle
  have hq := h.2.symm.trans h'.2
  rw [two_add, two_natZ] at hq
  have e1 : (m : Rat) = ((m' * 2 ^ n : Int) : Rat) := by
    rw [Rat.intCast_mul]
    have := two_ne e
    generalize tp e = t at *
    generalize ((2 ^ n : Int) : Rat) = s at *
    grind
  have e2 : m = m' * 2 ^ n := Rat.intCast_inj.1 e1
  have hm : m % 2 = 1 := by
    rcases h.1 with ⟨r, _⟩ | r
    · refine absurd ?_ h0
      rw [h.2, r]; exact Rat.zero_mul _
    · exact r
  cases n with
  | zero => simp at e2; subst e2; exact ⟨rfl, by simp⟩
  | succ n =>
    rw [Int.pow_succ, ← Int.mul_assoc] at e2
    omega
theorem IsDy.unique {q : Rat} {m e m' e' : Int} (h : IsDy q m e) (h' : IsDy q m' e') : m = m' ∧ e = e' := by
  by_cases h0 : q = 0
  · have z : ∀ {m e : Int}, IsDy q m e → m = 0 ∧ e = 0 := by
      intro m e h
      rcases h.1 with r | r
      · exact r
      · have h2 := h.2
        rw [h0] at h2
        rcases Rat.mul_eq_zero.1 h2.symm with r1 | r1
        · have := Rat.intCast_eq_zero_iff.1 r1
          omega
        · exact absurd r1 (two_ne e)
    obtain ⟨rfl, rfl⟩ := z h
    obtain ⟨rfl, rfl⟩ := z h'
    exact ⟨rfl, rfl⟩
  · rcases Int.le_total e e' with hl | hl
    · exact h.unique_le h' hl h0
    · obtain ⟨a, b⟩ := h'.unique_le h hl h0
      exact ⟨a.symm, b.symm⟩
theorem isDy_of {m : Int} {n z : Nat} {e : Int} (hm : m ≠ 0) (hz : IsTz m.natAbs z) (hn : n = m.natAbs / 2 ^ z) : IsDy ((m : Rat) * tp e) (if m < 0 then -(n : Int) else n) (e + z) := by
  rcases hz with ⟨h, _⟩ | ⟨c, hc⟩
  · omega
  · have h1 : n = 2 * c + 1 := by rw [hn, hc, Nat.mul_div_cancel_left _ (Nat.two_pow_pos z)]
    have h2 : m = (if m < 0 then -(n : Int) else n) * 2 ^ z := by
      have h3 : (m.natAbs : Int) = (n : Int) * 2 ^ z := by
        rw [hc, h1, Int.natCast_mul, Int.natCast_pow, Int.mul_comm]; rfl
      split
      · rw [Int.neg_mul]; omega
      · omega
    refine ⟨.inr ?_, ?_⟩
    · split <;> omega
    · generalize (if m < 0 then -(n : Int) else (n : Int)) = r at h2
      rw [h2, two_add, two_natZ, Rat.intCast_mul]
      grind
theorem dy_zero : IsDy 0 0 0 := ⟨.inl ⟨rfl, rfl⟩, by rw [two_zero, Rat.mul_one]; rfl⟩
theorem tz_ex (n : Nat) (h : n ≠ 0) : ∃ z, IsTz n z := by
  induction n using Nat.strongRecOn with
  | ind n ih =>
    rcases Nat.mod_two_eq_zero_or_one n with r | r
    · obtain ⟨z, hz⟩ := ih (n / 2) (by omega) (by omega)
      rcases hz with ⟨h1, _⟩ | ⟨c, hc⟩
      · omega
      · exact ⟨z + 1, .inr ⟨c, by rw [Nat.pow_succ, Nat.mul_right_comm, ← hc]; omega⟩⟩
    · exact ⟨0, .inr ⟨n / 2, by omega⟩⟩
def tzG : Nat → Nat → Nat
  | 0, _ => 0
  | f + 1, n => if n % 2 = 0 then tzG f (n / 2) + 1 else 0
def tzOf (n : Nat) : Nat := if n = 0 then 0 else tzG n n
theorem tzG_ok (f n : Nat) (h : n ≠ 0) (hf : n ≤ f) : IsTz n (tzG f n) := by
  induction f generalizing n with
  | zero => omega
  | succ f ih =>
    unfold tzG
    split
    · rename_i r
      rcases ih (n / 2) (by omega) (by omega) with ⟨h1, _⟩ | ⟨c, hc⟩
      · omega
      · exact .inr ⟨c, by rw [Nat.pow_succ, Nat.mul_right_comm, ← hc]; omega⟩
    · exact .inr ⟨n / 2, by simp; omega⟩
theorem tzOf_ok (n : Nat) : IsTz n (tzOf n) := by
  unfold tzOf
  split
  · rename_i h; exact .inl ⟨h, rfl⟩
  · rename_i h; exact tzG_ok n n h (Nat.le_refl _)
def oddOf (q : Rat) : Int := if q.num < 0 then -((q.num.natAbs / 2 ^ tzOf q.num.natAbs : Nat) : Int) else (q.num.natAbs / 2 ^ tzOf q.num.natAbs : Nat)
def expOf (q : Rat) : Int := -(tzOf q.den : Int) + tzOf q.num.natAbs
def Dy (q : Rat) : Prop := IsDy q (oddOf q) (expOf q)
theorem dy_iff {q : Rat} {k : Nat} (h : q.den = 2 ^ k) : Dy q := by
  have e : q = (q.num : Rat) * tp (-(k : Int)) := by
    have h1 : (q.num : Rat) = q * (q.den : Rat) := by
      have e := Rat.mkRat_self q
      rw [Rat.mkRat_eq_div] at e
      have hd : (q.den : Rat) ≠ 0 := by
        have := q.den_nz
        intro h; exact this (Rat.natCast_eq_zero_iff.1 h)
      rw [← Rat.div_mul_cancel (a := (q.num : Rat)) hd, e]
    rw [h1, h, ← two_nat, Rat.mul_assoc, two_neg, Rat.mul_one]
  by_cases h0 : q.num = 0
  · have : q = 0 := Rat.num_eq_zero.1 h0
    rw [this]
    exact dy_zero
  · have hk : tzOf q.den = k := by
      have h1 := tzOf_ok q.den
      rw [h] at h1 ⊢
      rcases h1 with ⟨r, _⟩ | ⟨m, hm⟩
      · have := Nat.two_pow_pos k; omega
      · generalize tzOf (2 ^ k) = t at *
        have hle : t ≤ k := by
          have : 2 ^ t ≤ 2 ^ k := by rw [hm]; exact Nat.le_mul_of_pos_right _ (by omega)
          exact (Nat.pow_le_pow_iff_right (by decide)).1 this
        obtain ⟨d, rfl⟩ := Nat.exists_eq_add_of_le hle
        rw [Nat.pow_add] at hm
        have r2 := Nat.eq_of_mul_eq_mul_left (Nat.two_pow_pos t) hm
        cases d with
        | zero => rfl
        | succ d => rw [Nat.pow_succ] at r2; omega
    have r := isDy_of (m := q.num) (e := -(k : Int)) h0 (tzOf_ok q.num.natAbs) rfl
    rw [← e] at r
    unfold Dy oddOf expOf
    rw [hk]
    exact r
theorem IsDy.den {q : Rat} {m e : Int} (h : IsDy q m e) : ∃ k, q.den = 2 ^ k := by
  obtain ⟨h1, h2⟩ := h
  by_cases he : 0 ≤ e
  · obtain ⟨n, rfl⟩ := Int.eq_ofNat_of_zero_le he
    refine ⟨0, ?_⟩
    rw [h2, two_natZ, ← Rat.intCast_mul]; rfl
  · rcases h1 with ⟨rfl, rfl⟩ | h1
    · omega
    · obtain ⟨n, hn⟩ := Int.eq_ofNat_of_zero_le (show 0 ≤ -e by omega)
      have hc : m.natAbs.Coprime (2 ^ n) := Nat.Coprime.pow_right n (by
        rw [Nat.Coprime, Nat.gcd_comm, Nat.gcd_rec, show m.natAbs % 2 = 1 by omega, Nat.gcd_one_left])
      refine ⟨n, (rat_of (q := q) (Nat.pos_iff_ne_zero.1 (Nat.two_pow_pos n)) hc ?_).2⟩
      have h3 : tp e * ((2 ^ n : Nat) : Rat) = 1 := by rw [← two_nat, ← two_add, show e + (n : Int) = 0 by omega, two_zero]
      rw [Rat.mkRat_eq_div, h2, Rat.div_def]
      congr 1
      exact Rat.inv_eq_of_mul_eq_one (by rw [Rat.mul_comm]; exact h3)
theorem IsDy.dy {q : Rat} {m e : Int} (h : IsDy q m e) : Dy q := let ⟨_, hk⟩ := h.den; dy_iff hk
theorem IsDy.odd {q : Rat} {m e : Int} (h : IsDy q m e) : oddOf q = m := (h.dy.unique h).1
theorem IsDy.exp {q : Rat} {m e : Int} (h : IsDy q m e) : expOf q = e := (h.dy.unique h).2
theorem Dy.val {q : Rat} (h : Dy q) : (oddOf q : Rat) * tp (expOf q) = q := h.2.symm
def Rep (b : Nat) (q : Rat) : Prop := ∃ m e : Int, q = (m : Rat) * tp e ∧ m.natAbs < 2 ^ b
def IsDown (b : Nat) (a d : Rat) : Prop := Rep b d ∧ d ≤ a ∧ ∀ r, Rep b r → r ≤ a → r ≤ d
theorem IsDown.unique {b : Nat} {a d d' : Rat} (h : IsDown b a d) (h' : IsDown b a d') : d = d' := Rat.le_antisymm (h'.2.2 d h.1 h.2.1) (h.2.2 d' h'.1 h'.2.1)
theorem Rep.neg {b : Nat} {q : Rat} (h : Rep b q) : Rep b (-q) := by
  obtain ⟨m, e, rfl, hb⟩ := h
  exact ⟨-m, e, by rw [Rat.intCast_neg, Rat.neg_mul], by rw [Int.natAbs_neg]; exact hb⟩
theorem Rep.mono {b c : Nat} {q : Rat} (h : Rep b q) (hc : b ≤ c) : Rep c q := by
  obtain ⟨m, e, rfl, hb⟩ := h
  exact ⟨m, e, rfl, Nat.lt_of_lt_of_le hb (Nat.pow_le_pow_right (by decide) hc)⟩
theorem Rep.odd {b : Nat} {q : Rat} (h : Rep b q) : (oddOf q).natAbs < 2 ^ b := by
  obtain ⟨m, e, rfl, hm⟩ := h
  by_cases h0 : m = 0
  · have : IsDy ((m : Rat) * tp e) 0 0 := by
      rw [h0]
      have : ((0 : Int) : Rat) * tp e = 0 := Rat.zero_mul _
      rw [this]; exact dy_zero
    rw [this.odd]; exact Nat.two_pow_pos b
  · obtain ⟨z, hz⟩ := tz_ex m.natAbs (by omega)
    rw [(isDy_of (e := e) h0 hz rfl).odd]
    have := Nat.div_le_self m.natAbs (2 ^ z)
    generalize m.natAbs / 2 ^ z = t at *
    split <;> omega
theorem num_over (a : Rat) : a * (a.den : Rat) = (a.num : Rat) := by
  have e := Rat.mkRat_self a
  rw [Rat.mkRat_eq_div] at e
  have hd : (a.den : Rat) ≠ 0 := by
    have := a.den_nz
    intro h; exact this (Rat.natCast_eq_zero_iff.1 h)
  have h := Rat.div_mul_cancel (a := (a.num : Rat)) hd
  rwa [e] at h
def blOf (n : Nat) : Nat := if n = 0 then 0 else Nat.log2 n + 1
theorem blOf_ok (n : Nat) : IsBl n (blOf n) := by
  unfold blOf
  split
  · rename_i h; subst h; exact ⟨by decide, .inl rfl⟩
  · rename_i h; exact ⟨Nat.lt_log2_self, .inr (Nat.log2_self_le h)⟩
theorem blOf_le {n j : Nat} (h : n < 2 ^ j) : blOf n ≤ j := by
  have h1 := blOf_ok n
  rcases Nat.lt_or_ge j (blOf n) with hl | hl
  · rcases h1.2 with r | r
    · omega
    · have := Nat.pow_le_pow_right (n := 2) (by decide) (show j ≤ blOf n - 1 by omega)
      omega
  · exact hl
theorem tzOf_le {n j : Nat} (h : n < 2 ^ j) : tzOf n ≤ j := by
  by_cases h0 : n = 0
  · subst h0; exact Nat.zero_le _
  · exact Nat.le_of_lt ((tzOf_ok n).lt h0 h)
def DyOk (q : Rat) : Prop := tzOf q.den + 1 = blOf q.den
theorem DyOk.den {q : Rat} (h : DyOk q) : q.den = 2 ^ tzOf q.den := by
  unfold DyOk at h
  have h1 := (blOf_ok q.den).1
  rw [← h] at h1
  rcases tzOf_ok q.den with ⟨r, _⟩ | ⟨m, hm⟩
  · exact absurd r q.den_nz
  · generalize tzOf q.den = t at *
    rw [hm, Nat.pow_succ] at h1
    have := Nat.lt_of_mul_lt_mul_left h1
    have : m = 0 := by omega
    rw [hm, this]; simp
theorem DyOk.val {q : Rat} (h : DyOk q) : (q.num : Rat) * tp (-(tzOf q.den : Int)) = q := by
  have h1 := num_over q
  have h2 : (q.den : Rat) = tp (tzOf q.den) := by rw [two_nat, ← h.den]
  rw [← h1, h2, Rat.mul_assoc, two_neg, Rat.mul_one]
theorem DyOk.dy {q : Rat} (h : DyOk q) : Dy q := dy_iff h.den
theorem dv_sign (m e : Int) : (m < 0 → (m : Rat) * tp e < 0) ∧ (m = 0 → (m : Rat) * tp e = 0) ∧ (0 < m → 0 < (m : Rat) * tp e) :=
  ⟨fun h => (Rat.mul_neg_iff_of_pos_right (two_pos e)).2 (Rat.intCast_neg_iff.2 h), fun h => by rw [h]; exact Rat.zero_mul _, fun h => Rat.mul_pos (Rat.intCast_pos.2 h) (two_pos e)⟩
theorem IsDy.neg {q : Rat} {m e : Int} (h : IsDy q m e) : IsDy (-q) (-m) e := by
  refine ⟨?_, by rw [h.2, Rat.intCast_neg, Rat.neg_mul]⟩
  rcases h.1 with ⟨rfl, rfl⟩ | r
  · exact .inl ⟨rfl, rfl⟩
  · exact .inr (by omega)
theorem Dy.neg {q : Rat} (h : Dy q) : Dy (-q) := (IsDy.neg h).dy
theorem Dy.oddNeg {q : Rat} (h : Dy q) : oddOf (-q) = -oddOf q := (IsDy.neg h).odd
theorem Dy.expNeg {q : Rat} (h : Dy q) : expOf (-q) = expOf q := (IsDy.neg h).exp
theorem odd_zero : oddOf 0 = 0 := dy_zero.odd
theorem exp_zero : expOf 0 = 0 := dy_zero.exp
end Cin

namespace Go.Proofs.YtkekgmdofgkbcaaGreatDoor
open Go.RowKit Cin
theorem info_u32 : (Tryz.prog.info? 190).map (fun i => (i.zero, i.size, i.bytes)) = some (some (.int .u32 0), 1, 4) := by kernel_rfl
end Go.Proofs.YtkekgmdofgkbcaaGreatDoor

namespace Go.Proofs.YtkekgmdofgkbcaaGreatDoor
open Go.RowKit Cin
theorem shiftDown_read {t : TypeId} {w : World} {v : Value} {xs ys : List Nat} {b off len cap : Nat} (h : Sl t .u32 w v xs) (hB : Blk w b t .u32 ys)
    (hne : (∀ b' o' n' c', v = .slice (some ⟨b', o', none⟩) n' c' → b' ≠ b) ∨ ∃ n' c', v = .slice (some ⟨b, off, none⟩) n' c') (hlen : xs.length ≤ len) (hcl : len ≤ cap) (hoff : off + cap ≤ ys.length)
    (k : Nat) (os : List Nat) (wr : World) (hol : os.length = k) (hk : k ≤ xs.length) (hblk : Blk wr b t .u32 (splice ys off os)) (hkeep : Keep (· = b) w wr) :
    ∃ zs, Sl t .u32 wr v zs ∧ zs.length = xs.length ∧ ∀ j, k ≤ j → lim zs j = lim xs j := by
  rcases hne with hne | ⟨n', c', rfl⟩
  · exact ⟨xs, h.keep hkeep hne, rfl, fun _ _ => rfl⟩
  · rcases h with ⟨e, _⟩ | ⟨b1, o1, c1, cur, e, hb1, hc1, hl1, hx1⟩
    · cases e
    · cases e
      unfold Blk at hB
      rw [hB] at hb1
      simp only [Option.some.injEq, Obj.cells.injEq, and_true] at hb1
      subst hb1
      rw [ints_size] at hc1
      refine ⟨((splice ys off os).drop off).take xs.length, Sl.of_part hblk (by rw [splice_length (by omega)]; exact hc1) hl1, ?_, ?_⟩
      · rw [List.length_take, List.length_drop, splice_length (by omega)]; omega
      · intro j hj
        rcases Nat.lt_or_ge j xs.length with hjx | hjx
        · have e1 := hx1 j hjx
          rw [ints_get (by omega)] at e1
          simp only [Option.some.injEq, Value.int.injEq, true_and] at e1
          rw [lim_take hjx, lim_drop]
          unfold splice
          rw [lim_append_right (by simp; omega), lim_drop]
          have e2 : off + os.length + (off + j - (ys.take off ++ os).length) = off + j := by simp; omega
          rw [e2]; omega
        · rw [lim_ge (by rw [List.length_take]; omega), lim_ge hjx]
theorem shiftDown_step {t : TypeId} {w wr : World} {xs ys zs os : List Nat} {b off k s tm : Nat} (ho : Ok xs) (hs : s < 32) (hol : os.length = k) (hok : Ok os) (hv : val os = val xs / 2 ^ s % pw k)
    (hblk : Blk wr b t .u32 (splice ys off os)) (hkeep : Keep (· = b) w wr) (hzs : ∀ j, k ≤ j → lim zs j = lim xs j) (etm : tm = (lim zs k + lim zs (k + 1) * 4294967296) / 2 ^ s % 4294967296) (hlt : off + k < ys.length) (nq : Nat) :
    (os ++ [tm]).length = k + 1 ∧ Ok (os ++ [tm]) ∧ val (os ++ [tm]) = val xs / 2 ^ s % pw (k + 1) ∧
          Blk ((wr.drewN nq).setCell ⟨b, off + k, none⟩ (.int .u32 (tm : Nat))) b t .u32 (splice ys off (os ++ [tm])) ∧ Keep (· = b) w ((wr.drewN nq).setCell ⟨b, off + k, none⟩ (.int .u32 (tm : Nat))) := by
  have hb : Blk (wr.drewN nq) b t .u32 (splice ys off os) := hblk
  have hkk : Keep (· = b) w (wr.drewN nq) := ⟨hkeep.os, hkeep.tape, hkeep.output, hkeep.size, hkeep.block⟩
  have htm : tm < 4294967296 := by rw [etm]; exact Nat.mod_lt _ (by decide)
  have e1 := val_snoc os tm
  have e2 := mod_pw_succ (val xs / 2 ^ s) k
  have e3 := limb_shift ho k s hs
  rw [hol, hv] at e1
  rw [← hzs k (Nat.le_refl _), ← hzs (k + 1) (Nat.le_succ _), ← etm] at e3
  refine ⟨by rw [List.length_append, hol]; rfl, hok.append (Ok.cons htm Ok.nil), by rw [e1, e2, e3], ?_, hkk.setCell rfl _⟩
  have := hb.set (off + k) tm
  rw [← hol, splice_set (by omega), hol] at this
  exact this
set_option maxHeartbeats 1000000 in
theorem shiftDown_any (b off len cap : Nat) (ys : List Nat) (v : Value) (xs : List Nat) (s : Nat) (w : World) (hs : s < 32) (h : Sl 190 .u32 w v xs) (ho : Ok xs) (hB : Blk w b 190 .u32 ys)
    (hne : (∀ b' o' n' c', v = .slice (some ⟨b', o', none⟩) n' c' → b' ≠ b) ∨ ∃ n' c', v = .slice (some ⟨b, off, none⟩) n' c') (hlen : xs.length ≤ len) (hcl : len ≤ cap) (hoff : off + cap ≤ ys.length) (hn : xs.length ≤ 1000000000000) :
    Calls Tryz.prog 208 #[.slice (some ⟨b, off, none⟩) len cap, v, .int .i64 s] w fun e w' => e = .returned (.tuple #[]) ∧
      ∃ os, os.length = xs.length ∧ Ok os ∧ val os = val xs / 2 ^ s ∧ Blk w' b 190 .u32 (splice ys off os) ∧ Keep (· = b) w w' := by
  have hfin : val xs / 2 ^ s % pw xs.length = val xs / 2 ^ s := Nat.mod_eq_of_lt (Nat.lt_of_le_of_lt (Nat.div_le_self _ _) (val_lt ho))
  have HR := Lib.hid (shiftDown_read h hB hne hlen hcl hoff)
  have HF := Lib.hid hfin
  have HB := Lib.hid hB
  obtain ⟨ad, xcap, rfl, hcap, had⟩ := h.shape
  clear h had hne hB hfin
  generalize hln : xs.length = n at *
  have HLN := Lib.hid hln
  clear hln
  go_enter Tryz.func208, Tryz.ntmps208
  go_wp2_with fail
  go_loopw [6, 7, 10] (fun _ _ i wr => ∃ (k : Nat) (os : List Nat), k ≤ n ∧ i = .int .i64 k ∧ os.length = k ∧ Ok os ∧ val os = val xs / 2 ^ s % pw k ∧
      Blk wr b 190 .u32 (splice ys off os) ∧ Keep (· = b) w wr) (fun _ _ i _ => n - (intOf i).toNat)
  case atStart => exact ⟨0, [], Nat.zero_le _, rfl, rfl, Ok.nil, by rw [pw_zero, Nat.mod_one]; rfl, by rw [splice_nil]; exact HB.out, Keep.refl _ _⟩
  case round =>
    obtain ⟨k, os, hk, rfl, hol, hok, hv, hblk, hkeep⟩ := hrel
    obtain ⟨zs, hsl, hzl, hzs⟩ := HR.out k os wr hol (by have := HLN.out; omega) hblk hkeep
    have HOL := Lib.hid hol
    have HV := Lib.hid hv
    have HBK := Lib.hid hblk
    have HK := Lib.hid hkeep
    have HZS := Lib.hid hzs
    have hzl' : zs.length = n := by have := HLN.out; omega
    clear hol hv hkeep hzl
    by_cases hlt : k < n
    · have hcell2 := hblk.cell (i := off + k) (by rw [splice_length (by have := HOL.out; omega)]; omega)
      have hf := hblk.free (off + k)
      obtain ⟨bx, offx, rfl, hcell, hblt⟩ := hsl.cell (i := k) (by omega)
      have l0 : lim zs k < 4294967296 := by rw [hzs k (Nat.le_refl _)]; exact lim_lt ho _
      have l1 : lim zs (k + 1) < 4294967296 := by rw [hzs _ (by omega)]; exact lim_lt ho _
      have hor : bits BinOp.or IntKind.u64 ((lim zs k : Nat) : Int) (((lim zs (k + 1) : Nat) : Int) * 4294967296) = ((lim zs k + lim zs (k + 1) * 4294967296 : Nat) : Int) := by
        have := or_u64' (x := lim zs (k + 1)) (y := lim zs k) (s := 32) (by omega) (by omega) (by omega)
        simpa using this
      obtain ⟨t, ht⟩ : ∃ t : Nat, t = lim zs k + lim zs (k + 1) * 4294967296 := ⟨_, rfl⟩
      rw [← ht] at hor
      obtain ⟨tm, htm, etm⟩ : ∃ tm : Nat, ((t : Int) / 2 ^ s % 4294967296) = (tm : Int) ∧ tm = t / 2 ^ s % 4294967296 := ⟨t / 2 ^ s % 4294967296, by simp, rfl⟩
      rw [ht] at etm
      have ETM := Lib.hid etm
      have w1 : IntKind.i64.wrap ((k : Int) + 1) = (k : Int) + 1 := IntWalk.i64_in _ (by omega)
      clear ht etm hblk hzs
      have hkl : k < len := by omega
      go_wp2_with fail
      go_quiet ((go_at_call 211; exact limbAt_quiet hsl _ (by omega)))
      go_wp2_with fail
      have R := shiftDown_step ho hs HOL.out hok HV.out HBK.out HK.out HZS.out ETM.out (by omega) nq
      exact ⟨⟨k + 1, os ++ [tm], by omega, by go_num, R⟩, by simp [intOf]; omega⟩
    · obtain rfl : k = n := by omega
      clear hblk hzs
      go_wp2
      go_end0
      exact ⟨rfl, os, HOL.out, hok, by rw [HV.out, HF.out], HBK.out, HK.out⟩
set_option maxRecDepth 100000 in
set_option maxHeartbeats 1000000 in
theorem shr_any (v : Value) (x : Nat) (m : Int) (L : Nat) (w : World) (h : NatV 190 w v x) (hx : x < pw L) (hL : L ≤ 100000000) :
    Calls Tryz.prog 228 #[v, .int .i64 m] w fun e w' => ∃ v', e = .returned v' ∧ NatV 190 w' v' (x / 2 ^ cut m) ∧ Below w.heap.size w w' := by
  have hk := cut_le m
  generalize hkk : cut m = k at *
  have HKK := Lib.hid hkk
  clear hkk
  obtain ⟨ad, len, cap, rfl, xs, hs, ho, hnm, rfl⟩ := h.shape
  obtain ⟨i0, hi0, hz0, hz1, hz2⟩ := info_parts info_u32
  have hlx := hs.len
  have hl : len ≤ 100000000 := by have := norm_len hnm hx; omega
  obtain ⟨i, hi, ei⟩ : ∃ i : Nat, (k : Int) / 32 = (i : Int) ∧ i = k / 32 := ⟨k / 32, by omega, rfl⟩
  obtain ⟨s, hs', es⟩ : ∃ s : Nat, (k : Int) % 32 = (s : Int) ∧ s = k % 32 := ⟨k % 32, by omega, rfl⟩
  have hib : i ≤ 32768 := by omega
  have hsb : s < 32 := by omega
  have ek : 2 ^ k = pw i * 2 ^ s := by rw [ei, es]; exact pow2_split32 k
  have hlc : len ≤ cap := by obtain ⟨_, _, e, hc, _⟩ := hs.shape; cases e; omega
  clear ei es hx h hnm
  rcases Nat.lt_or_ge i len with hil | hil
  · obtain ⟨b, off, rfl, _, hblt⟩ := hs.cell (i := i) (by omega)
    obtain ⟨n, hn, en⟩ : ∃ n : Nat, (len : Int) - (i : Int) = (n : Int) ∧ n = len - i := ⟨len - i, by omega, rfl⟩
    have hnb : n ≤ 100000000 := by omega
    have hci : ¬ (cap = i) := by omega
    have hval : val (xs.drop i) / 2 ^ s = val xs / 2 ^ k := by rw [ek, ← Nat.div_div_eq_div_mul, val_div_pw ho]
    have hdl : (xs.drop i).length = n := by rw [List.length_drop]; omega
    have hsd := hs.dropS (i := i) (by omega)
    have HSD := Lib.hid hsd
    have HDL := Lib.hid hdl
    have HV := Lib.hid hval
    have EN := Lib.hid en
    have H := Lib.hid hs
    have hdec : decide (len ≤ i) = false := by rw [decide_eq_false_iff_not]; omega
    clear hsd hdl hval en ek hs hlx
    go_enter Tryz.func228, Tryz.ntmps228
    go_wp2_with fail
    refine (cutShift_any _ _).mono ?_
    rintro e w1 ⟨rfl, rfl⟩
    rw [HKK.out]
    go_wp2_with (at_make; refine wpList_make_ints _ rfl _ _ 48 rfl 190 i0 .u32 Tryz.underlying48 hi0 hz0 hz1 .i64 .i64 _ _ n n rfl rfl (by omega) (by omega) (Nat.le_refl _) (by rw [hz2]; omega) (by omega) ?_)
    go_wp2_with fail
    have hbk := Blk.new ((w.alloc (Obj.cells #[Value.slice (some ⟨b, off, none⟩) len cap] 50)).alloc (Obj.cells #[Value.slice none 0 0] 50)) 190 .u32 (List.replicate n 0)
    simp only [World.size_alloc] at hbk
    refine (shiftDown_any (w.heap.size + 1 + 1) 0 n n (List.replicate n 0) _ (xs.drop i) s _ hsb (((HSD.out.alloc _).alloc _).alloc _) (ho.drop i) hbk (.inl ?_) (by rw [HDL.out]; exact Nat.le_refl _) (Nat.le_refl _) (by rw [List.length_replicate]; omega) (by rw [HDL.out]; omega)).mono ?_
    · intro b' o' n' c' e; cases e; omega
    rintro e w1 ⟨rfl, os, r1, r2, r3, r4, r5⟩
    rw [HDL.out] at r1
    have hk1 := (r5.block (w.heap.size + 1) (by simp) (by omega)).trans (nb31 _ _ _ _)
    have hbel1 : Below w.heap.size w w1 := (bel_alloc3 w _ _ _).trans (r5.below (by simp; omega) (fun k e => by omega))
    have hspl : splice (List.replicate n 0) 0 os = os := by unfold splice; rw [List.drop_eq_nil_of_le (by simp; omega)]; simp
    rw [hspl] at r4
    have hsl := Sl.of_blk r4
    rw [r1] at hsl
    have HS := Lib.hid hsl
    have HK1 := Lib.hid hk1
    have HB1 := Lib.hid hbel1
    have HR1 := Lib.hid r1
    have HR3 := Lib.hid r3
    clear hspl hsl hk1 hbel1 r1 r3 r4 r5 hbk
    go_wp2_with fail
    refine (wrap_any _ _ _ HS.out r2 (by rw [HR1.out]; omega)).mono ?_
    rintro e w2 ⟨v', rfl, hn2, hb2⟩
    obtain ⟨ad2, len2, cap2, rfl, hr2⟩ := hn2.shape
    have hk2 := (hb2.block (w.heap.size + 1) (by have := HB1.out.size; have := HS.out.lt rfl; omega)).trans HK1.out
    have hc := cell_of hk2 0
    have hf := free_of hk2 0
    simp only [List.getElem?_toArray, List.getElem?_cons_zero] at hc
    have HR := Lib.hid (fin_nat (bel_on HB1.out hb2) hk2 (by decide) hr2 (by omega) 0)
    clear hr2 hb2 hk2 hn2
    go_wp2
    refine bodyPost_ret (v := .agg #[.slice ad2 len2 cap2]) (by simp [results, Tryz.results228, go_sem, World.cell?_setCell_same _ _ _ hc]) rfl ⟨_, rfl, ?_⟩
    have := HR.out
    rw [HR3.out, HV.out] at this
    exact this
  · have hz : val xs / 2 ^ k = 0 := by
      apply Nat.div_eq_of_lt
      have h1 := val_lt ho
      have h2 := pw_le (a := xs.length) (b := i) (by omega)
      have h3 : pw i * 1 ≤ pw i * 2 ^ s := Nat.mul_le_mul_left _ (pow2_pos s)
      omega
    rw [hz]
    have hdec : decide (len ≤ i) = true := by rw [decide_eq_true_iff]; omega
    clear hz ek hs hlx
    go_enter Tryz.func228, Tryz.ntmps228
    go_wp2_with fail
    refine (cutShift_any _ _).mono ?_
    rintro e w1 ⟨rfl, rfl⟩
    rw [HKK.out]
    go_wp2_with fail
    refine bodyPost_ret (v := .agg #[.slice none 0 0]) (by simp [results, Tryz.results228, go_sem]) rfl ⟨_, rfl, NatV.zero _ _, bel_alloc2 _ _ _⟩
end Go.Proofs.YtkekgmdofgkbcaaGreatDoor

namespace Go.Proofs.YtkekgmdofgkbcaaGreatDoor
open Go.RowKit Cin
def cmpI (a b : Nat) : Int := if a < b then -1 else if b < a then 1 else 0
theorem order_quiet2 {w : World} {c n : Nat} (b : Bool) :
    Calls Tryz.prog 161 #[.bool b] (w.drewN (c + n)) fun e w'' => e = .returned (.int .i64 (if b then -1 else 1)) ∧ ∃ m, w'' = w.drewN (c + m) :=
  (order_any b (w.drewN (c + n))).mono fun _ _ hh => ⟨hh.1, n, hh.2.symm⟩
set_option maxRecDepth 100000 in
set_option maxHeartbeats 1000000 in
theorem cmp_any (v u : Value) (x y : Nat) (L : Nat) (w : World) (h : NatV 190 w v x) (h' : NatV 190 w u y) (hx : x < pw L) (hy : y < pw L) (hL : L ≤ 100000000) :
    Calls Tryz.prog 124 #[v, u] w fun e w' => e = .returned (.int .i64 (cmpI x y)) ∧ Below w.heap.size w w' := by
  obtain ⟨ad, len, cap, rfl, xs, hs, ho, hnm, rfl⟩ := h.shape
  obtain ⟨ad', len', cap', rfl, ys, hs', ho', hnm', rfl⟩ := h'.shape
  have hlx := hs.len
  have hly := hs'.len
  have hl : len ≤ 100000000 := by have := norm_len hnm hx; omega
  have hl' : len' ≤ 100000000 := by have := norm_len hnm' hy; omega
  clear hx hy h h'
  by_cases hll : len = len'
  · subst hll
    have hcmp : ((len : Int) != (len : Int)) = false := by simp
    have hlt : ∀ k, k < len → (∀ j, k < j → j < len → lim xs j = lim ys j) → lim xs k < lim ys k → cmpI (val xs) (val ys) = -1 := fun k hk hj hlt => by
      have := val_lt_of_top ho (by omega) (i := k) (by omega) (fun j h1 h2 => hj j h1 (by omega)) hlt
      unfold cmpI; rw [if_pos this]
    have hgt : ∀ k, k < len → (∀ j, k < j → j < len → lim xs j = lim ys j) → lim ys k < lim xs k → cmpI (val xs) (val ys) = 1 := fun k hk hj hlt => by
      have := val_lt_of_top ho' (by omega) (i := k) (by omega) (fun j h1 h2 => (hj j h1 (by omega)).symm) hlt
      unfold cmpI; rw [if_neg (by omega), if_pos this]
    have heq : (∀ j, j < len → lim xs j = lim ys j) → cmpI (val xs) (val ys) = 0 := fun hj => by
      have : xs = ys := ext_lim (by omega) (fun i hi => hj i (by omega))
      rw [this]; unfold cmpI; rw [if_neg (by omega), if_neg (by omega)]
    have HLT := Lib.hid hlt
    have HGT := Lib.hid hgt
    have HEQ := Lib.hid heq
    have H := Lib.hid hs
    have H' := Lib.hid hs'
    have HLX := Lib.hid hlx
    have HLY := Lib.hid hly
    clear hlt hgt heq hs hs' hlx hly hnm hnm'
    go_enter Tryz.func124, Tryz.ntmps124
    go_wp2_with fail
    have hbW := bel_alloc2 w (Obj.cells #[Value.slice ad len cap] 50) (Obj.cells #[Value.slice ad' len cap'] 50)
    have hca := cell_of (new_block2 w (Obj.cells #[Value.slice ad len cap] 50) (Obj.cells #[Value.slice ad' len cap'] 50)) 0
    have hcb := cell_of (nb21 w (Obj.cells #[Value.slice ad len cap] 50) (Obj.cells #[Value.slice ad' len cap'] 50)) 0
    simp only [List.getElem?_toArray, List.getElem?_cons_zero] at hca hcb
    have hsa := (H.out.alloc (Obj.cells #[Value.slice ad len cap] 50)).alloc (Obj.cells #[Value.slice ad' len cap'] 50)
    have hsb := (H'.out.alloc (Obj.cells #[Value.slice ad len cap] 50)).alloc (Obj.cells #[Value.slice ad' len cap'] 50)
    generalize (w.alloc (Obj.cells #[Value.slice ad len cap] 50)).alloc (Obj.cells #[Value.slice ad' len cap'] 50) = W at *
    have HBW := Lib.hid hbW
    have HSA := Lib.hid hsa
    have HSB := Lib.hid hsb
    clear hbW hsa hsb
    go_loopw [5] (fun i wr => ∃ nq, wr = W.drewN nq ∧ ((i = .int .i64 (-1) ∧ ∀ j, j < len → lim xs j = lim ys j) ∨ ∃ k : Nat, k < len ∧ i = .int .i64 k ∧ ∀ j, k < j → j < len → lim xs j = lim ys j)) (fun i _ => (intOf i + 1).toNat)
    case atStart =>
      refine ⟨0, rfl, ?_⟩
      rcases Nat.eq_zero_or_pos len with h0 | h0
      · subst h0; exact .inl ⟨rfl, fun j hj => absurd hj (Nat.not_lt_zero _)⟩
      · exact .inr ⟨len - 1, by omega, congrArg (Value.int IntKind.i64) (by omega), fun j h1 h2 => by omega⟩
    case round =>
      obtain ⟨nq, rfl, h | ⟨k, hk, rfl, hj⟩⟩ := hrel
      · obtain ⟨rfl, hj⟩ := h
        have HJ := Lib.hid hj
        clear hj
        go_wp2
        go_ret
        exact ⟨ret_int (HEQ.out HJ.out).symm, bel_drewN HBW.out _⟩
      · have HJ := Lib.hid hj
        clear hj
        obtain ⟨b, off, rfl, hcell, hblt⟩ := HSA.out.cell (i := k) (by have := HLX.out; omega)
        obtain ⟨b', off', rfl, hcell', hblt'⟩ := HSB.out.cell (i := k) (by have := HLY.out; omega)
        by_cases hne : lim xs k = lim ys k
        · have hnb : (((lim xs k : Nat) : Int) != ((lim ys k : Nat) : Int)) = false := by simp [hne]
          have HNE := Lib.hid hne
          clear hne
          go_wp2_with fail
          go_quiet (fail)
          go_wp2_with fail
          refine ⟨⟨_, rfl, ?_⟩, by simp only [intOf]; omega⟩
          have hstep : ∀ j, k ≤ j → j < len → lim xs j = lim ys j := fun j h1 h2 => by
            rcases Nat.eq_or_lt_of_le h1 with rfl | h1
            · exact HNE.out
            · exact HJ.out j h1 h2
          rcases Nat.eq_zero_or_pos k with h0 | h0
          · subst h0; exact .inl ⟨rfl, fun j hj => hstep j (Nat.zero_le _) hj⟩
          · exact .inr ⟨k - 1, by omega, congrArg (Value.int IntKind.i64) (by omega), fun j h1 h2 => hstep j (by omega) h2⟩
        · have hnb : (((lim xs k : Nat) : Int) != ((lim ys k : Nat) : Int)) = true := by simp; omega
          rcases Nat.lt_or_gt_of_ne hne with hlt | hlt
          · have hdec : decide (lim xs k < lim ys k) = true := by simpa using hlt
            go_wp2_with fail
            go_quiet (fail)
            go_wp2_with fail
            go_quiet ((go_at_call 161; exact order_quiet2 _))
            go_wp2_with fail
            go_ret
            exact ⟨ret_int (HLT.out k hk HJ.out hlt).symm, by first | exact bel_drewN HBW.out _ | exact bel_drewN (bel_drewN (bel_drewN HBW.out _) _) _⟩
          · have hdec : decide (lim xs k < lim ys k) = false := by simp; omega
            go_wp2_with fail
            go_quiet (fail)
            go_wp2_with fail
            go_quiet ((go_at_call 161; exact order_quiet2 _))
            go_wp2_with fail
            go_ret
            exact ⟨ret_int (HGT.out k hk HJ.out hlt).symm, by first | exact bel_drewN HBW.out _ | exact bel_drewN (bel_drewN (bel_drewN HBW.out _) _) _⟩
  · have hcmp : ((len : Int) != (len' : Int)) = true := by simp; omega
    rcases Nat.lt_or_gt_of_ne hll with hlt | hlt
    · have he : cmpI (val xs) (val ys) = -1 := by
        have := val_lt_of_len ho hnm' (by omega)
        unfold cmpI; rw [if_pos this]
      have HE := Lib.hid he
      have hdec : decide (len < len') = true := by simpa using hlt
      clear he hs hs' hlx hly hnm hnm' hll
      go_enter Tryz.func124, Tryz.ntmps124
      go_wp2_with (go_at_call 161; refine (order_any _ _).mono ?_; rintro e w' ⟨rfl, rfl⟩)
      go_ret
      exact ⟨ret_int HE.out.symm, bel_alloc2 _ _ _⟩
    · have he : cmpI (val xs) (val ys) = 1 := by
        have := val_lt_of_len ho' hnm (by omega)
        unfold cmpI; rw [if_neg (by omega), if_pos this]
      have HE := Lib.hid he
      have hdec : decide (len < len') = false := by simp; omega
      clear he hs hs' hlx hly hnm hnm' hll
      go_enter Tryz.func124, Tryz.ntmps124
      go_wp2_with (go_at_call 161; refine (order_any _ _).mono ?_; rintro e w' ⟨rfl, rfl⟩)
      go_ret
      exact ⟨ret_int HE.out.symm, bel_alloc2 _ _ _⟩
end Go.Proofs.YtkekgmdofgkbcaaGreatDoor

namespace Go.Proofs.YtkekgmdofgkbcaaGreatDoor
open Go.RowKit Cin
theorem step_add {t0 : TypeId} {w wr : World} {xs ys os ys0 : List Nat} {b off k q t td tm : Nat} (hol : os.length = k) (hok : Ok os) (hv : val os + pw k * q = val (xs.take k) + val (ys.take k))
    (hblk : Blk wr b t0 .u32 (splice ys0 off os)) (hkeep : Keep (· = b) w wr) (et : t = q + (lim xs k + lim ys k)) (etd : td = t / 4294967296) (etm : tm = t % 4294967296) (hlt : off + k < ys0.length)
    (hq : q ≤ 1 := by omega) (hx : lim xs k < 4294967296 := by assumption) (hy : lim ys k < 4294967296 := by assumption) :
    td ≤ 1 ∧ (os ++ [tm]).length = k + 1 ∧ Ok (os ++ [tm]) ∧ val (os ++ [tm]) + pw (k + 1) * td = val (xs.take (k + 1)) + val (ys.take (k + 1)) ∧
      Blk (wr.setCell ⟨b, off + k, none⟩ (.int .u32 (tm : Nat))) b t0 .u32 (splice ys0 off (os ++ [tm])) ∧ Keep (· = b) w (wr.setCell ⟨b, off + k, none⟩ (.int .u32 (tm : Nat))) := by
  have htm : tm < 4294967296 := by omega
  refine ⟨by omega, by rw [List.length_append, hol]; rfl, hok.append (Ok.cons htm Ok.nil), ?_, ?_, hkeep.setCell rfl _⟩
  · rw [val_snoc, hol, val_take_step xs, val_take_step ys, pw_succ]
    have e1 : t = tm + 4294967296 * td := by omega
    have e2 : pw k * t = pw k * tm + 4294967296 * pw k * td := by rw [e1, Nat.mul_add, Nat.mul_comm 4294967296 (pw k), Nat.mul_assoc]
    have e3 : pw k * t = pw k * q + (pw k * lim xs k + pw k * lim ys k) := by rw [et, Nat.mul_add, Nat.mul_add]
    omega
  · have := hblk.set (off + k) tm
    rw [← hol, splice_set (by omega), hol] at this
    exact this
set_option maxRecDepth 100000 in
set_option maxHeartbeats 1000000 in
theorem add_any (v u : Value) (x y : Nat) (L : Nat) (w : World) (h : NatV 190 w v x) (h' : NatV 190 w u y) (hx : x < pw L) (hy : y < pw L) (hL : L ≤ 100000000) :
    Calls Tryz.prog 174 #[v, u] w fun e w' => ∃ v', e = .returned v' ∧ NatV 190 w' v' (x + y) ∧ Below w.heap.size w w' := by
  obtain ⟨ad, len, cap, rfl, xs, hs, ho, hnm, rfl⟩ := h.shape
  obtain ⟨ad', len', cap', rfl, ys, hs', ho', hnm', rfl⟩ := h'.shape
  obtain ⟨i0, hi0, hz0, hz1, hz2⟩ := info_parts info_u32
  have hlx := hs.len
  have hly := hs'.len
  have hl : len ≤ 100000000 := by have := norm_len hnm hx; omega
  have hl' : len' ≤ 100000000 := by have := norm_len hnm' hy; omega
  have H := Lib.hid hs
  have H' := Lib.hid hs'
  have HLX := Lib.hid hlx
  have HLY := Lib.hid hly
  have HD := Lib.hid (show ∀ b' o' n' c', Value.slice ad len cap = .slice (some ⟨b', o', none⟩) n' c' → ¬ (b' = w.heap.size + 1 + 1 + 1) from fun b' o' n' c' e => by have := hs.lt e; omega)
  have HD' := Lib.hid (show ∀ b' o' n' c', Value.slice ad' len' cap' = .slice (some ⟨b', o', none⟩) n' c' → ¬ (b' = w.heap.size + 1 + 1 + 1) from fun b' o' n' c' e => by have := hs'.lt e; omega)
  clear hx hy h h' hs hs' hlx hly hnm hnm'
  by_cases hll : len < len'
  · have hdec : decide (len < len') = true := by rw [decide_eq_true_iff]; exact hll
    have hln : len' ≤ 100000000 := by omega
    obtain ⟨n1, hn1, en1⟩ : ∃ n1 : Nat, (len' : Int) + 1 = (n1 : Int) ∧ n1 = len' + 1 := ⟨len' + 1, by omega, rfl⟩
    have EN := Lib.hid en1
    have hnb : n1 ≤ 100000001 := by omega
    have hle : len ≤ len' := by omega
    clear en1 hll
    go_enter Tryz.func174, Tryz.ntmps174
    go_wp2_with fail
    go_quiet (fail)
    go_wp2_with (at_make; refine wpList_make_ints _ rfl _ _ 48 rfl 190 i0 .u32 Tryz.underlying48 hi0 hz0 hz1 .i64 .i64 _ _ n1 n1 rfl rfl (by omega) (by omega) (Nat.le_refl _) (by rw [hz2]; omega) (by omega) ?_)
    have hbW : Below w.heap.size w (((((w.alloc (Obj.cells #[Value.slice ad len cap] 50)).alloc (Obj.cells #[Value.slice ad' len' cap'] 50)).alloc (Obj.cells #[Value.slice none 0 0] 50)).drewN nq).alloc (Obj.cells (ints IntKind.u32 (List.replicate n1 0)) 190)) :=
      (bel_drewN (bel_alloc3 _ _ _ _) _).alloc (by simp; omega) _
    have hrW : (((((w.alloc (Obj.cells #[Value.slice ad len cap] 50)).alloc (Obj.cells #[Value.slice ad' len' cap'] 50)).alloc (Obj.cells #[Value.slice none 0 0] 50)).drewN nq).alloc (Obj.cells (ints IntKind.u32 (List.replicate n1 0)) 190)).heap[w.heap.size + 1 + 1]? = some (.cells #[.slice none 0 0] 50 (0, 0)) := nb42 w _ _ _ _
    have hkW : Blk (((((w.alloc (Obj.cells #[Value.slice ad len cap] 50)).alloc (Obj.cells #[Value.slice ad' len' cap'] 50)).alloc (Obj.cells #[Value.slice none 0 0] 50)).drewN nq).alloc (Obj.cells (ints IntKind.u32 (List.replicate n1 0)) 190)) (w.heap.size + 1 + 1 + 1) 190 .u32 (List.replicate n1 0) := nb43 w _ _ _ _
    generalize (((((w.alloc (Obj.cells #[Value.slice ad len cap] 50)).alloc (Obj.cells #[Value.slice ad' len' cap'] 50)).alloc (Obj.cells #[Value.slice none 0 0] 50)).drewN nq).alloc (Obj.cells (ints IntKind.u32 (List.replicate n1 0)) 190)) = W at *
    have hszW := hkW.lt
    have HL := Lib.hid (H'.out.below hbW)
    have HS := Lib.hid (H.out.below hbW)
    have HBW := Lib.hid hbW
    have HRW := Lib.hid hrW
    have HKW := Lib.hid hkW
    clear hbW hrW hkW H H'
    go_loopw [8, 9, 10, 28] (fun c _ _ i wr => ∃ (k q : Nat) (os : List Nat), k ≤ len' ∧ i = .int .i64 k ∧ c = .int .u64 q ∧ q ≤ 1 ∧ os.length = k ∧ Ok os ∧ val os + pw k * q = val (ys.take k) + val (xs.take k) ∧
        Blk wr (w.heap.size + 1 + 1 + 1) 190 .u32 (splice (List.replicate n1 0) 0 os) ∧ Keep (· = w.heap.size + 1 + 1 + 1) W wr) (fun _ _ _ i _ => len' - (intOf i).toNat)
    case atStart => exact ⟨0, 0, [], Nat.zero_le _, rfl, rfl, by omega, rfl, Ok.nil, rfl, by rw [splice_nil]; exact HKW.out, Keep.refl _ _⟩
    case round =>
      obtain ⟨k, q, os, hk, rfl, rfl, hq, hol, hok, hv, hblk, hkeep⟩ := hrel
      have HOL := Lib.hid hol
      have HV := Lib.hid hv
      have hcell2 := hblk.cell (i := k) (by rw [splice_length (by simp; have := EN.out; omega)]; simp; have := EN.out; omega)
      have hf := hblk.free k
      have HBK := Lib.hid hblk
      have HK := Lib.hid hkeep
      have HSr := Lib.hid (HS.out.keep HK.out (HD.out))
      have HLr := Lib.hid (HL.out.keep HK.out (HD'.out))
      clear hol hv hblk hkeep
      by_cases hlt : k < len'
      · obtain ⟨bx, offx, rfl, hcell, hblt⟩ := HLr.out.cell (i := k) (by have := HLY.out; omega)
        have hlim : lim ys k < 4294967296 := lim_lt ho' _
        have hlim2 : lim xs k < 4294967296 := lim_lt ho _
        obtain ⟨t, ht, et⟩ : ∃ t : Nat, (q : Int) + (((lim ys k : Nat) : Int) + ((lim xs k : Nat) : Int)) = (t : Int) ∧ t = q + (lim ys k + lim xs k) := ⟨_, by omega, rfl⟩
        have htb : t ≤ 8589934591 := by omega
        obtain ⟨td, htd, etd⟩ : ∃ td : Nat, ((t : Int) / 4294967296) = (td : Int) ∧ td = t / 4294967296 := ⟨t / 4294967296, by omega, rfl⟩
        obtain ⟨tm, htm, etm⟩ : ∃ tm : Nat, ((t : Int) % 4294967296) = (tm : Int) ∧ tm = t % 4294967296 := ⟨t % 4294967296, by omega, rfl⟩
        have R := step_add (xs := ys) (ys := xs) (off := 0) (ys0 := List.replicate n1 0) HOL.out hok HV.out HBK.out HK.out et etd etm (by simp; have := EN.out; omega)
        rw [Nat.zero_add] at R
        have HR := Lib.hid R
        have hkn : k < n1 := by omega
        clear R et etd etm
        go_wp2_with (go_at_call 211; refine (limbAt_any _ xs _ _ HSr.out (by omega)).mono ?_; rintro e w' ⟨rfl, rfl⟩; rw [Int.toNat_natCast])
        obtain ⟨r1, r2, r3, r4, r5, r6⟩ := HR.out
        exact ⟨⟨k + 1, td, os ++ [tm], by omega, by go_num, rfl, r1, r2, r3, r4, r5, r6⟩, by simp [intOf]; omega⟩
      · obtain rfl : k = len' := by omega
        have hos : splice (List.replicate n1 0) 0 (os ++ [q]) = os ++ [q] := splice_zeros_all (by rw [List.length_append, HOL.out, EN.out]; rfl)
        have hb2 : Blk (wr.setCell ⟨w.heap.size + 1 + 1 + 1, k, none⟩ (.int .u32 (q : Nat))) (w.heap.size + 1 + 1 + 1) 190 .u32 (os ++ [q]) := by
          have := HBK.out.set (0 + os.length) q
          rw [splice_set (by simp; have := EN.out; have := HOL.out; omega), hos, HOL.out, Nat.zero_add] at this
          exact this
        have hsl := Sl.of_blk hb2
        rw [List.length_append, HOL.out, show k + [q].length = n1 from EN.out.symm] at hsl
        have hval : val (os ++ [q]) = val xs + val ys := by
          rw [val_snoc, HOL.out, HV.out, List.take_of_length_le (by have := HLY.out; omega), List.take_of_length_le (by have := HLX.out; omega), Nat.add_comm]
        have hoks : Ok (os ++ [q]) := hok.append (Ok.cons (by omega) Ok.nil)
        have hlen2 : (os ++ [q]).length ≤ 1000000000000 := by rw [List.length_append, HOL.out]; simp; omega
        have hk3 : Keep (· = w.heap.size + 1 + 1 + 1) W (wr.setCell ⟨w.heap.size + 1 + 1 + 1, k, none⟩ (.int .u32 (q : Nat))) := HK.out.setCell rfl _
        have hr3 := (hk3.block (w.heap.size + 1 + 1) (by omega) (by omega)).trans HRW.out
        have hb3 := HBW.out.trans (hk3.below (B := w.heap.size) (by have := HBW.out.size; omega) (fun k e => by omega))
        have HV2 := Lib.hid hval
        have HSL := Lib.hid hsl
        have HR3 := Lib.hid hr3
        have HB3 := Lib.hid hb3
        have hkn : k < n1 := by have := EN.out; omega
        clear hval hsl hr3 hb3 hk3 hb2 hos
        go_wp2_with fail
        refine (wrap_any _ _ _ HSL.out hoks hlen2).mono ?_
        rintro e w2 ⟨v', rfl, hn2, hb2⟩
        obtain ⟨ad2, len2, cap2, rfl, hr2⟩ := hn2.shape
        have hk2 := (hb2.block (w.heap.size + 1 + 1) (by have := HSL.out.lt rfl; omega)).trans HR3.out
        have hc := cell_of hk2 0
        have hf := free_of hk2 0
        simp only [List.getElem?_toArray, List.getElem?_cons_zero] at hc
        have HR := Lib.hid (fin_nat (bel_on HB3.out hb2) hk2 (by decide) hr2 (by omega) 0)
        clear hr2 hb2 hk2 hn2
        go_wp2
        refine bodyPost_ret (v := .agg #[.slice ad2 len2 cap2]) (by simp [results, Tryz.results174, go_sem, World.cell?_setCell_same _ _ _ hc]) rfl ⟨_, rfl, ?_⟩
        have := HR.out
        rw [HV2.out] at this
        exact this
  · have hdec : decide (len < len') = false := by rw [decide_eq_false_iff_not]; exact hll
    have hln : len ≤ 100000000 := by omega
    obtain ⟨n1, hn1, en1⟩ : ∃ n1 : Nat, (len : Int) + 1 = (n1 : Int) ∧ n1 = len + 1 := ⟨len + 1, by omega, rfl⟩
    have EN := Lib.hid en1
    have hnb : n1 ≤ 100000001 := by omega
    have hle : len' ≤ len := by omega
    clear en1 hll
    go_enter Tryz.func174, Tryz.ntmps174
    go_wp2_with fail
    go_quiet (fail)
    go_wp2_with (at_make; refine wpList_make_ints _ rfl _ _ 48 rfl 190 i0 .u32 Tryz.underlying48 hi0 hz0 hz1 .i64 .i64 _ _ n1 n1 rfl rfl (by omega) (by omega) (Nat.le_refl _) (by rw [hz2]; omega) (by omega) ?_)
    have hbW : Below w.heap.size w (((((w.alloc (Obj.cells #[Value.slice ad len cap] 50)).alloc (Obj.cells #[Value.slice ad' len' cap'] 50)).alloc (Obj.cells #[Value.slice none 0 0] 50)).drewN nq).alloc (Obj.cells (ints IntKind.u32 (List.replicate n1 0)) 190)) :=
      (bel_drewN (bel_alloc3 _ _ _ _) _).alloc (by simp; omega) _
    have hrW : (((((w.alloc (Obj.cells #[Value.slice ad len cap] 50)).alloc (Obj.cells #[Value.slice ad' len' cap'] 50)).alloc (Obj.cells #[Value.slice none 0 0] 50)).drewN nq).alloc (Obj.cells (ints IntKind.u32 (List.replicate n1 0)) 190)).heap[w.heap.size + 1 + 1]? = some (.cells #[.slice none 0 0] 50 (0, 0)) := nb42 w _ _ _ _
    have hkW : Blk (((((w.alloc (Obj.cells #[Value.slice ad len cap] 50)).alloc (Obj.cells #[Value.slice ad' len' cap'] 50)).alloc (Obj.cells #[Value.slice none 0 0] 50)).drewN nq).alloc (Obj.cells (ints IntKind.u32 (List.replicate n1 0)) 190)) (w.heap.size + 1 + 1 + 1) 190 .u32 (List.replicate n1 0) := nb43 w _ _ _ _
    generalize (((((w.alloc (Obj.cells #[Value.slice ad len cap] 50)).alloc (Obj.cells #[Value.slice ad' len' cap'] 50)).alloc (Obj.cells #[Value.slice none 0 0] 50)).drewN nq).alloc (Obj.cells (ints IntKind.u32 (List.replicate n1 0)) 190)) = W at *
    have hszW := hkW.lt
    have HL := Lib.hid (H.out.below hbW)
    have HS := Lib.hid (H'.out.below hbW)
    have HBW := Lib.hid hbW
    have HRW := Lib.hid hrW
    have HKW := Lib.hid hkW
    clear hbW hrW hkW H H'
    go_loopw [8, 9, 10, 28] (fun c _ _ i wr => ∃ (k q : Nat) (os : List Nat), k ≤ len ∧ i = .int .i64 k ∧ c = .int .u64 q ∧ q ≤ 1 ∧ os.length = k ∧ Ok os ∧ val os + pw k * q = val (xs.take k) + val (ys.take k) ∧
        Blk wr (w.heap.size + 1 + 1 + 1) 190 .u32 (splice (List.replicate n1 0) 0 os) ∧ Keep (· = w.heap.size + 1 + 1 + 1) W wr) (fun _ _ _ i _ => len - (intOf i).toNat)
    case atStart => exact ⟨0, 0, [], Nat.zero_le _, rfl, rfl, by omega, rfl, Ok.nil, rfl, by rw [splice_nil]; exact HKW.out, Keep.refl _ _⟩
    case round =>
      obtain ⟨k, q, os, hk, rfl, rfl, hq, hol, hok, hv, hblk, hkeep⟩ := hrel
      have HOL := Lib.hid hol
      have HV := Lib.hid hv
      have hcell2 := hblk.cell (i := k) (by rw [splice_length (by simp; have := EN.out; omega)]; simp; have := EN.out; omega)
      have hf := hblk.free k
      have HBK := Lib.hid hblk
      have HK := Lib.hid hkeep
      have HSr := Lib.hid (HS.out.keep HK.out (HD'.out))
      have HLr := Lib.hid (HL.out.keep HK.out (HD.out))
      clear hol hv hblk hkeep
      by_cases hlt : k < len
      · obtain ⟨bx, offx, rfl, hcell, hblt⟩ := HLr.out.cell (i := k) (by have := HLX.out; omega)
        have hlim : lim xs k < 4294967296 := lim_lt ho _
        have hlim2 : lim ys k < 4294967296 := lim_lt ho' _
        obtain ⟨t, ht, et⟩ : ∃ t : Nat, (q : Int) + (((lim xs k : Nat) : Int) + ((lim ys k : Nat) : Int)) = (t : Int) ∧ t = q + (lim xs k + lim ys k) := ⟨_, by omega, rfl⟩
        have htb : t ≤ 8589934591 := by omega
        obtain ⟨td, htd, etd⟩ : ∃ td : Nat, ((t : Int) / 4294967296) = (td : Int) ∧ td = t / 4294967296 := ⟨t / 4294967296, by omega, rfl⟩
        obtain ⟨tm, htm, etm⟩ : ∃ tm : Nat, ((t : Int) % 4294967296) = (tm : Int) ∧ tm = t % 4294967296 := ⟨t % 4294967296, by omega, rfl⟩
        have R := step_add (xs := xs) (ys := ys) (off := 0) (ys0 := List.replicate n1 0) HOL.out hok HV.out HBK.out HK.out et etd etm (by simp; have := EN.out; omega)
        rw [Nat.zero_add] at R
        have HR := Lib.hid R
        have hkn : k < n1 := by omega
        clear R et etd etm
        go_wp2_with (go_at_call 211; refine (limbAt_any _ ys _ _ HSr.out (by omega)).mono ?_; rintro e w' ⟨rfl, rfl⟩; rw [Int.toNat_natCast])
        obtain ⟨r1, r2, r3, r4, r5, r6⟩ := HR.out
        exact ⟨⟨k + 1, td, os ++ [tm], by omega, by go_num, rfl, r1, r2, r3, r4, r5, r6⟩, by simp [intOf]; omega⟩
      · obtain rfl : k = len := by omega
        have hos : splice (List.replicate n1 0) 0 (os ++ [q]) = os ++ [q] := splice_zeros_all (by rw [List.length_append, HOL.out, EN.out]; rfl)
        have hb2 : Blk (wr.setCell ⟨w.heap.size + 1 + 1 + 1, k, none⟩ (.int .u32 (q : Nat))) (w.heap.size + 1 + 1 + 1) 190 .u32 (os ++ [q]) := by
          have := HBK.out.set (0 + os.length) q
          rw [splice_set (by simp; have := EN.out; have := HOL.out; omega), hos, HOL.out, Nat.zero_add] at this
          exact this
        have hsl := Sl.of_blk hb2
        rw [List.length_append, HOL.out, show k + [q].length = n1 from EN.out.symm] at hsl
        have hval : val (os ++ [q]) = val xs + val ys := by
          rw [val_snoc, HOL.out, HV.out, List.take_of_length_le (by have := HLX.out; omega), List.take_of_length_le (by have := HLY.out; omega)]
        have hoks : Ok (os ++ [q]) := hok.append (Ok.cons (by omega) Ok.nil)
        have hlen2 : (os ++ [q]).length ≤ 1000000000000 := by rw [List.length_append, HOL.out]; simp; omega
        have hk3 : Keep (· = w.heap.size + 1 + 1 + 1) W (wr.setCell ⟨w.heap.size + 1 + 1 + 1, k, none⟩ (.int .u32 (q : Nat))) := HK.out.setCell rfl _
        have hr3 := (hk3.block (w.heap.size + 1 + 1) (by omega) (by omega)).trans HRW.out
        have hb3 := HBW.out.trans (hk3.below (B := w.heap.size) (by have := HBW.out.size; omega) (fun k e => by omega))
        have HV2 := Lib.hid hval
        have HSL := Lib.hid hsl
        have HR3 := Lib.hid hr3
        have HB3 := Lib.hid hb3
        have hkn : k < n1 := by have := EN.out; omega
        clear hval hsl hr3 hb3 hk3 hb2 hos
        go_wp2_with fail
        refine (wrap_any _ _ _ HSL.out hoks hlen2).mono ?_
        rintro e w2 ⟨v', rfl, hn2, hb2⟩
        obtain ⟨ad2, len2, cap2, rfl, hr2⟩ := hn2.shape
        have hk2 := (hb2.block (w.heap.size + 1 + 1) (by have := HSL.out.lt rfl; omega)).trans HR3.out
        have hc := cell_of hk2 0
        have hf := free_of hk2 0
        simp only [List.getElem?_toArray, List.getElem?_cons_zero] at hc
        have HR := Lib.hid (fin_nat (bel_on HB3.out hb2) hk2 (by decide) hr2 (by omega) 0)
        clear hr2 hb2 hk2 hn2
        go_wp2
        refine bodyPost_ret (v := .agg #[.slice ad2 len2 cap2]) (by simp [results, Tryz.results174, go_sem, World.cell?_setCell_same _ _ _ hc]) rfl ⟨_, rfl, ?_⟩
        have := HR.out
        rw [HV2.out] at this
        exact this
end Go.Proofs.YtkekgmdofgkbcaaGreatDoor
