/- Contracts of the document's Bits, DivNat and Gcd. -/
import Derived.Test.YtfohgkabmdhhaaaGreatDoorYl
import Derived.Deep.LoopGhost
import Derived.Test.YtfohgkabmdhhaaaGreatDoorYa
import Derived.Test.YtfohgkabmdhhaaaGreatDoorYc
import Derived.Test.YtfohgkabmdhhaaaGreatDoorYf
import Derived.BigGuard
namespace Cin
open Go Go.RowKit
/-- How far the divisor may go upwards, at first. -/
theorem div_start {a b ca cb : Nat} (ha : IsBl a ca) (hb : IsBl b cb) (hb0 : b ≠ 0) : a < b * 2 ^ (((ca : Int) - (cb : Int) + 1).toNat) := by
  have h1 := ha.1
  rcases hb.2 with h2 | h2
  · exfalso
    have := hb.1
    rw [h2] at this
    omega
  · have hcb : cb ≠ 0 := by
      intro e
      have := hb.1
      rw [e] at this
      omega
    rcases Nat.lt_or_ge ca cb with h3 | h3
    · rw [show ((ca : Int) - (cb : Int) + 1).toNat = 0 by omega, Nat.pow_zero, Nat.mul_one]
      have := Nat.pow_le_pow_right (n := 2) (by decide) (show ca ≤ cb - 1 by omega)
      omega
    · have e : 2 ^ ca = 2 ^ (cb - 1) * 2 ^ (((ca : Int) - (cb : Int) + 1).toNat) := by rw [← Nat.pow_add]; congr 1; omega
      have := Nat.mul_le_mul_right (2 ^ (((ca : Int) - (cb : Int) + 1).toNat)) h2
      omega
/-- One step down. -/
theorem div_yes {a b Q R i : Nat} (h : a = Q * b + R) (hr : R < b * 2 ^ (i + 1)) (hl : b * 2 ^ i ≤ R) : a = (Q + 2 ^ i) * b + (R - b * 2 ^ i) ∧ R - b * 2 ^ i < b * 2 ^ i := by
  rw [Nat.pow_succ, ← Nat.mul_assoc] at hr
  refine ⟨?_, by omega⟩
  rw [Nat.add_mul, Nat.mul_comm (2 ^ i) b]
  omega
theorem div_end {a b Q R : Nat} (h : a = Q * b + R) (hr : R < b) : Q = a / b ∧ R = a % b := by
  subst h
  refine ⟨?_, ?_⟩
  · rw [Nat.mul_comm, Nat.mul_add_div (by omega), Nat.div_eq_of_lt hr, Nat.add_zero]
  · rw [Nat.mul_comm, Nat.mul_add_mod, Nat.mod_eq_of_lt hr]
theorem bl_bound {x c k : Nat} (h : IsBl x c) (hx : x < pw k) : c ≤ 32 * k := by
  rcases h.2 with e | e
  · omega
  · rcases Nat.lt_or_ge (32 * k) c with h1 | h1
    · have := Nat.pow_le_pow_right (n := 2) (by decide) (show 32 * k ≤ c - 1 by omega)
      rw [pw_two] at hx
      omega
    · exact h1
theorem le_of_mul_add {a b Q R : Nat} (h : a = Q * b + R) (hb : b ≠ 0) : Q ≤ a := by
  have := Nat.le_mul_of_pos_right Q (Nat.pos_of_ne_zero hb)
  omega
end Cin
namespace Go.Proofs.YtfohgkabmdhhaaaGreatDoor
open Go.RowKit Cin

set_option maxRecDepth 100000 in
set_option maxHeartbeats 1000000 in
/-- Bits: how many binary digits. -/
theorem rbits_any (v : Value) (x k : Nat) (w : World) (h : RefB w v x k) (hk : k ≤ 1000000) :
    Calls Tryz.prog 88 #[v] w fun e w' => ∃ c : Nat, e = .returned (.int .i64 c) ∧ IsBl x c ∧ c ≤ 32 * k ∧ w' = w := by
  obtain ⟨⟨xs, hs, ho, hnm, hval⟩, hx⟩ := h
  obtain ⟨ad, cap, rfl, hc, _⟩ := hs.shape
  have hl : xs.length ≤ k := norm_len hnm (by rw [hval]; exact hx)
  obtain ⟨len, hn⟩ : ∃ n : Nat, xs.length = n := ⟨_, rfl⟩
  rw [hn] at hs hl hc ⊢
  rcases Nat.eq_zero_or_pos len with h0 | h0
  · subst h0
    have e0 : xs = [] := List.length_eq_zero_iff.1 hn
    subst e0
    rw [val_nil] at hval
    subst hval
    clear hs hn hnm ho hx hc
    go_enter Tryz.func88, Tryz.ntmps88
    go_wp2
    go_ret
    exact ⟨0, rfl, IsBl.zero, Nat.zero_le _, rfl⟩
  · obtain ⟨n, rfl⟩ : ∃ n, len = n + 1 := ⟨len - 1, by omega⟩
    obtain ⟨b, off, rfl, hcell, hblt⟩ := hs.cell (i := n) (by omega)
    have hlim := lim_lt ho n
    have hne : xs ≠ [] := by intro e; subst e; simp at hn
    have htop : ∀ c, IsBl (lim xs n) c → IsBl x (32 * n + c) := fun c hcc => by
      have := bl_top (c := c) hne ho (by rw [hn, Nat.add_sub_cancel]; exact hcc) (by rcases hnm with e | e; exact absurd e hne; exact e)
      rwa [hn, Nat.add_sub_cancel, hval] at this
    have HTOP := Lib.hid htop
    have HX := Lib.hid hx
    generalize lim xs n = t at *
    have heq : ((n : Int) + 1 == 0) = false := by simp; omega
    have e32 : IntKind.i64.wrap (32 * (n : Int)) = ((32 * n : Nat) : Int) := by rw [IntWalk.i64_in _ (by omega)]; omega
    clear hs hn hnm ho hval hx hc hne htop
    go_enter Tryz.func88, Tryz.ntmps88
    go_wp2_with fail
    go_loop [3, 4] (fun m u => ∃ a b : Nat, m = .int .i64 ((32 * n + a : Nat) : Int) ∧ u = .int .u32 b ∧ a ≤ 32 ∧ b = t / 2 ^ a ∧ ∀ j, IsBl b j → IsBl t (a + j)) (fun _ u => (intOf u).toNat)
    case atStart => exact ⟨0, t, rfl, rfl, by decide, by simp, fun j h => by simpa using h⟩
    case round =>
      obtain ⟨a, b, rfl, rfl, ha, hb, hbl⟩ := hrel
      have HBL := Lib.hid hbl
      have HBB := Lib.hid hb
      clear hb hbl
      rcases Nat.eq_zero_or_pos b with h0 | h0
      · subst h0
        have HK := Lib.hid (HTOP.out _ (HBL.out 0 IsBl.zero))
        clear HBL HBB HTOP
        go_wp2_with fail
        go_ret
        exact ⟨32 * n + a, rfl, HK.out, bl_bound HK.out HX.out, rfl⟩
      · have ha32 : a < 32 := by
          rcases Nat.lt_or_ge a 32 with h | h
          · exact h
          · exfalso
            have h1 := Nat.div_eq_of_lt (Nat.lt_of_lt_of_le hlim (show 4294967296 ≤ 2 ^ a from Nat.pow_le_pow_right (n := 2) (by decide) h))
            have := HBB.out
            omega
        have hblt2 : b < 4294967296 := by have := HBB.out; have := Nat.div_le_self t (2 ^ a); omega
        obtain ⟨c, hc, ec⟩ : ∃ c : Nat, (b : Int) / 2 = (c : Int) ∧ c = b / 2 := ⟨b / 2, by omega, rfl⟩
        have EC := Lib.hid ec
        have HN := Lib.hid (show c = t / 2 ^ (a + 1) ∧ ∀ j, IsBl c j → IsBl t (a + 1 + j) from ⟨by rw [ec, HBB.out, Nat.pow_succ, Nat.div_div_eq_div_mul], fun j hj => by rw [ec] at hj; have := HBL.out _ (hj.half (by omega)); rwa [show a + (j + 1) = a + 1 + j by omega] at this⟩)
        clear HBL HBB HTOP ec
        go_wp2_with fail
        have ec := EC.out
        exact ⟨⟨a + 1, c, by go_num, rfl, by omega, HN.out⟩, by simp only [intOf]; omega⟩

set_option maxRecDepth 100000 in
set_option maxHeartbeats 4000000 in
/-- DivNat: how often, what is left. -/
theorem rdiv_any (v u : Value) (x y k j : Nat) (w : World) (h : RefB w v x k) (h' : RefB w u y j) (hk : k ≤ 30000) (hj : j ≤ 30000) (hy : y ≠ 0) :
    Calls Tryz.prog 127 #[v, u] w fun e w' => ∃ v' u', e = .returned (.tuple #[v', u']) ∧ RefB w' v' (x / y) k ∧ RefB w' u' (x % y) j ∧ Below w.heap.size w w' := by
  have H := Lib.hid h
  have H' := Lib.hid h'
  clear h h'
  go_enter Tryz.func127, Tryz.ntmps127
  go_wp2_with fail
  refine (rbits_any v x k w H.out (by omega)).mono ?_
  rintro e w1 ⟨ca, rfl, hca, hcak, rfl⟩
  go_wp2_with fail
  refine (rbits_any u y j w1 H'.out (by omega)).mono ?_
  rintro e w2 ⟨cb, rfl, hcb, hcbk, rfl⟩
  have HST := Lib.hid (div_start hca hcb hy)
  obtain ⟨z0, hz0⟩ : ∃ z0 : Int, (ca : Int) - (cb : Int) = z0 := ⟨_, rfl⟩
  rw [hz0] at HST
  have hzb : -960000 ≤ z0 ∧ z0 ≤ 960000 := by omega
  have wz : IntKind.i64.wrap ((ca : Int) - (cb : Int)) = z0 := by rw [IntWalk.i64_in _ (by omega), hz0]
  clear hca hcb hcak hcbk hz0
  go_wp2_with fail
  go_loopg [6, 7, 8, 9] (z0 + 1).toNat (fun g q r i _ wr => ∃ (z : Int) (Q R : Nat), i = .int .i64 z ∧ z ≤ 960000 ∧ -960000 ≤ z ∧ g = (z + 1).toNat ∧ x = Q * y + R ∧ R < y * 2 ^ (z + 1).toNat ∧ RefB wr q Q k ∧ RefB wr r R k ∧ Below w2.heap.size w2 wr)
  case atStart => exact ⟨z0, 0, x, rfl, hzb.2, hzb.1, rfl, by omega, HST.out, ⟨RefV.zero _ _, pw_pos k⟩, H.out, Below.refl _ _⟩
  case round =>
    obtain ⟨z, Q, R, rfl, hz1, hz2, hg, hx, hR, hq, hr, hbel⟩ := hrel
    have HX := Lib.hid hx
    have HR := Lib.hid hR
    have HQ := Lib.hid hq
    have HRR := Lib.hid hr
    have HBE := Lib.hid hbel
    have HG := Lib.hid hg
    clear hx hR hq hr hbel hg
    by_cases hz : 0 ≤ z
    · obtain ⟨i, rfl⟩ : ∃ i : Nat, z = (i : Int) := ⟨z.toNat, by omega⟩
      have ei : ((i : Int) + 1).toNat = i + 1 := by omega
      rw [ei] at HR
      go_wp2_with fail
      refine (refShl_any u y i j _ (H'.out.below HBE.out) (by omega) (by omega)).mono ?_
      rintro e w3 ⟨v3, rfl, hn3, hb3⟩
      have HN3 := Lib.hid hn3
      have HB3 := Lib.hid hb3
      clear hn3 hb3
      go_wp2_with fail
      refine (rcmpB v3 _ (y * 2 ^ i) R (j + i / 32 + 1) k _ HN3.out (HRR.out.below HB3.out) (by omega) (by omega)).mono ?_
      rintro e w4 ⟨rfl, hb4⟩
      have HB4 := Lib.hid hb4
      clear hb4
      by_cases hle : y * 2 ^ i ≤ R
      · obtain ⟨c, hc, hc0⟩ : ∃ c : Int, cmpI (y * 2 ^ i) R = c ∧ c ≤ 0 := ⟨_, rfl, by unfold cmpI; split; decide; rw [if_neg (by omega)]; decide⟩
        rw [hc]
        have hcd : decide (c ≤ 0) = true := decide_eq_true hc0
        have HY := Lib.hid (div_yes HX.out HR.out hle)
        have HLE := Lib.hid hle
        clear hc hle
        go_wp2_with fail
        refine (rsubB _ v3 R (y * 2 ^ i) k (j + i / 32 + 1) _ ((HRR.out.below HB3.out).below HB4.out) (HN3.out.below HB4.out) (by omega) (by omega) HLE.out).mono ?_
        rintro e w5 ⟨v5, rfl, hn5, hb5⟩
        have HN5 := Lib.hid hn5
        have HB5 := Lib.hid hb5
        clear hn5 hb5
        go_wp2_with fail
        refine (rnatOf_one _).mono ?_
        rintro e w6 ⟨v6, rfl, hn6, hb6⟩
        have HN6 := Lib.hid hn6
        have HB6 := Lib.hid hb6
        clear hn6 hb6
        go_wp2_with fail
        refine (refShl_any v6 1 i 1 _ HN6.out (by omega) (by omega)).mono ?_
        rintro e w7 ⟨v7, rfl, hn7, hb7⟩
        rw [Nat.one_mul] at hn7
        have HN7 := Lib.hid hn7
        have HB7 := Lib.hid hb7
        clear hn7 hb7
        have HB37 := Lib.hid (bel_on (bel_on (bel_on (bel_on HB3.out HB4.out) HB5.out) HB6.out) HB7.out)
        go_wp2_with fail
        refine (raddB _ v7 Q (2 ^ i) k (1 + i / 32 + 1) _ (HQ.out.below HB37.out) HN7.out (by omega) (by omega)).mono ?_
        rintro e w8 ⟨v8, rfl, hn8, hb8⟩
        have HQ2 := Lib.hid (show RefB w8 v8 (Q + 2 ^ i) k from ⟨hn8.1, by have := le_of_mul_add HY.out.1 hy; have := H.out.2; omega⟩)
        have HR2 := Lib.hid (((HN5.out.below HB6.out).below HB7.out).below hb8)
        have HB8 := Lib.hid (bel_on HBE.out (bel_on HB37.out hb8))
        clear hn8 hb8
        go_wp2_with fail
        go_roundg i
        case measure => have := HG.out; omega
        case rel => exact ⟨(i : Int) - 1, Q + 2 ^ i, R - y * 2 ^ i, by go_num, by omega, by omega, by omega, HY.out.1, by rw [show ((i : Int) - 1 + 1).toNat = i by omega]; exact HY.out.2, HQ2.out, HR2.out, HB8.out⟩
      · obtain ⟨c, hc, hc0⟩ : ∃ c : Int, cmpI (y * 2 ^ i) R = c ∧ 0 < c := ⟨_, rfl, by unfold cmpI; rw [if_neg (by omega), if_pos (by omega)]; decide⟩
        rw [hc]
        have hcd : decide (c ≤ 0) = false := decide_eq_false (by omega)
        have HLE := Lib.hid (Nat.lt_of_not_le hle)
        have HB34 := Lib.hid (bel_on HB3.out HB4.out)
        clear hc hle
        go_wp2_with fail
        go_roundg i
        case measure => have := HG.out; omega
        case rel => exact ⟨(i : Int) - 1, Q, R, by go_num, by omega, by omega, by omega, HX.out, by rw [show ((i : Int) - 1 + 1).toNat = i by omega]; exact HLE.out, HQ.out.below HB34.out, HRR.out.below HB34.out, bel_on HBE.out HB34.out⟩
    · rw [show (z + 1).toNat = 0 by omega, Nat.pow_zero, Nat.mul_one] at HR
      have HE := Lib.hid (div_end HX.out HR.out)
      have HL := Lib.hid (show R < pw j from Nat.lt_trans HR.out H'.out.2)
      have hzd : decide (0 ≤ z) = false := decide_eq_false hz
      go_wp2_with fail
      go_ret2
      exact ⟨_, _, rfl, by rw [← HE.out.1]; exact HQ.out, by rw [← HE.out.2]; exact ⟨HRR.out.1, HL.out⟩, HBE.out⟩

set_option maxRecDepth 100000 in
set_option maxHeartbeats 4000000 in
/-- Gcd. -/
theorem rgcd_any (v u : Value) (x y k j : Nat) (w : World) (h : RefB w v x k) (h' : RefB w u y j) (hk : k ≤ 15000) (hj : j ≤ 15000) :
    Calls Tryz.prog 112 #[v, u] w fun e w' => ∃ v', e = .returned v' ∧ RefB w' v' (Nat.gcd x y) (k + j) ∧ Below w.heap.size w w' := by
  have H := Lib.hid (show RefB w v x (k + j) from ⟨h.1, lt_pw_mono h.2 (by omega)⟩)
  have H' := Lib.hid (show RefB w u y (k + j) from ⟨h'.1, lt_pw_mono h'.2 (by omega)⟩)
  obtain ⟨K, hK, hKb⟩ : ∃ K, k + j = K ∧ K ≤ 30000 := ⟨_, rfl, by omega⟩
  rw [hK] at H H' ⊢
  clear h h' hK hk hj
  go_enter Tryz.func112, Tryz.ntmps112
  go_wp2_with fail
  go_loopg [0, 1, 5, 6] y (fun g a b _ _ wr => ∃ A : Nat, RefB wr a A K ∧ RefB wr b g K ∧ Nat.gcd A g = Nat.gcd x y ∧ Below w.heap.size w wr)
  case atStart => exact ⟨x, H.out, H'.out, rfl, Below.refl _ _⟩
  case round =>
    obtain ⟨A, ha, hb, hg, hbel⟩ := hrel
    obtain ⟨ad, len, cap, xs, rfl, _⟩ := hb.1.shape
    have hlen := refB_len hb
    have HA := Lib.hid ha
    have HB := Lib.hid hb
    have HG := Lib.hid hg
    have HBE := Lib.hid hbel
    clear ha hb hg hbel
    by_cases h0 : gk = 0
    · obtain rfl : len = 0 := hlen.2 h0
      subst h0
      rw [Nat.gcd_zero_right] at HG
      clear hlen HB
      go_wp2_with fail
      go_ret
      exact ⟨_, rfl, by rw [← HG.out]; exact HA.out, HBE.out⟩
    · have hl0 : 0 < len := by rcases Nat.eq_zero_or_pos len with e | e; exact absurd (hlen.1 e) h0; exact e
      clear hlen
      go_wp2_with fail
      refine (rdiv_any _ _ A gk K K _ HA.out HB.out hKb hKb h0).mono ?_
      rintro e w2 ⟨vq, vr, rfl, _, hr, hb2⟩
      have HR := Lib.hid hr
      have HB2 := Lib.hid (HB.out.below hb2)
      have HBE2 := Lib.hid (bel_on HBE.out hb2)
      clear hr hb2
      go_wp2_with fail
      go_roundg (A % gk)
      case measure => exact Nat.mod_lt _ (Nat.pos_of_ne_zero h0)
      case rel => exact ⟨gk, HB2.out, HR.out, by rw [← HG.out, Nat.gcd_comm A gk, Nat.gcd_rec gk A, Nat.gcd_comm], HBE2.out⟩

end Go.Proofs.YtfohgkabmdhhaaaGreatDoor
/- Gcd's sure steps, and going them with the numbers themselves: plain. -/
namespace Cin

/-- What is cut off below the heads comes to less than the greater factor, of their last place. -/
theorem near_off {s C D x1 y1 P : Int} (hs : s = 1 ∨ s = -1) (hC : 0 ≤ C) (hCD : C ≤ D) (hD : 1 ≤ D) (hx0 : 0 ≤ x1) (hx1 : x1 < P) (hy0 : 0 ≤ y1) (hy1 : y1 < P) :
    -(D * P) < s * (D * y1 - C * x1) ∧ s * (D * y1 - C * x1) < D * P := by
  have h1 : D * y1 < D * P := Int.mul_lt_mul_of_pos_left hy1 (by omega)
  have h2 : 0 ≤ D * y1 := Int.mul_nonneg (by omega) hy0
  have h3 : C * x1 ≤ D * x1 := Int.mul_le_mul_of_nonneg_right hCD hx0
  have h4 : D * x1 < D * P := Int.mul_lt_mul_of_pos_left hx1 (by omega)
  have h5 : 0 ≤ C * x1 := Int.mul_nonneg hC hx0
  rcases hs with rfl | rfl
  · rw [Int.one_mul]; omega
  · rw [Int.neg_mul, Int.one_mul]; omega

theorem gcd_step {U V W q : Int} (hU : 0 ≤ U) (hV : 0 ≤ V) (hW : 0 ≤ W) (hq : 0 ≤ q) (e : W = U - q * V) : Nat.gcd V.natAbs W.natAbs = Nat.gcd U.natAbs V.natAbs := by
  have h : U.natAbs = q.natAbs * V.natAbs + W.natAbs := by
    have h1 : ((q.natAbs * V.natAbs + W.natAbs : Nat) : Int) = U := by
      rw [Int.natCast_add, Int.natCast_mul, Int.natAbs_of_nonneg hq, Int.natAbs_of_nonneg hV, Int.natAbs_of_nonneg hW]; omega
    omega
  rw [h, Nat.gcd_comm (q.natAbs * V.natAbs + W.natAbs), Nat.gcd_mul_right_add_right]

theorem abs_s {s z : Int} (hs : s = 1 ∨ s = -1) (hz : 0 ≤ z) : ((s * z).natAbs : Int) = z ∧ ((-(s * z)).natAbs : Int) = z := by
  rcases hs with rfl | rfl
  · rw [Int.one_mul]; omega
  · rw [Int.neg_mul, Int.one_mul]; omega

/-- What some steps of Euclid have made of x and y, and of their heads. -/
def EuSteps (X Y u0 v0 a b c d u v : Int) : Prop :=
  ∃ s A B C D : Int, (s = 1 ∨ s = -1) ∧ a = s * A ∧ b = -(s * B) ∧ c = -(s * C) ∧ d = s * D ∧ (0 ≤ A ∧ 0 ≤ B ∧ 0 ≤ C ∧ 1 ≤ D ∧ C ≤ D ∧ A + C ≤ B + D) ∧
    (A < 2147483648 ∧ B < 2147483648 ∧ C < 2147483648 ∧ D < 2147483648) ∧
    (0 ≤ v ∧ v ≤ u ∧ D * u + B * v = u0 ∧ C * u + A * v = v0 ∧ u = a * u0 + b * v0 ∧ v = c * u0 + d * v0) ∧
    (0 ≤ c * X + d * Y ∧ c * X + d * Y ≤ a * X + b * Y ∧ c * X + d * Y ≤ Y ∧ (b ≠ 0 → a * X + b * Y ≤ Y ∧ c * X + d * Y < Y)) ∧
    Nat.gcd (a * X + b * Y).natAbs (c * X + d * Y).natAbs = Nat.gcd X.natAbs Y.natAbs

theorem EuSteps.start {X Y u0 v0 : Int} (hY : 0 ≤ Y) (hXY : Y ≤ X) (hv : 0 ≤ v0) (huv : v0 ≤ u0) : EuSteps X Y u0 v0 1 0 0 1 u0 v0 := by
  refine ⟨1, 1, 0, 0, 1, .inl rfl, rfl, rfl, rfl, rfl, by omega, by omega, by omega, ?_, ?_⟩
  · refine ⟨by omega, by omega, by omega, fun h => absurd rfl h⟩
  · rw [Int.one_mul, Int.zero_mul, Int.one_mul, Int.zero_mul, Int.add_zero, Int.zero_add]

set_option maxHeartbeats 2000000 in
theorem EuSteps.next {X Y u0 v0 a b c d u v q w P x1 y1 : Int} (h : EuSteps X Y u0 v0 a b c d u v) (hu0 : u0 < 4611686018427387904) (hv0 : v0 ≤ u0) (hv : 1 ≤ v) (hq : 1 ≤ q) (hw0 : 0 ≤ w) (hwv : w < v) (hu : u = q * v + w)
    (hX : X = u0 * P + x1) (hY : Y = v0 * P + y1) (hx0 : 0 ≤ x1) (hx1 : x1 < P) (hy0 : 0 ≤ y1) (hy1 : y1 < P) :
    ∃ F D : Nat, (b - q * d).natAbs = F ∧ d.natAbs = D ∧ F < 4611686018427387904 ∧ D < 2147483648 ∧
      (-4611686018427387904 < q * c ∧ q * c < 4611686018427387904) ∧ (-4611686018427387904 < q * d ∧ q * d < 4611686018427387904) ∧
      (-4611686018427387904 < a - q * c ∧ a - q * c < 4611686018427387904) ∧ (-4611686018427387904 < b - q * d ∧ b - q * d < 4611686018427387904) ∧
      ((F : Int) ≤ w → (F : Int) + D ≤ v - w → EuSteps X Y u0 v0 c d (a - q * c) (b - q * d) v w) := by
  obtain ⟨s, A, B, C, D, hs, ha, hb, hc, hd, ⟨hA0, hB0, hC0, hD1, hCD, hAC⟩, ⟨hA, hB, hC, hD⟩, ⟨hv00, hvu, e1, e2, e3, e4⟩, ⟨t1, t2, t3, t4⟩, hg⟩ := h
  have qC0 : 0 ≤ q * C := Int.mul_nonneg (by omega) hC0
  have qD0 : 0 ≤ (q - 1) * D := Int.mul_nonneg (by omega) (by omega)
  have qDC : 0 ≤ (q - 1) * (D - C) := Int.mul_nonneg (by omega) (by omega)
  rw [Int.sub_mul, Int.one_mul] at qD0
  rw [Int.sub_mul, Int.one_mul, Int.mul_sub] at qDC
  have f1 : a - q * c = s * (A + q * C) := by rw [ha, hc, Int.mul_neg, Int.sub_neg, Int.mul_add, Int.mul_left_comm q s C]
  have f2 : b - q * d = -(s * (B + q * D)) := by rw [hb, hd, Int.mul_add, Int.mul_left_comm q s D]; omega
  have f3 : q * c = -(s * (q * C)) := by rw [hc, Int.mul_neg, Int.mul_left_comm q s C]
  have f4 : q * d = s * (q * D) := by rw [hd, Int.mul_left_comm q s D]
  have g1 : (B + q * D) * v + D * w = u0 := by
    have h1 : D * (q * v) = q * D * v := by rw [← Int.mul_assoc, Int.mul_comm D q]
    rw [hu, Int.mul_add, h1] at e1
    rw [Int.add_mul]; omega
  have g2 : (A + q * C) * v + C * w = v0 := by
    have h1 : C * (q * v) = q * C * v := by rw [← Int.mul_assoc, Int.mul_comm C q]
    rw [hu, Int.mul_add, h1] at e2
    rw [Int.add_mul]; omega
  obtain ⟨C', hC'⟩ : ∃ C', A + q * C = C' := ⟨_, rfl⟩
  obtain ⟨D', hD'⟩ : ∃ D', B + q * D = D' := ⟨_, rfl⟩
  rw [hC'] at f1 g2
  rw [hD'] at f2 g1
  have b1 : 0 ≤ D' * (v - 1) := Int.mul_nonneg (by omega) (by omega)
  have b2 : 0 ≤ C' * (v - 1) := Int.mul_nonneg (by omega) (by omega)
  have b3 : 0 ≤ D * w := Int.mul_nonneg (by omega) hw0
  have b4 : 0 ≤ C * w := Int.mul_nonneg (by omega) hw0
  rw [Int.mul_sub, Int.mul_one] at b1 b2
  have k1 := abs_s hs (show 0 ≤ D' by omega)
  have k2 := abs_s hs (show 0 ≤ C' by omega)
  have k3 := abs_s hs (show 0 ≤ q * C by omega)
  have k4 := abs_s hs (show 0 ≤ q * D by omega)
  have k5 := abs_s hs (show 0 ≤ D by omega)
  rw [← f2] at k1
  rw [← f1] at k2
  rw [← f3] at k3
  rw [← f4] at k4
  rw [← hd] at k5
  refine ⟨_, _, rfl, rfl, by omega, by omega, by omega, by omega, by omega, by omega, fun hF hFD => ?_⟩
  rw [k1.2] at hF hFD
  rw [k5.1] at hFD
  have hD'31 : D' < 2147483648 := by
    rcases Int.lt_or_le D' 2147483648 with h1 | h1
    · exact h1
    · have h2 : 2147483648 * 2147483648 ≤ D' * v := Int.mul_le_mul h1 (by omega) (by decide) (by omega)
      omega
  have hs' : -s = 1 ∨ -s = -1 := by rcases hs with rfl | rfl <;> simp
  have eW : (a - q * c) * X + (b - q * d) * Y = (a * X + b * Y) - q * (c * X + d * Y) := by
    rw [Int.sub_mul, Int.sub_mul, Int.mul_add, Int.mul_assoc, Int.mul_assoc]; omega
  have ew : (a - q * c) * u0 + (b - q * d) * v0 = (a * u0 + b * v0) - q * (c * u0 + d * v0) := by
    rw [Int.sub_mul, Int.sub_mul, Int.mul_add, Int.mul_assoc, Int.mul_assoc]; omega
  have nV := near_off hs hC0 hCD hD1 hx0 hx1 hy0 hy1
  have nW := near_off hs' (show 0 ≤ C' by omega) (show C' ≤ D' by omega) (show 1 ≤ D' by omega) hx0 hx1 hy0 hy1
  have split : ∀ m n : Int, m * X + n * Y = (m * u0 + n * v0) * P + (m * x1 + n * y1) := fun m n => by
    rw [hX, hY, Int.mul_add, Int.mul_add, Int.add_mul, Int.mul_assoc, Int.mul_assoc]; omega
  have eV2 : c * x1 + d * y1 = s * (D * y1 - C * x1) := by
    rw [hc, hd, Int.neg_mul, Int.mul_sub, Int.mul_assoc, Int.mul_assoc]; omega
  have eW2 : (a - q * c) * x1 + (b - q * d) * y1 = -s * (D' * y1 - C' * x1) := by
    rw [f1, f2, Int.neg_mul, Int.neg_mul, Int.mul_sub, Int.mul_assoc, Int.mul_assoc]; omega
  have sV := split c d
  have sW := split (a - q * c) (b - q * d)
  rw [← e4, eV2] at sV
  have ew2 : (a - q * c) * u0 + (b - q * d) * v0 = w := by rw [ew, ← e3, ← e4]; omega
  rw [ew2, eW2] at sW
  rw [← eV2] at nV
  have c1 : 0 ≤ (w - D') * P := Int.mul_nonneg (by omega) (by omega)
  have c2 : 0 ≤ (v - w - (D' + D)) * P := Int.mul_nonneg (by omega) (by omega)
  rw [Int.sub_mul] at c1
  rw [Int.sub_mul, Int.sub_mul, Int.add_mul] at c2
  rw [eV2] at nV
  have hW0 : 0 < (a - q * c) * X + (b - q * d) * Y := by omega
  have hVW : (a - q * c) * X + (b - q * d) * Y < c * X + d * Y := by omega
  refine ⟨-s, C, D, C', D', hs', by rw [hc, Int.neg_mul], by rw [hd, Int.neg_mul, Int.neg_neg], by rw [f1, Int.neg_mul, Int.neg_neg], by rw [f2, Int.neg_mul], by omega, by omega, ⟨hw0, by omega, g1, g2, e4, ew2.symm⟩, ⟨by omega, by omega, by omega, fun _ => by omega⟩, ?_⟩
  rw [← hg]
  exact gcd_step (by omega) t1 (by omega) (by omega) eW

/-- The factors, and what they make, at the end. -/
theorem EuSteps.done {X Y u0 v0 a b c d u v : Int} (h : EuSteps X Y u0 v0 a b c d u v) :
    (-2147483648 < a ∧ a < 2147483648 ∧ -2147483648 < b ∧ b < 2147483648 ∧ -2147483648 < c ∧ c < 2147483648 ∧ -2147483648 < d ∧ d < 2147483648) ∧ (0 ≤ a ∧ b ≤ 0 ∧ c ≤ 0 ∧ 0 ≤ d ∨ a ≤ 0 ∧ 0 ≤ b ∧ 0 ≤ c ∧ d ≤ 0) := by
  obtain ⟨s, A, B, C, D, hs, ha, hb, hc, hd, ⟨hA0, hB0, hC0, hD1, hCD, hAC⟩, ⟨hA, hB, hC, hD⟩, _⟩ := h
  rcases hs with rfl | rfl
  · simp only [Int.one_mul] at ha hb hc hd; omega
  · simp only [Int.neg_mul, Int.one_mul, Int.neg_neg] at ha hb hc hd; omega

end Cin
/- Contracts of nat's gcdOfWords, abs, moves and sureSteps. -/
namespace Cin
open Go Go.RowKit
/-- A block of four cells. -/
def Four (w : World) (b : Nat) (t : TypeId) (x0 x1 x2 x3 : Value) : Prop := w.heap[b]? = some (.cells #[x0, x1, x2, x3] t (0, 0))
section
variable {w w' : World} {b : Nat} {t : TypeId} {x0 x1 x2 x3 : Value}
theorem Four.below (h : Four w b t x0 x1 x2 x3) (hb : Below w.heap.size w w') : Four w' b t x0 x1 x2 x3 := (hb.block _ (lt_of_heap h)).trans h
theorem Four.lt (h : Four w b t x0 x1 x2 x3) : b < w.heap.size := lt_of_heap h
theorem Four.cells (h : Four w b t x0 x1 x2 x3) : w.cell? ⟨b, 0, none⟩ = some x0 ∧ w.cell? ⟨b, 1, none⟩ = some x1 ∧ w.cell? ⟨b, 2, none⟩ = some x2 ∧ w.cell? ⟨b, 3, none⟩ = some x3 :=
  ⟨by rw [cell_of h]; simp, by rw [cell_of h]; simp, by rw [cell_of h]; simp, by rw [cell_of h]; simp⟩
theorem Four.free (h : Four w b t x0 x1 x2 x3) : w.frozen? ⟨b, 0, none⟩ = false ∧ w.frozen? ⟨b, 1, none⟩ = false ∧ w.frozen? ⟨b, 2, none⟩ = false ∧ w.frozen? ⟨b, 3, none⟩ = false := ⟨free_of h 0, free_of h 1, free_of h 2, free_of h 3⟩
theorem Four.set (h : Four w b t x0 x1 x2 x3) (y0 y1 y2 y3 : Value) : Four ((((w.setCell ⟨b, 0, none⟩ y0).setCell ⟨b, 1, none⟩ y1).setCell ⟨b, 2, none⟩ y2).setCell ⟨b, 3, none⟩ y3) b t y0 y1 y2 y3 := by
  unfold Four at h ⊢
  simp [World.setCell, Array.getElem?_modify, h]
theorem Four.other (h : Four w b t x0 x1 x2 x3) {c : Nat} (hc : b ≠ c) (y0 y1 y2 y3 : Value) : Four ((((w.setCell ⟨c, 0, none⟩ y0).setCell ⟨c, 1, none⟩ y1).setCell ⟨c, 2, none⟩ y2).setCell ⟨c, 3, none⟩ y3) b t x0 x1 x2 x3 := by
  unfold Four at h ⊢
  rw [Below.heap_setCell _ _ _ _ (show b ≠ _ from hc), Below.heap_setCell _ _ _ _ (show b ≠ _ from hc), Below.heap_setCell _ _ _ _ (show b ≠ _ from hc), Below.heap_setCell _ _ _ _ (show b ≠ _ from hc)]
  exact h
theorem Four.drew (h : Four w b t x0 x1 x2 x3) : Four w.drew b t x0 x1 x2 x3 := h
theorem bel_four {B : Nat} {w X : World} {b : Nat} {y0 y1 y2 y3 : Value} (h : Below B w X) (hb : B ≤ b) : Below B w ((((X.setCell ⟨b, 0, none⟩ y0).setCell ⟨b, 1, none⟩ y1).setCell ⟨b, 2, none⟩ y2).setCell ⟨b, 3, none⟩ y3) := bel_set2 (bel_set2 h hb hb) hb hb
end
end Cin
namespace Go.Proofs.YtfohgkabmdhhaaaGreatDoor
open Go.RowKit Cin

set_option maxHeartbeats 1000000 in
/-- gcdOfWords. -/
theorem gcdWords_any (a b : Nat) (w : World) (ha : a < 18446744073709551616) (hb : b < 18446744073709551616) :
    Calls Tryz.prog 158 #[.int .u64 a, .int .u64 b] w fun e w' => e = .returned (.int .u64 (Nat.gcd a b : Nat)) ∧ Below w.heap.size w w' := by
  go_enter Tryz.func158, Tryz.ntmps158
  go_wp2_with fail
  go_loopg [0, 1] b (fun g x y wr => ∃ A : Nat, x = .int .u64 A ∧ y = .int .u64 g ∧ A < 18446744073709551616 ∧ g < 18446744073709551616 ∧ Nat.gcd A g = Nat.gcd a b ∧ Below w.heap.size w wr)
  case atStart => exact ⟨a, rfl, rfl, ha, hb, rfl, Below.refl _ _⟩
  case round =>
    obtain ⟨A, rfl, rfl, hA, hG, hg, hbel⟩ := hrel
    have HG := Lib.hid hg
    have HBE := Lib.hid hbel
    clear hg hbel
    by_cases h0 : gk = 0
    · subst h0
      rw [Nat.gcd_zero_right] at HG
      go_wp2_with fail
      go_ret
      exact ⟨by rw [← HG.out]; rfl, HBE.out⟩
    · have hne : ((gk : Int) == 0) = false := by simp; exact h0
      obtain ⟨r, hr, er⟩ : ∃ r : Nat, (A : Int).tmod (gk : Int) = (r : Int) ∧ r = A % gk := ⟨A % gk, rfl, rfl⟩
      have hrb := Nat.mod_lt A (Nat.pos_of_ne_zero h0)
      rw [← er] at hrb
      have ER := Lib.hid er
      clear er
      go_wp2_with fail
      go_big_region
      go_wp2_with fail
      go_roundg r
      case measure => exact hrb
      case rel => exact ⟨gk, rfl, rfl, hG, by omega, by rw [← HG.out, ER.out, Nat.gcd_comm A gk, Nat.gcd_rec gk A, Nat.gcd_comm], HBE.out.drew⟩

set_option maxHeartbeats 400000 in
/-- abs. -/
theorem nabs_any (z : Int) (w : World) (h0 : -9223372036854775808 < z) (h1 : z < 9223372036854775808) :
    Calls Tryz.prog 189 #[.int .i64 z] w fun e w' => e = .returned (.int .i64 (z.natAbs : Nat)) ∧ Below w.heap.size w w' := by
  by_cases hz : z < 0
  · go_enter Tryz.func189, Tryz.ntmps189
    go_wp2
    go_ret
    exact ⟨ret_int (by omega), Below.refl _ _⟩
  · go_enter Tryz.func189, Tryz.ntmps189
    go_wp2
    go_ret
    exact ⟨ret_int (by omega), Below.refl _ _⟩

set_option maxHeartbeats 400000 in
/-- moves. -/
theorem moves_any (a b c d : Int) (w : World) :
    Calls Tryz.prog 162 #[.agg #[.int .i64 a, .int .i64 b, .int .i64 c, .int .i64 d]] w fun e w' => e = .returned (.bool (!decide (b = 0))) ∧ Below w.heap.size w w' := by
  by_cases hz : b = 0
  · subst hz
    go_enter Tryz.func162, Tryz.ntmps162
    go_wp2
    go_ret
    exact ⟨rfl, bel_alloc _ _⟩
  · have hb0 : (b != 0) = true := by simpa using hz
    rw [decide_eq_false hz]
    go_enter Tryz.func162, Tryz.ntmps162
    go_wp2
    go_ret
    exact ⟨rfl, bel_alloc _ _⟩

end Go.Proofs.YtfohgkabmdhhaaaGreatDoor
