/- Long division: one round, and the end. No program. -/
import Derived.Test.YtpchnejdbmoicaaDoorKnu
namespace Cin

/-- What is taken away, not too often. -/
theorem take_exact {p D q o : Nat} (hD : 0 < D) (hQ : p / D ≤ q) (ho : o + q * D = p) : q = p / D ∧ o = p % D := by
  have h1 : q ≤ p / D := by rw [Nat.le_div_iff_mul_le hD]; omega
  have h2 : q = p / D := Nat.le_antisymm h1 hQ
  refine ⟨h2, ?_⟩
  have := Nat.div_add_mod p D
  rw [h2, Nat.mul_comm] at ho
  omega
/-- Once too often, and given back. -/
theorem take_back {p D q o o2 c W : Nat} (hD : 0 < D) (hW : D ≤ W) (hq : q * D ≤ p + D) (ho : o + q * D = p + W) (hob : o < W) (ho2 : o2 + W * c = o + D) (ho2b : o2 < W) : 1 ≤ q ∧ q - 1 = p / D ∧ o2 = p % D := by
  have h1 : p < q * D := by omega
  have h2 : 1 ≤ q := by
    rcases Nat.eq_zero_or_pos q with e | e
    · subst e; omega
    · exact e
  obtain ⟨r, rfl⟩ : ∃ r, q = r + 1 := ⟨q - 1, by omega⟩
  rw [Nat.add_mul, Nat.one_mul] at hq ho h1
  have h3 : r = p / D := by
    refine Nat.le_antisymm (by rw [Nat.le_div_iff_mul_le hD]; omega) ?_
    have : p / D < r + 1 := by rw [Nat.div_lt_iff_lt_mul hD, Nat.add_mul, Nat.one_mul]; exact h1
    omega
  have hm := Nat.div_add_mod p D
  have hml := Nat.mod_lt p hD
  rw [← h3, Nat.mul_comm] at hm
  refine ⟨h2, by rw [Nat.add_sub_cancel]; exact h3, ?_⟩
  have hc : c = 1 := by
    rcases Nat.lt_or_ge c 1 with h | h
    · obtain rfl : c = 0 := by omega
      omega
    · rcases Nat.lt_or_ge 1 c with h' | h'
      · have : W * 2 ≤ W * c := Nat.mul_le_mul_left _ h'
        omega
      · omega
  subst hc
  omega

theorem drop_drop_take {ls : List Nat} {i n : Nat} (h : i + n ≤ ls.length) : val (ls.drop i) = val ((ls.drop i).take n) + pw n * val (ls.drop (i + n)) := by
  rw [val_split (ls.drop i) n (by rw [List.length_drop]; omega), List.drop_drop]

/-- One round: the part at i, of n words and one, by D. -/
theorem long_step {ls os ros ps : List Nat} {i n la X D Q : Nat} (hl : ls.length = la + 1) (hi : i + n + 1 ≤ la + 1) (hps : (ls.drop i).take (n + 1) = ps) (ok : Ok ls) (hlt : val (ls.drop (i + 1)) < D) (hD : D < pw n)
    (hv : val ls + D * (pw (i + 1) * val (os.drop (i + 1))) = X) (hio : i < os.length) :
    val ps < 4294967296 * D ∧ (ros.length = n + 1 → val ros = val ps % D → Q = val ps / D → (splice ls i ros).length = la + 1 ∧ val (splice ls i ros) + D * (pw i * val ((os.set i Q).drop i)) = X ∧ val ((splice ls i ros).drop i) < D) := by
  have hz : val (ls.drop (i + (n + 1))) = 0 := by
    have h1 := drop_drop_take (ls := ls) (i := i + 1) (n := n) (by omega)
    rcases Nat.eq_zero_or_pos (val (ls.drop (i + 1 + n))) with h2 | h2
    · rw [show i + (n + 1) = i + 1 + n by omega]; exact h2
    · have : pw n * 1 ≤ pw n * val (ls.drop (i + 1 + n)) := Nat.mul_le_mul_left _ h2
      omega
  have hpv : val (ls.drop i) = val ps := by
    have h1 := drop_drop_take (ls := ls) (i := i) (n := n + 1) (by omega)
    rw [hz, Nat.mul_zero, Nat.add_zero, hps] at h1
    exact h1
  have hlim := lim_lt ok i
  have hstep := val_drop_step ls i
  refine ⟨by omega, fun hr hrv hQ => ?_⟩
  have hsl : (splice ls i ros).length = la + 1 := by rw [splice_length (by omega), hl]
  have hsd : (splice ls i ros).drop i = ros ++ ls.drop (i + (n + 1)) := by
    unfold splice
    rw [List.append_assoc, List.drop_left' (by rw [List.length_take]; omega), hr]
  have hst : (splice ls i ros).take i = ls.take i := by
    unfold splice
    rw [List.append_assoc, List.take_left' (by rw [List.length_take]; omega)]
  have hsv : val ((splice ls i ros).drop i) = val ros := by rw [hsd, val_append, hz, Nat.mul_zero, Nat.add_zero]
  have hD0 : 0 < D := by omega
  refine ⟨hsl, ?_, by rw [hsv, hrv]; exact Nat.mod_lt _ hD0⟩
  have e1 := val_split (splice ls i ros) i (by omega)
  have e2 := val_split ls i (by omega)
  rw [hst, hsv, hrv] at e1
  rw [hpv] at e2
  have e3 : val ((os.set i Q).drop i) = Q + 4294967296 * val (os.drop (i + 1)) := by
    rw [val_drop_step, lim_set_same hio, List.drop_set_of_lt (by omega)]
  have hm := Nat.div_add_mod (val ps) D
  rw [← hQ] at hm
  have e4 : pw i * val ps = D * (pw i * Q) + pw i * (val ps % D) := by
    conv => lhs; rw [← hm]
    rw [Nat.mul_add, Nat.mul_left_comm]
  have e5 : D * (pw i * val ((os.set i Q).drop i)) = D * (pw i * Q) + D * (pw (i + 1) * val (os.drop (i + 1))) := by
    rw [e3, Nat.mul_add, Nat.mul_add, pw_succ, Nat.mul_comm 4294967296 (pw i), Nat.mul_assoc (pw i)]
  omega
/-- The end. -/
theorem long_end {x y s L O : Nat} (hy : 0 < y) (h : L + y * 2 ^ s * O = x * 2 ^ s) (hl : L < y * 2 ^ s) : O = x / y ∧ L / 2 ^ s = x % y := by
  have hp : 0 < 2 ^ s := Nat.pow_pos (by decide)
  have hD : 0 < y * 2 ^ s := Nat.mul_pos hy hp
  have h1 : O = x * 2 ^ s / (y * 2 ^ s) := by rw [← h, Nat.add_mul_div_left _ _ hD, Nat.div_eq_of_lt hl, Nat.zero_add]
  have h2 : L = x * 2 ^ s % (y * 2 ^ s) := by rw [← h, Nat.add_mul_mod_self_left, Nat.mod_eq_of_lt hl]
  rw [Nat.mul_div_mul_right _ _ hp] at h1
  rw [Nat.mul_mod_mul_right] at h2
  exact ⟨h1, by rw [h2, Nat.mul_div_cancel _ hp]⟩
/-- The beginning: nothing of the divisor goes into what lies above. -/
theorem long_begin {ls ds : List Nat} {n la s x : Nat} (hl : ls.length = la + 1) (hd : ds.length = n) (hn : 1 ≤ n) (hla : n ≤ la) (ok : Ok ls) (hv : val ls = x * 2 ^ s) (hx : x < pw la) (hhi : 2 ^ s ≤ lim ds (n - 1)) : val (ls.drop (la - n + 1)) < val ds := by
  have h0 : 0 < 2 ^ s := Nat.pow_pos (by decide)
  have h1 : lim ls la < 2 ^ s := by
    have e := val_split ls la (by omega)
    have e2 := val_drop_step ls la
    rw [List.drop_of_length_le (show ls.length ≤ la + 1 by omega), val_nil, Nat.mul_zero, Nat.add_zero] at e2
    rw [e2] at e
    have h2 : pw la * lim ls la < pw la * 2 ^ s := by
      have : x * 2 ^ s < pw la * 2 ^ s := Nat.mul_lt_mul_of_pos_right hx h0
      omega
    exact Nat.lt_of_mul_lt_mul_left h2
  refine val_lt_of_top (i := n - 1) (ok.drop _) (by rw [List.length_drop]; omega) (by rw [List.length_drop]; omega) (fun j h2 h3 => ?_) ?_
  · rw [List.length_drop] at h3; omega
  · rw [lim_drop, show la - n + 1 + (n - 1) = la by omega]; omega

/-- Moving the divisor up loses nothing. -/
theorem shift_fit {ys : List Nat} {m s : Nat} (hl : ys.length = m + 1) (oy : Ok ys) (h2 : lim ys m * 2 ^ s < 2 ^ 32) (hs : s ≤ 32) : val ys * 2 ^ s < pw (m + 1) := by
  have h0 : 0 < 2 ^ s := Nat.pow_pos (by decide)
  have hr := val_lt (oy.take m)
  rw [List.length_take, Nat.min_eq_left (by omega)] at hr
  have hv := val_take_succ (xs := ys) (i := m) (by omega)
  rw [List.take_of_length_le (by omega)] at hv
  have e32 : (2 : Nat) ^ 32 = 2 ^ (32 - s) * 2 ^ s := by rw [← Nat.pow_add]; congr 1; omega
  rw [e32] at h2
  have h3 : lim ys m + 1 ≤ 2 ^ (32 - s) := Nat.lt_of_mul_lt_mul_right h2
  have h4 : val ys < pw m * (lim ys m + 1) := by rw [Nat.mul_add, Nat.mul_one]; omega
  have h5 : val ys * 2 ^ s < pw m * (lim ys m + 1) * 2 ^ s := Nat.mul_lt_mul_of_pos_right h4 h0
  have h6 : pw m * (lim ys m + 1) * 2 ^ s ≤ pw m * (2 ^ (32 - s) * 2 ^ s) := by
    rw [Nat.mul_assoc]; exact Nat.mul_le_mul_left _ (Nat.mul_le_mul_right _ h3)
  rw [← e32] at h6
  have h7 : pw (m + 1) = pw m * 2 ^ 32 := by rw [pw, pw, Nat.pow_succ]
  omega
theorem val_top {ys : List Nat} {m : Nat} (hl : ys.length = m + 1) : val ys = val (ys.take m) + pw m * lim ys m := by
  have h1 := val_take_succ (xs := ys) (i := m) (by omega)
  rwa [List.take_of_length_le (by omega)] at h1
theorem shift_big {ys : List Nat} {m s : Nat} (hl : ys.length = m + 1) (_ : Ok ys) (h1 : 2 ^ 31 ≤ lim ys m * 2 ^ s) : pw m * 2 ^ 31 ≤ val ys * 2 ^ s := by
  rw [val_top hl, Nat.add_mul, Nat.mul_assoc]
  have := Nat.mul_le_mul_left (pw m) h1
  omega
theorem lim_top_zero {ds : List Nat} {n : Nat} (hl : ds.length = n + 1) (_ : Ok ds) (h : val ds < pw n) : lim ds n = 0 := by
  rcases Nat.eq_zero_or_pos (lim ds n) with h0 | h0
  · exact h0
  · have h1 := val_top hl
    have : pw n * 1 ≤ pw n * lim ds n := Nat.mul_le_mul_left _ h0
    omega
theorem lim_top_big {ds : List Nat} {m : Nat} (hl : ds.length = m + 1) (od : Ok ds) (h : pw m * 2 ^ 31 ≤ val ds) : 2 ^ 31 ≤ lim ds m := by
  have hr := val_lt (od.take m)
  rw [List.length_take, Nat.min_eq_left (by omega)] at hr
  have h1 := val_top hl
  have h2 : pw m * 2 ^ 31 < pw m * (lim ds m + 1) := by rw [Nat.mul_add]; omega
  have := Nat.lt_of_mul_lt_mul_left h2
  omega
theorem splice_again {ls rs rs2 : List Nat} {i : Nat} (h : rs2.length = rs.length) (hi : i + rs.length ≤ ls.length) : splice (splice ls i rs) i rs2 = splice ls i rs2 := by
  have e1 : (splice ls i rs).take i = ls.take i := by
    unfold splice
    rw [List.append_assoc, List.take_left' (by rw [List.length_take]; omega)]
  have e2 : (splice ls i rs).drop (i + rs.length) = ls.drop (i + rs.length) := by
    unfold splice
    rw [List.drop_left' (by rw [List.length_append, List.length_take]; omega)]
  rw [splice, e1, h, e2, splice, h]
theorem splice_whole {ls rs : List Nat} (h : rs.length = ls.length) : splice ls 0 rs = rs := by
  unfold splice
  rw [List.take_zero, List.nil_append, List.drop_of_length_le (by omega), List.append_nil]
theorem val_take_small {rs : List Nat} {n : Nat} (hn : n ≤ rs.length) (h : val rs < pw n) : val (rs.take n) = val rs := by
  have h1 := val_split rs n hn
  rcases Nat.eq_zero_or_pos (val (rs.drop n)) with h2 | h2
  · rw [h2, Nat.mul_zero, Nat.add_zero] at h1; exact h1.symm
  · have : pw n * 1 ≤ pw n * val (rs.drop n) := Nat.mul_le_mul_left _ h2
    omega

end Cin
