/- Long division, word by word: what a guess from the highest words is worth. No program. -/
import Derived.Test.YtpchnejdbmoicaaDoorBit
namespace Cin

/-- A number of m words and two more. -/
theorem val_top2 {ys : List Nat} {m : Nat} (ho : Ok ys) (hl : ys.length = m + 2) : ∃ r, r < pw m ∧ val ys = r + pw m * (lim ys m + 4294967296 * lim ys (m + 1)) := by
  refine ⟨val (ys.take m), ?_, ?_⟩
  · have := val_lt (ho.take m)
    rwa [List.length_take, Nat.min_eq_left (by omega)] at this
  · rw [val_split ys m (by omega), val_drop_step, val_drop_step ys (m + 1), List.drop_of_length_le (by omega), val_nil, Nat.mul_zero, Nat.add_zero]
/-- A number of m words and three more. -/
theorem val_top3 {ps : List Nat} {m : Nat} (ho : Ok ps) (hl : ps.length = m + 3) : ∃ r, r < pw m ∧ val ps = r + pw m * (lim ps m + 4294967296 * (lim ps (m + 1) + 4294967296 * lim ps (m + 2))) := by
  refine ⟨val (ps.take m), ?_, ?_⟩
  · have := val_lt (ho.take m)
    rwa [List.length_take, Nat.min_eq_left (by omega)] at this
  · rw [val_split ps m (by omega), val_drop_step, val_drop_step ps (m + 1), val_drop_step ps (m + 2), List.drop_of_length_le (show ps.length ≤ m + 2 + 1 by omega), val_nil]
    simp only [Nat.mul_zero, Nat.add_zero]

section
variable {M Y P ry rp q next high head p2 left y p : Nat}
/-- Too great, as the two highest words tell. -/
theorem guess_over (hy : y = ry + M * Y) (hp : p = rp + M * P) (hrp : rp < M) (hY : Y = next + 4294967296 * high) (hP : P = p2 + 4294967296 * head) (hh : q * high + left = head) (ht : left * 4294967296 + p2 < q * next) : p < q * y := by
  have h1 : P + 1 ≤ q * Y := by
    have e : q * Y = q * next + 4294967296 * (q * high) := by rw [hY, Nat.mul_add, Nat.mul_left_comm]
    rw [e, hP, ← hh]; omega
  have h2 : M * (P + 1) ≤ M * (q * Y) := Nat.mul_le_mul_left _ h1
  have h3 : q * y = q * ry + M * (q * Y) := by rw [hy, Nat.mul_add, Nat.mul_left_comm]
  rw [Nat.mul_add] at h2
  omega
/-- At most one too great, as they tell. -/
theorem guess_under (hy : y = ry + M * Y) (hp : p = rp + M * P) (hry : ry < M) (hY : Y = next + 4294967296 * high) (hhi : 1 ≤ high) (hq : q < 4294967296) (hle : q * Y ≤ P) : q * y ≤ p + y := by
  have h1 : M * (q * Y) ≤ M * P := Nat.mul_le_mul_left _ hle
  have h3 : q * y = q * ry + M * (q * Y) := by rw [hy, Nat.mul_add, Nat.mul_left_comm]
  have h4 : q * ry ≤ 4294967296 * M := Nat.mul_le_mul (by omega) (by omega)
  have h5 : M * 4294967296 ≤ M * Y := Nat.mul_le_mul_left _ (by omega)
  omega
theorem guess_le (hh : q * high + left = head) (hY : Y = next + 4294967296 * high) (hP : P = p2 + 4294967296 * head) (ht : q * next ≤ left * 4294967296 + p2) : q * Y ≤ P := by
  have e : q * Y = q * next + 4294967296 * (q * high) := by rw [hY, Nat.mul_add, Nat.mul_left_comm]
  rw [e, hP, ← hh]; omega
/-- The first guess is not too small. -/
theorem guess_first (hy : y = ry + M * Y) (hp : p = rp + M * P) (hrp : rp < M) (hY : Y = next + 4294967296 * high) (hP : P = p2 + 4294967296 * head) (hp2 : p2 < 4294967296) (hle : q * y ≤ p) : q * high ≤ head := by
  have h3 : q * y = q * ry + M * (q * Y) := by rw [hy, Nat.mul_add, Nat.mul_left_comm]
  have h4 : M * (q * Y) < M * (P + 1) := by rw [Nat.mul_add]; omega
  have h5 : q * Y < P + 1 := Nat.lt_of_mul_lt_mul_left h4
  have e : q * Y = q * next + 4294967296 * (q * high) := by rw [hY, Nat.mul_add, Nat.mul_left_comm]
  omega
/-- How great the highest words can be. -/
theorem guess_head (hy : y = ry + M * Y) (hp : p = rp + M * P) (hry : ry < M) (hY : Y = next + 4294967296 * high) (hP : P = p2 + 4294967296 * head) (hlt : p < 4294967296 * y) : head ≤ next + 4294967296 * high := by
  have h1 : M * P < M * (4294967296 * (Y + 1)) := by
    have e : M * (4294967296 * (Y + 1)) = 4294967296 * (M * Y) + 4294967296 * M := by rw [Nat.mul_left_comm, Nat.mul_add, Nat.mul_add, Nat.mul_one]
    rw [e]; omega
  have h2 : P < 4294967296 * (Y + 1) := Nat.lt_of_mul_lt_mul_left h1
  omega
end

/-- What is known of a guess in the loop: q times the highest word, and what is left, are the two highest words of what is divided; it is not too small. -/
def Guess (ps ys : List Nat) (m q left : Nat) : Prop :=
  q * lim ys (m + 1) + left = lim ps (m + 1) + 4294967296 * lim ps (m + 2) ∧ val ps / val ys ≤ q
theorem Guess.first {ps ys : List Nat} {m : Nat} (op : Ok ps) (oy : Ok ys) (hp : ps.length = m + 3) (hy : ys.length = m + 2) (hhi : 1 ≤ lim ys (m + 1)) :
    Guess ps ys m ((lim ps (m + 1) + 4294967296 * lim ps (m + 2)) / lim ys (m + 1)) ((lim ps (m + 1) + 4294967296 * lim ps (m + 2)) % lim ys (m + 1)) := by
  obtain ⟨ry, hry, ey⟩ := val_top2 oy hy
  obtain ⟨rp, hrp, ep⟩ := val_top3 op hp
  refine ⟨by rw [Nat.mul_comm]; exact Nat.div_add_mod _ _, ?_⟩
  rw [Nat.le_div_iff_mul_le (by omega)]
  exact guess_first ey ep hrp rfl rfl (lim_lt op m) (Nat.div_mul_le_self _ _)
/-- One less, where it was too great. -/
theorem Guess.step {ps ys : List Nat} {m q left : Nat} (op : Ok ps) (oy : Ok ys) (hp : ps.length = m + 3) (hy : ys.length = m + 2) (hy0 : 0 < val ys) (h : Guess ps ys m q left) (hlt : val ps < 4294967296 * val ys)
    (ht : 4294967296 ≤ q ∨ left * 4294967296 + lim ps m < q * lim ys m) : 1 ≤ q ∧ Guess ps ys m (q - 1) (left + lim ys (m + 1)) := by
  obtain ⟨ry, hry, ey⟩ := val_top2 oy hy
  obtain ⟨rp, hrp, ep⟩ := val_top3 op hp
  have hq : val ps / val ys < q := by
    rcases ht with ht | ht
    · refine Nat.lt_of_lt_of_le ?_ ht
      rw [Nat.div_lt_iff_lt_mul hy0]; exact hlt
    · rw [Nat.div_lt_iff_lt_mul hy0]
      exact guess_over ey ep hrp rfl rfl h.1 ht
  have h1 : 1 ≤ q := Nat.lt_of_le_of_lt (Nat.zero_le _) hq
  refine ⟨h1, ?_, Nat.le_sub_one_of_lt hq⟩
  have := h.1
  obtain ⟨c, rfl⟩ : ∃ c, q = c + 1 := ⟨q - 1, by omega⟩
  rw [Nat.add_sub_cancel]
  rw [Nat.add_mul] at this
  omega
/-- Where the loop ends the guess is right, or one too great. -/
theorem Guess.done {ps ys : List Nat} {m q left : Nat} (op : Ok ps) (oy : Ok ys) (hp : ps.length = m + 3) (hy : ys.length = m + 2) (hhi : 1 ≤ lim ys (m + 1)) (h : Guess ps ys m q left) (hlt : val ps < 4294967296 * val ys)
    (ht : 4294967296 ≤ left ∨ (q < 4294967296 ∧ q * lim ys m ≤ left * 4294967296 + lim ps m)) : q < 4294967296 ∧ val ps / val ys ≤ q ∧ q * val ys ≤ val ps + val ys := by
  obtain ⟨ry, hry, ey⟩ := val_top2 oy hy
  obtain ⟨rp, hrp, ep⟩ := val_top3 op hp
  have hnext := lim_lt oy m
  have hhead := guess_head ey ep hry rfl rfl hlt
  have hqb : q < 4294967296 := by
    rcases ht with ht | ht
    · rcases Nat.lt_or_ge q 4294967296 with h1 | h1
      · exact h1
      · have h2 : 4294967296 * lim ys (m + 1) ≤ q * lim ys (m + 1) := Nat.mul_le_mul_right _ h1
        have := h.1
        omega
    · exact ht.1
  refine ⟨hqb, h.2, guess_under ey ep hry rfl hhi hqb (guess_le h.1 rfl rfl ?_)⟩
  rcases ht with ht | ht
  · have h1 : q * lim ys m ≤ 4294967296 * 4294967296 := Nat.mul_le_mul (by omega) (by omega)
    have h2 : 4294967296 * 4294967296 ≤ left * 4294967296 := Nat.mul_le_mul_right _ ht
    omega
  · exact ht.2

/-- One word of taking q times a number away. -/
theorem take_step {ps os ys : List Nat} {k q owed t lo d bo : Nat} (hol : os.length = k) (hok : Ok os) (hv : val os + q * val (ys.take k) = val (ps.take k) + pw k * owed) (ho : owed ≤ q)
    (hx : lim ys k < 4294967296) (et : t = owed + q * lim ys k) (elo : lo = t % 4294967296) (ed : lim ps k + 4294967296 * bo = d + lo) (hd : d < 4294967296) (hbo : bo ≤ 1) (hbo2 : lo = 0 → bo = 0) :
    (os ++ [d]).length = k + 1 ∧ Ok (os ++ [d]) ∧ val (os ++ [d]) + q * val (ys.take (k + 1)) = val (ps.take (k + 1)) + pw (k + 1) * (t / 4294967296 + bo) ∧ t / 4294967296 + bo ≤ q := by
  have htb : t ≤ q * 4294967296 := by
    have h1 : q * lim ys k ≤ q * 4294967295 := Nat.mul_le_mul_left _ (by omega)
    omega
  refine ⟨by rw [List.length_append, hol]; rfl, hok.append (Ok.cons hd Ok.nil), ?_, ?_⟩
  · rw [val_snoc, hol, val_take_step, val_take_step ps, pw_succ, Nat.mul_add]
    have e1 : d + t = lim ps k + 4294967296 * (t / 4294967296 + bo) := by omega
    have e2 := congrArg (pw k * ·) e1
    simp only [Nat.mul_add] at e2
    have e3 : pw k * t = pw k * owed + q * (pw k * lim ys k) := by rw [et, Nat.mul_add, Nat.mul_left_comm q]
    have e4 : 4294967296 * pw k * (t / 4294967296 + bo) = pw k * (4294967296 * (t / 4294967296)) + pw k * (4294967296 * bo) := by rw [Nat.mul_add, Nat.mul_comm 4294967296 (pw k), Nat.mul_assoc, Nat.mul_assoc]
    rw [e4]
    omega
  · have h1 : t / 4294967296 ≤ q := by omega
    rcases Nat.lt_or_ge (t / 4294967296) q with h2 | h2
    · omega
    · have : lo = 0 := by omega
      rw [hbo2 this]; omega

end Cin
