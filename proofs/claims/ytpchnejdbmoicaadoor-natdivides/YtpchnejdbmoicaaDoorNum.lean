/- Plain facts on numbers written in words of 32 binary digits, the lowest first. No Go, no program. -/
namespace Cin

/-- The number whose words these are. -/
def val : List Nat → Nat
  | [] => 0
  | x :: xs => x + 4294967296 * val xs

/-- Each word is below 2 to the 32nd. -/
def Ok (xs : List Nat) : Prop := ∀ x ∈ xs, x < 4294967296

/-- The word at a place, 0 beyond the end. -/
def lim (xs : List Nat) (i : Nat) : Nat := xs.getD i 0

/-- The highest word is not 0. -/
def Norm (xs : List Nat) : Prop := xs = [] ∨ lim xs (xs.length - 1) ≠ 0

/-- 2 to the 32nd, so often by itself. -/
def pw (k : Nat) : Nat := 4294967296 ^ k

theorem pw_zero : pw 0 = 1 := rfl
theorem pw_succ (k : Nat) : pw (k + 1) = 4294967296 * pw k := by unfold pw; rw [Nat.pow_succ, Nat.mul_comm]
theorem pw_add (a b : Nat) : pw (a + b) = pw a * pw b := by unfold pw; rw [Nat.pow_add]
theorem pw_pos (k : Nat) : 0 < pw k := by unfold pw; exact Nat.pow_pos (by decide)
theorem pw_le {a b : Nat} (h : a ≤ b) : pw a ≤ pw b := by unfold pw; exact Nat.pow_le_pow_right (by decide) h
theorem pw_two (k : Nat) : pw k = 2 ^ (32 * k) := by unfold pw; rw [Nat.pow_mul]

theorem lt_pw_mul {x y a b : Nat} (hx : x < pw a) (hy : y < pw b) : x * y < pw (a + b) := by
  rw [pw_add]; exact Nat.mul_lt_mul'' hx hy
theorem lt_pw_add {x y a : Nat} (hx : x < pw a) (hy : y < pw a) : x + y < pw (a + 1) := by rw [pw_succ]; omega
theorem lt_pw_mono {x a b : Nat} (hx : x < pw a) (h : a ≤ b) : x < pw b := Nat.lt_of_lt_of_le hx (pw_le h)

theorem val_nil : val [] = 0 := rfl
theorem val_cons (x : Nat) (xs : List Nat) : val (x :: xs) = x + 4294967296 * val xs := rfl

theorem Ok.nil : Ok [] := fun _ h => by cases h
theorem Ok.cons {x : Nat} {xs : List Nat} (hx : x < 4294967296) (h : Ok xs) : Ok (x :: xs) := fun y hy => by
  rcases List.mem_cons.1 hy with rfl | hy
  · exact hx
  · exact h y hy
theorem Ok.append {xs ys : List Nat} (h : Ok xs) (k : Ok ys) : Ok (xs ++ ys) := fun y hy => by
  rcases List.mem_append.1 hy with hy | hy
  · exact h y hy
  · exact k y hy
theorem Ok.take {xs : List Nat} (h : Ok xs) (n : Nat) : Ok (xs.take n) := fun x hx => h x (List.mem_of_mem_take hx)
theorem Ok.drop {xs : List Nat} (h : Ok xs) (n : Nat) : Ok (xs.drop n) := fun x hx => h x (List.mem_of_mem_drop hx)
theorem Ok.set {xs : List Nat} (h : Ok xs) (n v : Nat) (hv : v < 4294967296) : Ok (xs.set n v) := fun x hx => by
  rcases List.mem_or_eq_of_mem_set hx with hx | rfl
  · exact h x hx
  · exact hv
theorem Ok.replicate (n : Nat) : Ok (List.replicate n 0) := fun x hx => by rw [(List.mem_replicate.1 hx).2]; decide
theorem Ok.of_append_left {xs ys : List Nat} (h : Ok (xs ++ ys)) : Ok xs := fun x hx => h x (List.mem_append.2 (.inl hx))
theorem Ok.of_append_right {xs ys : List Nat} (h : Ok (xs ++ ys)) : Ok ys := fun x hx => h x (List.mem_append.2 (.inr hx))

theorem lim_lt {xs : List Nat} (h : Ok xs) (i : Nat) : lim xs i < 4294967296 := by
  unfold lim
  rw [List.getD_eq_getElem?_getD]
  cases e : xs[i]? with
  | none => decide
  | some x => exact h x (List.mem_of_getElem? e)

theorem lim_eq {xs : List Nat} {i : Nat} (h : i < xs.length) : lim xs i = xs[i] := by
  unfold lim; rw [List.getD_eq_getElem?_getD, List.getElem?_eq_getElem h]; rfl
theorem lim_ge {xs : List Nat} {i : Nat} (h : xs.length ≤ i) : lim xs i = 0 := by
  unfold lim; rw [List.getD_eq_getElem?_getD, List.getElem?_eq_none h]; rfl
theorem lim_zero_cons (x : Nat) (xs : List Nat) : lim (x :: xs) 0 = x := rfl
theorem lim_succ_cons (x : Nat) (xs : List Nat) (i : Nat) : lim (x :: xs) (i + 1) = lim xs i := rfl
theorem getElem?_lim {xs : List Nat} {i : Nat} (h : i < xs.length) : xs[i]? = some (lim xs i) := by rw [lim_eq h, List.getElem?_eq_getElem h]

theorem lim_take {xs : List Nat} {i n : Nat} (h : i < n) : lim (xs.take n) i = lim xs i := by
  unfold lim; rw [List.getD_eq_getElem?_getD, List.getD_eq_getElem?_getD, List.getElem?_take_of_lt h]
theorem lim_drop {xs : List Nat} {i n : Nat} : lim (xs.drop n) i = lim xs (n + i) := by
  unfold lim; rw [List.getD_eq_getElem?_getD, List.getD_eq_getElem?_getD, List.getElem?_drop]
theorem lim_set_same {xs : List Nat} {i v : Nat} (h : i < xs.length) : lim (xs.set i v) i = v := by
  unfold lim; rw [List.getD_eq_getElem?_getD, List.getElem?_set_self h]; rfl
theorem lim_set_other {xs : List Nat} {i j v : Nat} (h : i ≠ j) : lim (xs.set i v) j = lim xs j := by
  unfold lim; rw [List.getD_eq_getElem?_getD, List.getD_eq_getElem?_getD, List.getElem?_set_ne h]
theorem lim_append_left {xs ys : List Nat} {i : Nat} (h : i < xs.length) : lim (xs ++ ys) i = lim xs i := by
  unfold lim; rw [List.getD_eq_getElem?_getD, List.getD_eq_getElem?_getD, List.getElem?_append_left h]
theorem lim_append_right {xs ys : List Nat} {i : Nat} (h : xs.length ≤ i) : lim (xs ++ ys) i = lim ys (i - xs.length) := by
  unfold lim; rw [List.getD_eq_getElem?_getD, List.getD_eq_getElem?_getD, List.getElem?_append_right h]
theorem lim_replicate (n i : Nat) : lim (List.replicate n 0) i = 0 := by
  unfold lim; rw [List.getD_eq_getElem?_getD, List.getElem?_replicate]; split <;> rfl

/-- Two lists of one length with the same words are the same. -/
theorem ext_lim {xs ys : List Nat} (hl : xs.length = ys.length) (h : ∀ i, i < xs.length → lim xs i = lim ys i) : xs = ys := by
  apply List.ext_getElem hl
  intro i h1 h2
  have := h i h1
  rwa [lim_eq h1, lim_eq h2] at this

theorem take_succ_lim {xs : List Nat} {i : Nat} (h : i < xs.length) : xs.take (i + 1) = xs.take i ++ [lim xs i] := by
  rw [List.take_succ_eq_append_getElem h, lim_eq h]

theorem drop_lim {xs : List Nat} {i : Nat} (h : i < xs.length) : xs.drop i = lim xs i :: xs.drop (i + 1) := by
  rw [List.drop_eq_getElem_cons h, lim_eq h]

theorem val_append (xs ys : List Nat) : val (xs ++ ys) = val xs + pw xs.length * val ys := by
  induction xs with
  | nil => simp [val, pw]
  | cons x xs ih =>
    simp only [List.cons_append, val, ih, List.length_cons, pw_succ]
    rw [Nat.mul_add, Nat.add_assoc, Nat.mul_assoc]

theorem val_snoc (os : List Nat) (t : Nat) : val (os ++ [t]) = val os + pw os.length * t := by
  rw [val_append, val_cons, val_nil, Nat.mul_zero, Nat.add_zero]

theorem val_lt {xs : List Nat} (h : Ok xs) : val xs < pw xs.length := by
  induction xs with
  | nil => simp [val, pw]
  | cons x xs ih =>
    have h1 := h x (by simp)
    have h2 := ih (fun y hy => h y (by simp [hy]))
    simp only [val, List.length_cons, pw_succ]
    omega

theorem val_take_succ {xs : List Nat} {i : Nat} (h : i < xs.length) : val (xs.take (i + 1)) = val (xs.take i) + pw i * lim xs i := by
  rw [take_succ_lim h, val_append, List.length_take, Nat.min_eq_left (Nat.le_of_lt h)]
  simp [val]

theorem val_take_step (xs : List Nat) (i : Nat) : val (xs.take (i + 1)) = val (xs.take i) + pw i * lim xs i := by
  rcases Nat.lt_or_ge i xs.length with h | h
  · exact val_take_succ h
  · rw [List.take_of_length_le (by omega), List.take_of_length_le h, lim_ge h, Nat.mul_zero, Nat.add_zero]

theorem val_split (xs : List Nat) (i : Nat) (h : i ≤ xs.length) : val xs = val (xs.take i) + pw i * val (xs.drop i) := by
  conv => lhs; rw [← List.take_append_drop i xs]
  rw [val_append, List.length_take, Nat.min_eq_left h]

theorem val_set {xs : List Nat} {i : Nat} (h : i < xs.length) (v : Nat) : val (xs.set i v) + pw i * lim xs i = val xs + pw i * v := by
  have e : xs.set i v = xs.take i ++ v :: xs.drop (i + 1) := by rw [List.set_eq_take_append_cons_drop, if_pos h]
  rw [e, val_append, val_cons, List.length_take, Nat.min_eq_left (by omega), val_split xs i (by omega), drop_lim h, val_cons]
  simp only [Nat.mul_add]
  omega

theorem val_replicate (n : Nat) : val (List.replicate n 0) = 0 := by
  induction n with
  | zero => rfl
  | succ n ih => rw [List.replicate_succ, val, ih]

theorem val_take_full {xs : List Nat} {n : Nat} (h : xs.length ≤ n) : val (xs.take n) = val xs := by rw [List.take_of_length_le h]

/-- The highest word that is not 0 makes the number at least so great. -/
theorem val_ge {xs : List Nat} (hn : Norm xs) (hne : xs ≠ []) : pw (xs.length - 1) ≤ val xs := by
  rcases hn with rfl | h
  · exact absurd rfl hne
  · have hl : 0 < xs.length := List.length_pos_iff.2 hne
    have e := val_take_succ (xs := xs) (i := xs.length - 1) (by omega)
    rw [Nat.sub_add_cancel hl, List.take_length] at e
    rw [e]
    have : 1 ≤ lim xs (xs.length - 1) := by omega
    have := Nat.mul_le_mul_left (pw (xs.length - 1)) this
    omega

theorem norm_val_zero {xs : List Nat} (hn : Norm xs) (h : val xs = 0) : xs = [] := by
  by_cases hne : xs = []
  · exact hne
  · have := val_ge hn hne
    have := pw_pos (xs.length - 1)
    omega

theorem len_of_val_le {xs ys : List Nat} (hx : Norm xs) (oy : Ok ys) (h : val xs ≤ val ys) : xs.length ≤ ys.length := by
  by_cases hne : xs = []
  · subst hne; simp
  · have h1 := val_ge hx hne
    have h2 := val_lt oy
    rcases Nat.lt_or_ge ys.length xs.length with hl | hl
    · have := pw_le (a := ys.length) (b := xs.length - 1) (by omega)
      omega
    · exact hl

theorem norm_of_ge {xs : List Nat} (ho : Ok xs) (h : xs = [] ∨ pw (xs.length - 1) ≤ val xs) : Norm xs := by
  rcases h with h | h
  · exact .inl h
  · by_cases hne : xs = []
    · exact .inl hne
    · right
      intro e0
      have hl : 0 < xs.length := List.length_pos_iff.2 hne
      have e := val_take_succ (xs := xs) (i := xs.length - 1) (by omega)
      rw [Nat.sub_add_cancel hl, List.take_length, e0, Nat.mul_zero, Nat.add_zero] at e
      have h1 := val_lt (ho.take (xs.length - 1))
      rw [List.length_take, Nat.min_eq_left (by omega)] at h1
      omega
theorem norm_len {xs : List Nat} {m : Nat} (hn : Norm xs) (h : val xs < pw m) : xs.length ≤ m := by
  by_cases hne : xs = []
  · subst hne; simp
  · have := val_ge hn hne
    rcases Nat.lt_or_ge m xs.length with hl | hl
    · have := pw_le (a := m) (b := xs.length - 1) (by omega)
      omega
    · exact hl

theorem val_inj_same : ∀ {xs ys : List Nat}, Ok xs → Ok ys → xs.length = ys.length → val xs = val ys → xs = ys
  | [], [], _, _, _, _ => rfl
  | x :: xs, y :: ys, ox, oy, hl, hv => by
    have h1 := ox x (by simp)
    have h2 := oy y (by simp)
    simp only [val] at hv
    have e1 : x = y := by omega
    have e2 : val xs = val ys := by omega
    rw [e1, val_inj_same (fun z hz => ox z (by simp [hz])) (fun z hz => oy z (by simp [hz])) (by simpa using hl) e2]
  | [], _ :: _, _, _, hl, _ => by simp at hl
  | _ :: _, [], _, _, hl, _ => by simp at hl

/-- Each number has one form. -/
theorem val_inj {xs ys : List Nat} (ox : Ok xs) (oy : Ok ys) (nx : Norm xs) (ny : Norm ys) (h : val xs = val ys) : xs = ys :=
  val_inj_same ox oy (Nat.le_antisymm (len_of_val_le nx oy (by omega)) (len_of_val_le ny ox (by omega))) h

theorem val_lt_of_len {xs ys : List Nat} (ox : Ok xs) (ny : Norm ys) (h : xs.length < ys.length) : val xs < val ys := by
  have h1 := val_lt ox
  have h2 := val_ge ny (by intro e; simp [e] at h)
  have := pw_le (a := xs.length) (b := ys.length - 1) (by omega)
  omega

/-- The words from some place on are the same, the one below is less: so is the number. -/
theorem val_lt_of_top {xs ys : List Nat} (ox : Ok xs) (hl : xs.length = ys.length) {i : Nat} (hi : i < xs.length)
    (heq : ∀ j, i < j → j < xs.length → lim xs j = lim ys j) (hlt : lim xs i < lim ys i) : val xs < val ys := by
  rw [val_split xs (i + 1) (by omega), val_split ys (i + 1) (by omega), val_take_succ hi, val_take_succ (xs := ys) (by omega)]
  have e : xs.drop (i + 1) = ys.drop (i + 1) := by
    apply ext_lim (by simp [hl])
    intro j hj
    rw [List.length_drop] at hj
    rw [lim_drop, lim_drop]
    exact heq _ (by omega) (by omega)
  rw [e]
  have h1 := val_lt (ox.take i)
  rw [List.length_take, Nat.min_eq_left (by omega)] at h1
  have h2 : pw i * (lim xs i + 1) ≤ pw i * lim ys i := Nat.mul_le_mul_left _ hlt
  rw [Nat.mul_add] at h2
  omega

/-- k is how many binary digits n has. -/
def IsBl (n k : Nat) : Prop := n < 2 ^ k ∧ (k = 0 ∨ 2 ^ (k - 1) ≤ n)
/-- k is how often 2 goes into n, and 0 of 0. -/
def IsTz (n k : Nat) : Prop := (n = 0 ∧ k = 0) ∨ ∃ m, n = 2 ^ k * (2 * m + 1)

theorem IsBl.unique {n k j : Nat} (h : IsBl n k) (h' : IsBl n j) : k = j := by
  rcases Nat.lt_trichotomy k j with hl | hl | hl
  · rcases h'.2 with rfl | h2
    · omega
    · have := Nat.pow_le_pow_right (n := 2) (by decide) (show k ≤ j - 1 by omega)
      have := h.1; omega
  · exact hl
  · rcases h.2 with rfl | h2
    · omega
    · have := Nat.pow_le_pow_right (n := 2) (by decide) (show j ≤ k - 1 by omega)
      have := h'.1; omega
theorem IsBl.zero : IsBl 0 0 := ⟨by decide, .inl rfl⟩
theorem IsTz.unique {n k j : Nat} (h : IsTz n k) (h' : IsTz n j) : k = j := by
  have key : ∀ a b m l : Nat, a < b → 2 ^ a * (2 * m + 1) = 2 ^ b * (2 * l + 1) → False := fun a b m l hab he => by
    obtain ⟨d, rfl⟩ : ∃ d, b = a + (d + 1) := ⟨b - a - 1, by omega⟩
    rw [Nat.pow_add, Nat.mul_assoc] at he
    have := Nat.eq_of_mul_eq_mul_left (Nat.pow_pos (by decide)) he
    rw [Nat.pow_succ, Nat.mul_comm (2 ^ d) 2, Nat.mul_assoc] at this
    omega
  have pos : ∀ a m : Nat, 2 ^ a * (2 * m + 1) ≠ 0 := fun a m => by
    have := Nat.mul_pos (Nat.pow_pos (n := a) (show 0 < 2 by decide)) (show 0 < 2 * m + 1 by omega)
    omega
  rcases h with ⟨rfl, rfl⟩ | ⟨m, hm⟩
  · rcases h' with ⟨_, rfl⟩ | ⟨l, hl⟩
    · rfl
    · exact absurd hl.symm (pos _ _)
  · rcases h' with ⟨rfl, rfl⟩ | ⟨l, hl⟩
    · exact absurd hm.symm (pos _ _)
    · rcases Nat.lt_trichotomy k j with h1 | h1 | h1
      · exact (key k j m l h1 (hm.symm.trans hl)).elim
      · exact h1
      · exact (key j k l m h1 (hl.symm.trans hm)).elim

/-- One halving more. -/
theorem IsBl.half {n k : Nat} (h : IsBl (n / 2) k) (h0 : n ≠ 0) : IsBl n (k + 1) := by
  have h1 := h.1
  refine ⟨by rw [Nat.pow_succ]; omega, .inr ?_⟩
  rw [Nat.add_sub_cancel]
  rcases h.2 with e | e
  · subst e; simp; omega
  · rcases Nat.eq_zero_or_pos k with e0 | e0
    · subst e0; simp; omega
    · obtain ⟨q, rfl⟩ : ∃ q, k = q + 1 := ⟨k - 1, by omega⟩
      rw [Nat.add_sub_cancel] at e
      rw [Nat.pow_succ]; omega
theorem IsTz.shl {n k : Nat} (h : IsTz n k) (h0 : n ≠ 0) (m : Nat) : IsTz (n * 2 ^ m) (m + k) := by
  rcases h with ⟨e, _⟩ | ⟨l, hl⟩
  · exact absurd e h0
  · exact .inr ⟨l, by rw [hl, Nat.pow_add]; ac_rfl⟩

theorem IsTz.lt {n k m : Nat} (h : IsTz n k) (h0 : n ≠ 0) (hm : n < 2 ^ m) : k < m := by
  rcases h with ⟨e, _⟩ | ⟨l, hl⟩
  · exact absurd e h0
  · rcases Nat.lt_or_ge k m with h | h
    · exact h
    · have h1 := Nat.pow_le_pow_right (n := 2) (by decide) h
      have h2 : 2 ^ k * 1 ≤ 2 ^ k * (2 * l + 1) := Nat.mul_le_mul_left _ (by omega)
      omega

/-- The binary digits of a number whose highest word has so many. -/
theorem bl_top {xs : List Nat} {c : Nat} (hne : xs ≠ []) (ho : Ok xs) (h : IsBl (lim xs (xs.length - 1)) c) (h0 : lim xs (xs.length - 1) ≠ 0) : IsBl (val xs) (32 * (xs.length - 1) + c) := by
  have hl : 0 < xs.length := List.length_pos_iff.2 hne
  have e := val_take_succ (xs := xs) (i := xs.length - 1) (by omega)
  rw [Nat.sub_add_cancel hl, List.take_length] at e
  have hlow := val_lt (ho.take (xs.length - 1))
  rw [List.length_take, Nat.min_eq_left (by omega)] at hlow
  have hp := pw_two (xs.length - 1)
  generalize xs.length - 1 = m at *
  generalize lim xs m = t at *
  have hc : c ≠ 0 := by rintro rfl; have := h.1; simp at this; omega
  refine ⟨?_, .inr ?_⟩
  · rw [Nat.pow_add, ← hp, e]
    have : pw m * (t + 1) ≤ pw m * 2 ^ c := Nat.mul_le_mul_left _ h.1
    rw [Nat.mul_add] at this
    omega
  · rcases h.2 with h2 | h2
    · exact absurd h2 hc
    · rw [show 32 * m + c - 1 = 32 * m + (c - 1) by omega, Nat.pow_add, ← hp, e]
      have := Nat.mul_le_mul_left (pw m) h2
      omega

/-- How often 2 goes into a number whose lowest words are 0. -/
theorem tz_low {xs : List Nat} {i c : Nat} (hi : i < xs.length) (hz : ∀ j, j < i → lim xs j = 0) (hc : c < 32) {m : Nat} (h : lim xs i = 2 ^ c * (2 * m + 1)) : IsTz (val xs) (32 * i + c) := by
  right
  have e0 : val (xs.take i) = 0 := by
    have : xs.take i = List.replicate i 0 := by
      apply ext_lim
      · rw [List.length_take, List.length_replicate]; omega
      · intro j hj
        rw [List.length_take] at hj
        rw [lim_take (by omega), lim_replicate]; exact hz j (by omega)
    rw [this, val_replicate]
  rw [val_split xs i (by omega), e0, drop_lim hi, val_cons, h]
  generalize val (xs.drop (i + 1)) = r
  refine ⟨m + 2 ^ (31 - c) * r, ?_⟩
  have h32 : (4294967296 : Nat) = 2 ^ c * (2 * 2 ^ (31 - c)) := by
    rw [← Nat.pow_succ', ← Nat.pow_add, show c + (31 - c + 1) = 32 by omega]
  rw [h32, Nat.pow_add, ← pw_two, Nat.zero_add, Nat.mul_assoc (2 ^ c), ← Nat.mul_add, Nat.mul_assoc (pw i)]
  congr 2
  rw [Nat.mul_add, Nat.mul_assoc]; omega

/-- ys with os in the place of what stands there from off on. -/
def splice (ys : List Nat) (off : Nat) (os : List Nat) : List Nat := ys.take off ++ os ++ ys.drop (off + os.length)

theorem splice_nil (ys : List Nat) (off : Nat) : splice ys off [] = ys := by simp [splice]
theorem splice_length {ys : List Nat} {off : Nat} {os : List Nat} (h : off + os.length ≤ ys.length) : (splice ys off os).length = ys.length := by
  simp [splice]; omega
theorem splice_set {ys : List Nat} {off : Nat} {os : List Nat} (h : off + os.length < ys.length) (v : Nat) :
    (splice ys off os).set (off + os.length) v = splice ys off (os ++ [v]) := by
  unfold splice
  have e : (ys.take off ++ os).length = off + os.length := by simp; omega
  rw [List.set_append_right (h := by omega), e, Nat.sub_self, drop_lim h]
  simp [Nat.add_assoc]
theorem splice_ok {ys : List Nat} {off : Nat} {os : List Nat} (h : Ok ys) (ho : Ok os) : Ok (splice ys off os) := ((h.take _).append ho).append (h.drop _)
theorem splice_part {ys : List Nat} {off : Nat} {os : List Nat} (h : off + os.length ≤ ys.length) : ((splice ys off os).drop off).take os.length = os := by
  unfold splice
  rw [List.append_assoc, List.drop_append_of_le_length (by simp; omega), List.drop_take]
  simp

theorem splice_zeros_all {n : Nat} {os : List Nat} (h : os.length = n) : splice (List.replicate n 0) 0 os = os := by
  unfold splice; rw [List.drop_eq_nil_of_le (by simp; omega)]; simp
theorem val_splice_zeros {n i : Nat} {os : List Nat} (h : i + os.length = n) : val (splice (List.replicate n 0) i os) = pw i * val os := by
  unfold splice
  rw [List.drop_eq_nil_of_le (by simp; omega), List.append_nil, val_append, List.take_replicate, val_replicate, List.length_replicate, Nat.min_eq_left (by omega), Nat.zero_add]

end Cin
