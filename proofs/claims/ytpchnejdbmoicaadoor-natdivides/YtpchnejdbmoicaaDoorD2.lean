/- The contract of nat's guessLimb. -/
import Derived.Test.YtpchnejdbmoicaaDoorD1
import Derived.BigGuard
namespace Go.Proofs.YtpchnejdbmoicaaDoor
open Go.RowKit Cin

def GuessPost (ps ys : List Nat) (w : World) (e : Ending) (w' : World) : Prop := ∃ (q nq : Nat), e = .returned (.int .u32 q) ∧ q < 4294967296 ∧ val ps / val ys ≤ q ∧ q * val ys ≤ val ps + val ys ∧ w' = w.drewN nq
def GuessRel (ps ys : List Nat) (m : Nat) (qx lx : Value) : Prop := ∃ q left : Nat, qx = .int .u64 q ∧ lx = .int .u64 left ∧ q < 18446744073709551616 ∧ left < 4294967296 ∧ Guess ps ys m q left

set_option maxRecDepth 100000 in
set_option maxHeartbeats 4000000 in
/-- guessLimb: how often by goes into part, or one more. -/
theorem guessLimb_any (v u : Value) (ps ys : List Nat) (m : Nat) (w : World) (h : Sl 68 .u32 w v ps) (h' : Sl 68 .u32 w u ys) (op : Ok ps) (oy : Ok ys) (hp : ps.length = m + 3) (hy : ys.length = m + 2) (hm : m ≤ 100000000)
    (hhi : 1 ≤ lim ys (m + 1)) (hlt : val ps < 4294967296 * val ys) :
    Calls Tryd.prog 91 #[v, u] w (GuessPost ps ys w) := by
  obtain ⟨ad, cap, rfl, hc, _⟩ := h.shape
  obtain ⟨ad', cap', rfl, hc', _⟩ := h'.shape
  have hy0 : 0 < val ys := by
    obtain ⟨r, _, e⟩ := val_top2 oy hy
    have h1 := pw_pos m
    have : pw m * 1 ≤ pw m * (lim ys m + 4294967296 * lim ys (m + 1)) := Nat.mul_le_mul_left _ (by omega)
    omega
  have HF := Lib.hid (Guess.first op oy hp hy hhi)
  have HST := Lib.hid (fun q left (hg : Guess ps ys m q left) => Guess.step op oy hp hy hy0 hg hlt)
  have HDN := Lib.hid (fun q left (hg : Guess ps ys m q left) => Guess.done op oy hp hy hhi hg hlt)
  obtain ⟨b, off, rfl, hp0, _⟩ := h.cell (i := m) (by omega)
  obtain ⟨_, _, e1, hp1, _⟩ := h.cell (i := m + 1) (by omega)
  cases e1
  obtain ⟨_, _, e2, hp2, _⟩ := h.cell (i := m + 2) (by omega)
  cases e2
  obtain ⟨b', off', rfl, hy1, _⟩ := h'.cell (i := m) (by omega)
  obtain ⟨_, _, e3, hy2, _⟩ := h'.cell (i := m + 1) (by omega)
  cases e3
  have b0 := lim_lt op m
  have b1 := lim_lt op (m + 1)
  have b2 := lim_lt op (m + 2)
  have c0 := lim_lt oy m
  have c1 := lim_lt oy (m + 1)
  rw [hp, hy]
  clear h h' hp hy hlt hy0 hc hc'
  generalize lim ps m = p0 at *
  generalize lim ps (m + 1) = p1 at *
  generalize lim ps (m + 2) = p2 at *
  generalize lim ys m = next at *
  generalize lim ys (m + 1) = high at *
  have i1 : ((m + 2 : Nat) : Int) - 1 = ((m + 1 : Nat) : Int) := by omega
  have i2 : ((m + 2 : Nat) : Int) - 2 = (m : Int) := by omega
  obtain ⟨hd, ehd⟩ : ∃ hd : Nat, hd = p1 + 4294967296 * p2 := ⟨_, rfl⟩
  have hor : bits BinOp.or IntKind.u64 ((p2 : Int) * 4294967296) (p1 : Int) = (hd : Int) := by
    have := or_u64 (x := p2) (y := p1) (s := 32) (by omega) (by omega) (by omega)
    rw [ehd]; simp at this ⊢; omega
  have hdb : hd < 18446744073709551616 := by omega
  rw [← ehd] at HF
  have hqle := Nat.div_le_self hd high
  have hlr := Nat.mod_lt hd hhi
  obtain ⟨q0, hq0, eq0⟩ : ∃ q0 : Nat, IntKind.u64.wrap ((hd : Int) / (high : Int)) = (q0 : Int) ∧ q0 = hd / high := ⟨hd / high, by
    rw [← Int.natCast_ediv, IntKind.wrap_u64]; generalize hd / high = z at *; omega, rfl⟩
  obtain ⟨l0, hl0, el0⟩ : ∃ l0 : Nat, (hd : Int).tmod (high : Int) = (l0 : Int) ∧ l0 = hd % high := ⟨hd % high, rfl, rfl⟩
  rw [← eq0, ← el0] at HF
  have hq0b : q0 < 18446744073709551616 := by omega
  have hl0b : l0 < 4294967296 := by omega
  have hhb : ((high : Int) == 0) = false := beq_eq_false_iff_ne.2 (by omega)
  clear ehd eq0 el0 hqle hlr
  go_enter Tryd.func91, Tryd.ntmps91
  go_wp2_with fail
  go_big_region
  go_wp2_with fail
  go_big_region
  go_wp2_with fail
  go_big_region
  go_wp2_with fail
  clear hor hq0 hl0 hp1 hp2 hy1 hy2
  go_loop [9, 10] (fun qx lx => GuessRel ps ys m qx lx) (fun qx _ => (intOf qx).toNat)
  case atStart => exact ⟨q0, l0, rfl, rfl, hq0b, hl0b, HF.out⟩
  case round =>
    obtain ⟨q, left, rfl, rfl, hqb, hlb, hg⟩ := hrel
    have HG := Lib.hid hg
    clear hg
    by_cases hge : 4294967296 ≤ q
    · have ht1 : ((q : Int) / 4294967296 == 0) = false := by rw [beq_eq_false_iff_ne]; omega
      obtain ⟨hq1, hg1⟩ := HST.out q left HG.out (.inl hge)
      obtain ⟨q1, eq1⟩ : ∃ q1 : Nat, q - 1 = q1 := ⟨_, rfl⟩
      rw [eq1] at hg1
      obtain ⟨l1, el1, hl1⟩ : ∃ l1 : Nat, (left : Int) + (high : Int) = (l1 : Int) ∧ left + high = l1 := ⟨_, by omega, rfl⟩
      rw [hl1] at hg1
      have HG1 := Lib.hid hg1
      have eq2 : (q : Int) - 1 = (q1 : Int) := by omega
      have hq1q : q1 < q := by omega
      have hl1b : l1 < 8589934592 := by omega
      clear hg1 hl1 HG eq1
      by_cases hbr : l1 < 4294967296
      · have hb1 : ((l1 : Int) / 4294967296 == 0) = true := by rw [beq_iff_eq]; omega
        go_wp2_with fail
        exact ⟨⟨q1, l1, by first | rfl | (congr 1; omega), rfl, by omega, hbr, HG1.out⟩, by simp [intOf]; omega⟩
      · have hb1 : ((l1 : Int) / 4294967296 == 0) = false := by rw [beq_eq_false_iff_ne]; omega
        obtain ⟨d1, d2, d3⟩ := HDN.out q1 l1 HG1.out (.inl (by omega))
        have HD2 := Lib.hid d2
        have HD3 := Lib.hid d3
        clear d2 d3
        go_wp2_with fail
        go_ret
        exact ⟨q1, 3, rfl, d1, HD2.out, HD3.out, rfl⟩
    · have ht1 : ((q : Int) / 4294967296 == 0) = true := by rw [beq_iff_eq]; omega
      have hqn : q * next ≤ 4294967295 * 4294967295 := Nat.mul_le_mul (by omega) (by omega)
      obtain ⟨qn, eqn, hqn1⟩ : ∃ qn : Nat, IntKind.u64.wrap ((q : Int) * (next : Int)) = (qn : Int) ∧ q * next = qn := ⟨_, by
        rw [IntKind.wrap_u64, show ((q : Int) * (next : Int)) = ((q * next : Nat) : Int) by simp]; omega, rfl⟩
      obtain ⟨lp, hlp⟩ : ∃ lp : Nat, left * 4294967296 + p0 = lp := ⟨_, rfl⟩
      have hor : bits BinOp.or IntKind.u64 ((left : Int) * 4294967296) (p0 : Int) = (lp : Int) := by
        have := or_u64 (x := left) (y := p0) (s := 32) (by omega) (by omega) (by omega)
        rw [← hlp]; simp at this ⊢; omega
      by_cases htt : lp < qn
      · have ht2 : decide ((lp : Int) < (qn : Int)) = true := by rw [decide_eq_true_iff]; omega
        have HW := Lib.hid (show left * 4294967296 + p0 < q * next by rw [hlp, hqn1]; exact htt)
        clear hlp hqn1 hqn
        obtain ⟨hq1, hg1⟩ := HST.out q left HG.out (.inr HW.out)
        obtain ⟨q1, eq1⟩ : ∃ q1 : Nat, q - 1 = q1 := ⟨_, rfl⟩
        rw [eq1] at hg1
        obtain ⟨l1, el1, hl1⟩ : ∃ l1 : Nat, (left : Int) + (high : Int) = (l1 : Int) ∧ left + high = l1 := ⟨_, by omega, rfl⟩
        rw [hl1] at hg1
        have HG1 := Lib.hid hg1
        have eq2 : (q : Int) - 1 = (q1 : Int) := by omega
        have hq1q : q1 < q := by omega
        have hl1b : l1 < 8589934592 := by omega
        clear hg1 hl1 HG eq1
        by_cases hbr : l1 < 4294967296
        · have hb1 : ((l1 : Int) / 4294967296 == 0) = true := by rw [beq_iff_eq]; omega
          go_wp2_with fail
          exact ⟨⟨q1, l1, by first | rfl | (congr 1; omega), rfl, by omega, hbr, HG1.out⟩, by simp [intOf]; omega⟩
        · have hb1 : ((l1 : Int) / 4294967296 == 0) = false := by rw [beq_eq_false_iff_ne]; omega
          obtain ⟨d1, d2, d3⟩ := HDN.out q1 l1 HG1.out (.inl (by omega))
          have HD2 := Lib.hid d2
          have HD3 := Lib.hid d3
          clear d2 d3
          go_wp2_with fail
          go_ret
          exact ⟨q1, 3, rfl, d1, HD2.out, HD3.out, rfl⟩
      · have ht2 : decide ((lp : Int) < (qn : Int)) = false := by rw [decide_eq_false_iff_not]; omega
        obtain ⟨d1, d2, d3⟩ := HDN.out q left HG.out (.inr ⟨by omega, by rw [hlp, hqn1]; omega⟩)
        have HD2 := Lib.hid d2
        have HD3 := Lib.hid d3
        clear d2 d3 hlp hqn1 hqn
        go_wp2_with fail
        go_ret
        exact ⟨q, 3, rfl, d1, HD2.out, HD3.out, rfl⟩

end Go.Proofs.YtpchnejdbmoicaaDoor
