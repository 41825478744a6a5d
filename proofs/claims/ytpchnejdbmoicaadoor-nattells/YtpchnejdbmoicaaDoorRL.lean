/- The contract of the document's Low. -/
import Derived.Test.YtpchnejdbmoicaaDoorYp
import Derived.Test.YtpchnejdbmoicaaDoorYa
namespace Go.Proofs.YtpchnejdbmoicaaDoor
open Go.RowKit Cin

set_option maxRecDepth 100000 in
set_option maxHeartbeats 1000000 in
/-- Low: the lowest 64 binary digits. -/
theorem rlow_any (v : Value) (n : Nat) (w : World) (h : RefV 68 w v n) :
    Calls Tryd.prog 20 #[v] w fun e w' => e = .returned (.int .u64 (n % 18446744073709551616 : Nat)) ∧ w' = w := by
  obtain ⟨xs, hs, ho, _, hv⟩ := h
  obtain ⟨ad, cap, rfl, hc, _⟩ := hs.shape
  rcases xs with _ | ⟨a, _ | ⟨b, ys⟩⟩
  · have hn0 : n = 0 := by rw [← hv]; rfl
    subst hn0
    clear hs ho hv hc
    go_enter Tryd.func20, Tryd.ntmps20
    go_wp2
    go_ret
    exact ⟨rfl, rfl⟩
  · obtain ⟨bk, off, rfl, hcell, hblt⟩ := hs.cell (i := 0) (by simp)
    rw [lim_zero_cons] at hcell
    simp only [Nat.add_zero] at hcell
    have ha := lim_lt ho 0
    rw [lim_zero_cons] at ha
    have HE := Lib.hid (show ((a : Nat) : Int) = ((n % 18446744073709551616 : Nat) : Int) by rw [← hv, val_cons, val_nil]; omega)
    simp only [List.length_cons, List.length_nil] at hc ⊢
    clear hs ho hv
    go_enter Tryd.func20, Tryd.ntmps20
    go_wp2
    go_ret
    exact ⟨ret_int HE.out, rfl⟩
  · obtain ⟨bk, off, e0, hcell, hblt⟩ := hs.cell (i := 0) (by simp)
    obtain ⟨bk', off', e1, hcell1, _⟩ := hs.cell (i := 1) (by simp)
    cases e0
    cases e1
    rw [lim_zero_cons] at hcell
    simp only [Nat.add_zero] at hcell
    rw [lim_succ_cons, lim_zero_cons] at hcell1
    have ha := lim_lt ho 0
    have hb := lim_lt ho 1
    rw [lim_zero_cons] at ha
    rw [lim_succ_cons, lim_zero_cons] at hb
    have hor : bits BinOp.or IntKind.u64 (a : Int) ((b : Int) * 4294967296) = ((a + b * 4294967296 : Nat) : Int) := by
      have := or_u64' (x := b) (y := a) (s := 32) (by omega) (by omega) (by omega)
      simpa using this
    have HE := Lib.hid (show ((a + b * 4294967296 : Nat) : Int) = ((n % 18446744073709551616 : Nat) : Int) by rw [← hv, val_cons, val_cons]; omega)
    obtain ⟨len, hlen⟩ : ∃ len, (a :: b :: ys).length = len := ⟨_, rfl⟩
    have hl2 : 2 ≤ len := by rw [← hlen]; simp
    rw [hlen] at hc ⊢
    have d0 : decide ((0 : Int) < (len : Int)) = true := by rw [decide_eq_true_iff]; omega
    have d1 : decide ((1 : Int) < (len : Int)) = true := by rw [decide_eq_true_iff]; omega
    clear hs ho hv hlen
    go_enter Tryd.func20, Tryd.ntmps20
    go_wp2
    go_ret
    exact ⟨ret_int HE.out, rfl⟩

end Go.Proofs.YtpchnejdbmoicaaDoor
