/- Contracts of nat's window, Low. -/
import Derived.Test.YtpchnejdbmoicaaDoorW2
import Derived.Test.YtpchnejdbmoicaaDoorBit
import Derived.Deep.QuietTactic
import Derived.BigQuiet
namespace Go.Proofs.YtpchnejdbmoicaaDoor
open Go.RowKit Cin

theorem limbAt_quiet {w : World} {n : Nat} {v : Value} {xs : List Nat} (h : Sl 68 .u32 w v xs) (i : Int) (h0 : 0 ≤ i) :
    Calls Tryd.prog 74 #[v, .int .i64 i] (w.drewN n) fun e w'' => e = .returned (.int .u32 (lim xs i.toNat : Nat)) ∧ ∃ m, w'' = w.drewN m :=
  (limbAt_any v xs i (w.drewN n) (h.drewN n) h0).mono fun _ _ hh => ⟨hh.1, n, hh.2.symm⟩

set_option maxHeartbeats 400000 in
/-- window: the 64 binary digits from place k on. -/
theorem window_any (v : Value) (xs : List Nat) (k : Nat) (w : World) (h : Sl 68 .u32 w v xs) (ho : Ok xs) (hb : k ≤ 1000000000000) :
    Calls Tryd.prog 57 #[v, .int .i64 k] w fun e w' => e = .returned (.int .u64 (val xs / 2 ^ k % 18446744073709551616 : Nat)) ∧ ∃ n, w' = w.drewN n := by
  have HW := Lib.hid (window_val ho k)
  have h0 : (0 : Int) ≤ k := by omega
  have l0 := lim_lt ho (k / 32)
  have l1 := lim_lt ho (k / 32 + 1)
  have l2 := lim_lt ho (k / 32 + 2)
  have w1 : IntKind.i64.wrap ((k : Int) / 32 + 2) = (k : Int) / 32 + 2 := IntWalk.i64_in _ (by omega)
  have HB := Lib.hid (window_bits (a := lim xs (k / 32)) (b := lim xs (k / 32 + 1)) (c := lim xs (k / 32 + 2)) (s := k % 32) l0 l1 (by omega))
  go_enter Tryd.func57, Tryd.ntmps57
  go_wp2_with (go_at_call 74; refine (limbAt_any _ xs _ _ h (by omega)).mono ?_; rintro e w' ⟨rfl, rfl⟩)
  go_quiet ((go_at_call 74; exact limbAt_quiet h _ (by omega)))
  go_wp2
  go_ret
  exact ⟨ret_int (by rw [HW.out]; exact HB.out), nq, rfl⟩

set_option maxHeartbeats 400000 in
/-- Low: the lowest 64 binary digits. -/
theorem low_any (v : Value) (n : Nat) (w : World) (h : NatV 68 w v n) :
    Calls Tryd.prog 19 #[v] w fun e w' => e = .returned (.int .u64 (n % 18446744073709551616 : Nat)) ∧ Below w.heap.size w w' := by
  obtain ⟨ad, len, cap, rfl, xs, hs, ho, _, rfl⟩ := h.shape
  have H := Lib.hid hs
  clear h hs
  go_enter Tryd.func19, Tryd.ntmps19
  go_wp2_with fail
  refine (window_any _ xs 0 _ (H.out.alloc _) ho (by decide)).mono ?_
  rintro e w1 ⟨rfl, nq, rfl⟩
  go_wp2
  go_ret
  exact ⟨ret_int (by simp), bel_drewN (bel_alloc _ _) _⟩

end Go.Proofs.YtpchnejdbmoicaaDoor
