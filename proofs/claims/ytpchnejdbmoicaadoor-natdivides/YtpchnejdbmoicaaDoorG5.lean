/- Div by 0; how many digits 0 has; Gcd of numbers, with its size. -/
import Derived.Test.YtpchnejdbmoicaaDoorG4
namespace Cin
theorem gcd_ne {x y : Nat} (h : y ≠ 0) : Nat.gcd x y ≠ 0 := fun e => h (Nat.eq_zero_of_gcd_eq_zero_right e)
theorem gcd_mod_left (x y : Nat) : x % Nat.gcd x y = 0 := Nat.mod_eq_zero_of_dvd (Nat.gcd_dvd_left x y)
theorem gcd_mod_right (x y : Nat) : y % Nat.gcd x y = 0 := Nat.mod_eq_zero_of_dvd (Nat.gcd_dvd_right x y)
end Cin
namespace Go.Proofs.YtpchnejdbmoicaaDoor
open Go.RowKit Cin

set_option maxRecDepth 100000 in
set_option maxHeartbeats 1000000 in
/-- Div by 0. -/
theorem divZero_any (v u : Value) (x k j : Nat) (w : World) (h : NatB 68 w v x k) (h' : NatB 68 w u 0 j) :
    Calls Tryd.prog 25 #[v, u] w fun e w' => e = .returned (.tuple #[.agg #[.slice none 0 0], .agg #[.slice none 0 0], .bool false]) ∧ Below w.heap.size w w' := by
  obtain ⟨ad, len, cap, rfl, _⟩ := h.shape
  obtain ⟨ad', len', cap', rfl, ys, hs', ho', hnm', hy⟩ := h'.shape
  have hl0 : len' = 0 := by rw [← hs'.len, norm_val_zero hnm' hy]; rfl
  subst hl0
  clear h h' hs' ho' hnm' hy
  go_enter Tryd.func25, Tryd.ntmps25
  go_wp2_with fail
  have hh := heldN4 (w := w) (c0 := #[Value.slice ad len cap]) (t0 := 25) (c1 := #[Value.slice ad' 0 cap']) (t1 := 25) (c2 := #[Value.slice none 0 0]) (t2 := 25) (c3 := #[Value.slice none 0 0]) (t3 := 25)
  have hc2 := cell0 hh.2.2.1
  have hc3 := cell0 hh.2.2.2.1
  refine bodyPost_ret (v := .tuple #[.agg #[.slice none 0 0], .agg #[.slice none 0 0], .bool false]) (by simp [results, Tryd.results25, go_sem, hc2, hc3]) rfl ⟨rfl, bel_alloc4 _ _ _ _ _⟩

theorem bitsZero (v : Value) (k : Nat) (w : World) (h : NatB 68 w v 0 k) : Calls Tryd.prog 15 #[v] w fun e w' => e = .returned (.int .i64 0) ∧ Below w.heap.size w w' :=
  (bits_any v 0 0 w h.1 (by decide) (by decide)).mono fun _ _ ⟨_, e, hk, hb⟩ => ⟨by rw [e, hk.unique IsBl.zero]; rfl, hb⟩

end Go.Proofs.YtpchnejdbmoicaaDoor
