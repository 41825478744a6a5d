/- alive: a first call whose answer the document fixes. -/
import Derived.Test.YtfhilapjpabeeabDoorW7
import Derived.Test.YtfhilapjpabeeabDoorW3
namespace Go.Proofs.YtfhilapjpabeeabDoor
open Go.RowKit Cin

set_option maxHeartbeats 400000 in
theorem formatUintI_small (u : Nat) (w : World) (h : u < 100) :
    Calls Tryd.prog 84 #[.int .u64 u, .int .i64 10] w fun e w' => e = .returned (.string ⟨(Lib.decDigits u).toArray⟩) ∧ w = w' := by
  go_enter Tryd.func84, Tryd.ntmps84
  go_wp2_with (go_at_call 89; refine (Tryd.internal_strconv_small u h _).mono ?_; rintro e w' ⟨rfl, rfl⟩)
  go_ret
  exact ⟨rfl, rfl⟩

set_option maxHeartbeats 400000 in
theorem formatUint_small (u : Nat) (w : World) (h : u < 100) :
    Calls Tryd.prog 63 #[.int .u64 u, .int .i64 10] w fun e w' => e = .returned (.string ⟨(Lib.decDigits u).toArray⟩) ∧ w = w' := by
  go_enter Tryd.func63, Tryd.ntmps63
  go_wp2_with fail
  refine (formatUintI_small u _ h).mono ?_
  rintro e w' ⟨rfl, rfl⟩
  go_wp2
  go_ret
  exact ⟨rfl, rfl⟩

set_option maxHeartbeats 400000 in
theorem text_small (v : Value) (u : Nat) (w : World) (h : NatV 80 w v u) (hu : u < 100) :
    Calls Tryd.prog 38 #[v] w fun e w' => e = .returned (.string ⟨(Lib.decDigits u).toArray⟩) ∧ Below w.heap.size w w' := by
  have hnat := h
  obtain ⟨ad, len, cap, rfl, xs, hs, ho, hnm, hval⟩ := h.shape
  have hlx := hs.len
  have hl : len ≤ 1 := by
    have := norm_len (m := 1) hnm (by rw [hval]; exact Nat.lt_of_lt_of_le hu (by decide))
    omega
  have HN := Lib.hid hnat
  clear hnat h hs hnm hval ho hlx
  go_enter Tryd.func38, Tryd.ntmps38
  go_wp2_with fail
  refine (low_any _ u _ (HN.out.below (bel_alloc _ _))).mono ?_
  rintro e w1 ⟨rfl, hb⟩
  rw [Nat.mod_eq_of_lt (by omega)]
  have HB := Lib.hid (bel_on (bel_alloc _ _) hb)
  clear hb
  go_wp2_with fail
  refine (formatUint_small u _ hu).mono ?_
  rintro e w2 ⟨rfl, rfl⟩
  go_wp2
  go_ret
  exact ⟨rfl, HB.out⟩

end Go.Proofs.YtfhilapjpabeeabDoor
