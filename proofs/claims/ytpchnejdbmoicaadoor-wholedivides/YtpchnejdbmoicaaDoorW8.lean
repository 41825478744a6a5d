/- alive: a first call whose answer the document fixes. -/
import Derived.Test.YtpchnejdbmoicaaDoorW7
import Derived.Test.YtpchnejdbmoicaaDoorW3
namespace Go.Proofs.YtpchnejdbmoicaaDoor
open Go.RowKit Cin

set_option maxHeartbeats 400000 in
theorem formatUintI_small (u : Nat) (w : World) (h : u < 100) :
    Calls Tryd.prog 86 #[.int .u64 u, .int .i64 10] w fun e w' => e = .returned (.string ⟨(Lib.decDigits u).toArray⟩) ∧ w = w' := by
  go_enter Tryd.func86, Tryd.ntmps86
  go_wp2_with (go_at_call 97; refine (Tryd.internal_strconv_small u h _).mono ?_; rintro e w' ⟨rfl, rfl⟩)
  go_ret
  exact ⟨rfl, rfl⟩

set_option maxHeartbeats 400000 in
theorem formatUint_small (u : Nat) (w : World) (h : u < 100) :
    Calls Tryd.prog 50 #[.int .u64 u, .int .i64 10] w fun e w' => e = .returned (.string ⟨(Lib.decDigits u).toArray⟩) ∧ w = w' := by
  go_enter Tryd.func50, Tryd.ntmps50
  go_wp2_with fail
  refine (formatUintI_small u _ h).mono ?_
  rintro e w' ⟨rfl, rfl⟩
  go_wp2
  go_ret
  exact ⟨rfl, rfl⟩

set_option maxHeartbeats 400000 in
theorem text_small (v : Value) (u : Nat) (w : World) (h : NatV 68 w v u) (hu : u < 100) :
    Calls Tryd.prog 12 #[v] w fun e w' => e = .returned (.string ⟨(Lib.decDigits u).toArray⟩) ∧ Below w.heap.size w w' := by
  have hnat := h
  obtain ⟨ad, len, cap, rfl, xs, hs, ho, hnm, hval⟩ := h.shape
  have hlx := hs.len
  have hl : len ≤ 1 := by
    have := norm_len (m := 1) hnm (by rw [hval]; exact Nat.lt_of_lt_of_le hu (by decide))
    omega
  have HN := Lib.hid hnat
  clear hnat h hs hnm hval ho hlx
  go_enter Tryd.func12, Tryd.ntmps12
  go_wp2_with fail
  refine (low_any _ u _ (HN.out.below (bel_alloc _ _))).mono ?_
  rintro e w1 ⟨rfl, hb⟩
  rw [Nat.mod_eq_of_lt (by omega)]
  have HB := Lib.hid (bel_on (bel_alloc _ _) hb)
  clear hb
  go_wp2_with fail
  refine (formatUint_small u _ hu).mono ?_
  rintro e w2 ⟨rfl, rfl⟩
  go_wp2
  go_ret
  exact ⟨rfl, HB.out⟩

set_option maxRecDepth 100000 in
set_option maxHeartbeats 400000 in
theorem alive_any (w : World) (hT : Tabs w) :
    Calls Tryd.prog 9 #[] w fun e w' => e = .returned (.bool true) ∧ Below w.heap.size w w' := by
  go_enter Tryd.func9, Tryd.ntmps9
  go_wp2_with fail
  have h3 := of_any 3 w (by decide)
  refine h3.mono ?_
  rintro e w1 ⟨v1, rfl, hn1, hb1⟩
  have HN1 := Lib.hid hn1
  have HB1 := Lib.hid hb1
  clear hn1 hb1 h3
  go_wp2_with fail
  refine (shl_any v1 3 70 1 w1 HN1.out (by decide) (by decide)).mono ?_
  rintro e w2 ⟨v2, rfl, hn2, hb2⟩
  rw [show cut 70 = 70 by decide] at hn2
  obtain ⟨ad, len, cap, rfl, hr2⟩ := hn2.shape
  have HN2 := Lib.hid hn2
  have HB2 := Lib.hid (bel_on HB1.out hb2)
  clear hn2 hb2 hr2
  go_wp2_with fail
  refine (bits_any _ (3 * 2 ^ 70) 3 _ (HN2.out.below (bel_alloc _ _)) (by decide) (by decide)).mono ?_
  rintro e w3 ⟨k, rfl, hk, hb3⟩
  obtain rfl : k = 72 := hk.unique ⟨by decide, .inr (by decide)⟩
  have hc3 : w3.cell? ⟨w2.heap.size, 0, none⟩ = some (.slice ad len cap) := by rw [hb3.cell (by simp)]; exact cell_of (new_block _ _) 0
  have HN3 := Lib.hid ((HN2.out.below (bel_alloc _ _)).below hb3)
  have HB3 := Lib.hid (bel_on HB2.out (bel_on (bel_alloc _ _) hb3))
  clear hk hb3
  go_wp2_with fail
  refine (zeros_any _ (3 * 2 ^ 70) 3 _ (hT.below HB3.out) HN3.out (by decide) (by decide)).mono ?_
  rintro e w4 ⟨k, rfl, hk, hb4⟩
  obtain rfl : k = 70 := hk.unique (.inr ⟨1, by decide⟩)
  have HB4 := Lib.hid (bel_on HB3.out hb4)
  clear hk hb4
  go_wp2_with fail
  have h7 := of_any 7 w4 (by decide)
  refine h7.mono ?_
  rintro e w5 ⟨v5, rfl, hn5, hb5⟩
  have HN5 := Lib.hid hn5
  have HB5 := Lib.hid (bel_on HB4.out hb5)
  clear h7 hn5 hb5
  go_wp2_with fail
  refine (text_small v5 7 w5 HN5.out (by decide)).mono ?_
  rintro e w6 ⟨rfl, hb6⟩
  have hd : Lib.decDigits 7 = [55] := by unfold Lib.decDigits; rfl
  rw [hd]
  have HB6 := Lib.hid (bel_on HB5.out hb6)
  clear hd hb6
  go_wp2
  go_ret
  exact ⟨rfl, HB6.out⟩

end Go.Proofs.YtpchnejdbmoicaaDoor
