/- The law NatWords. -/
import Derived.Test.YtkcaaicpjcmdbaaDoorW8
import Derived.Test.YtkcaaicpjcmdbaaDoorSched
namespace Go.Proofs.YtkcaaicpjcmdbaaDoor
open Go.RowKit Cin

theorem shl_bound' {v n K L : Nat} (hv : v < 2 ^ 64) (hn : n ≤ K) (hK : 64 + K ≤ 32 * L) : v * 2 ^ n < pw L := by
  have h1 := Nat.mul_lt_mul_of_lt_of_le hv (Nat.pow_le_pow_right (n := 2) (by decide) hn) (Nat.pow_pos (by decide))
  refine Nat.lt_of_lt_of_le h1 ?_
  rw [pw_two, ← Nat.pow_add]
  exact Nat.pow_le_pow_right (by decide) hK
theorem shl_bound {v n : Nat} (hv : v < 18446744073709551616) (hn : n ≤ 500) : v * 2 ^ n < pw 50 := shl_bound' (L := 50) hv hn (by decide)

set_option maxRecDepth 100000 in
set_option maxHeartbeats 1000000 in
/-- The law holds of every word and every shift. -/
theorem natWords_any (v : Nat) (n : Int) (w : World) (hT : Tabs w) (hv : v < 18446744073709551616) :
    Calls Tryd.prog 10 #[.int .u64 v, .int .i64 n] w fun e w' => e = .returned (.bool true) ∧ Below w.heap.size w w' := by
  have HTT := Lib.hid hT
  clear hT
  have HV := Lib.hid hv
  clear hv
  go_enter Tryd.func10, Tryd.ntmps10
  go_wp2_with fail
  refine (of_any v w HV.out).mono ?_
  rintro e w1 ⟨v1, rfl, hn1, hb1⟩
  obtain ⟨ad, len, cap, rfl, hr1⟩ := hn1.shape
  have HN1 := Lib.hid (hn1.below (bel_alloc _ (Obj.cells #[Value.slice ad len cap] 25)))
  have HB1 := Lib.hid (bel_on hb1 (bel_alloc _ (Obj.cells #[Value.slice ad len cap] 25)))
  clear hn1 hb1 hr1
  go_wp2_with fail
  have hca : (w1.alloc (Obj.cells #[Value.slice ad len cap] 25)).cell? ⟨w1.heap.size, 0, none⟩ = some (.slice ad len cap) := cell_of (new_block _ _) 0
  have hsz : w1.heap.size < (w1.alloc (Obj.cells #[Value.slice ad len cap] 25)).heap.size := by simp
  generalize (w1.alloc (Obj.cells #[Value.slice ad len cap] 25)) = W at *
  generalize w1.heap.size = A at *
  go_loop [6, 7] (fun k u => ∃ a b : Nat, k = .int .i64 a ∧ u = .int .u64 b ∧ a ≤ 64 ∧ b = v / 2 ^ a ∧ ∀ j, IsBl b j → IsBl v (a + j)) (fun _ u => (intOf u).toNat)
  case atStart => exact ⟨0, v, rfl, rfl, by decide, by simp, fun j h => by simpa using h⟩
  case round =>
    obtain ⟨a, b, rfl, rfl, ha, hb, hbl⟩ := hrel
    have HBL := Lib.hid hbl
    have HBB := Lib.hid hb
    clear hb hbl
    rcases Nat.eq_zero_or_pos b with h0 | h0
    · subst h0
      have hk := HBL.out 0 IsBl.zero
      have HK := Lib.hid hk
      clear hk HBL HBB
      have hcase : (∃ m : Nat, n = (m : Int) ∧ m ≤ 500) ∨ ((n < 0 ∨ 500 < n) ∧ ∃ m : Nat, (64 : Int) = (m : Int) ∧ m ≤ 500) := by
        by_cases h : 0 ≤ n ∧ n ≤ 500
        · exact .inl ⟨n.toNat, by omega, by omega⟩
        · exact .inr ⟨by omega, 64, rfl, by decide⟩
      rcases hcase with ⟨m, rfl, hm⟩ | ⟨hout, m, hm64, hm⟩
      · have hn0 : decide ((m : Int) < 0) = false := by rw [decide_eq_false_iff_not]; omega
        have hn5 : decide ((500 : Int) < (m : Int)) = false := by rw [decide_eq_false_iff_not]; omega
        go_wp2_with fail
        refine (shl_any _ v m 2 W HN1.out (Nat.lt_of_lt_of_le HV.out (by decide)) (by decide)).mono ?_
        rintro e w2 ⟨v2, rfl, hs2, hb2⟩
        rw [cut_in (by omega)] at hs2
        have HS2 := Lib.hid hs2
        have HB2 := Lib.hid hb2
        clear hs2 hb2
        go_wp2_with fail
        refine (shr_any v2 (v * 2 ^ m) m 50 w2 HS2.out ?_ (by decide)).mono ?_
        · exact shl_bound HV.out hm
        rintro e w3 ⟨v3, rfl, hs3, hb3⟩
        rw [cut_in (by omega), Nat.mul_div_cancel _ (Nat.pow_pos (by decide))] at hs3
        obtain ⟨ad3, len3, cap3, rfl, hr3⟩ := hs3.shape
        have hca3 : w3.cell? ⟨A, 0, none⟩ = some (.slice ad len cap) := by rw [hb3.cell (by have := HB2.out.size; show A < _; omega), HB2.out.cell (by exact hsz)]; exact hca
        have HS3 := Lib.hid hs3
        have HB3 := Lib.hid (bel_on HB2.out hb3)
        clear hs3 hb3 hr3
        go_wp2_with fail
        have hcaX : (w3.alloc (Obj.cells #[Value.slice ad3 len3 cap3] 25)).cell? ⟨A, 0, none⟩ = some (.slice ad len cap) := by rw [(bel_alloc w3 _).cell (by have := HB3.out.size; show A < _; omega)]; exact hca3
        have hcbX : (w3.alloc (Obj.cells #[Value.slice ad3 len3 cap3] 25)).cell? ⟨w3.heap.size, 0, none⟩ = some (.slice ad3 len3 cap3) := cell_of (new_block _ _) 0
        have hXs : w3.heap.size < (w3.alloc (Obj.cells #[Value.slice ad3 len3 cap3] 25)).heap.size := by simp
        have hXA : A < (w3.alloc (Obj.cells #[Value.slice ad3 len3 cap3] 25)).heap.size := by have := HB3.out.size; simp; omega
        have HXB := Lib.hid (bel_on HB1.out (bel_on HB3.out (bel_alloc w3 (Obj.cells #[Value.slice ad3 len3 cap3] 25))))
        have HXa := Lib.hid ((HN1.out.below HB3.out).below (bel_alloc w3 (Obj.cells #[Value.slice ad3 len3 cap3] 25)))
        have HXb := Lib.hid (HS3.out.below (bel_alloc w3 (Obj.cells #[Value.slice ad3 len3 cap3] 25)))
        generalize w3.alloc (Obj.cells #[Value.slice ad3 len3 cap3] 25) = X at *
        generalize w3.heap.size = B at *
        have HTX := Lib.hid (HTT.out.below HXB.out)
        have hL2 : v < pw 2 := Nat.lt_of_lt_of_le HV.out (by decide)
        have HL2 := Lib.hid hL2
        have HKa := Lib.hid (show IsBl v a from HK.out)
        clear hL2 HK hca3 hca HS2 HS3 HB2 HB3 HN1 HTT
        by_cases hv0 : v = 0
        · have hvb : ((v : Int) == 0) = true := by simp [hv0]
          clear hv0
          refine wp_region_sched (fun w' => w'.cell? ⟨A, 0, none⟩ = some (.slice ad len cap) ∧ w'.cell? ⟨B, 0, none⟩ = some (.slice ad3 len3 cap3) ∧ Below X.heap.size X w') [(0, false), (1, true), (2, true), (4, true), (3, false), (5, true), (6, true), (7, true), (8, true), (10, true), (9, false), (11, true), (12, true), (13, true), (14, true), (15, true), (16, false), (17, true), (18, true), (19, true), (20, true), (21, true), (22, true), (23, true), (24, true), (27, true), (28, true), (25, false), (26, false), (29, false), (30, true), (31, true), (32, true), (33, true), (34, true)] (by kernel_rfl) (by kernel_rfl) ?_ (fun hHeld => ?_)
          · (try dsimp only)
            exact ⟨hcaX, hcbX, (Below.refl _ _).drew⟩
          try dsimp only at hHeld
          repeat (refine wpSched_at (by simp only [List.getElem?_toArray, List.getElem?_cons_zero, List.getElem?_cons_succ]; rfl) ?_; (first | (apply wpAt_take rfl; (intro wx hSx; (try dsimp only at hSx); go_simp; (try with_reducible rfl)); simp only [Act.put, List.setIfInBounds_toArray, List.set_cons_zero, List.set_cons_succ]) | (refine wpAt_skip rfl ?_; simp only [Act.put, List.setIfInBounds_toArray, List.set_cons_zero, List.set_cons_succ]) | (refine wpAt_pass rfl hHeld ?_; simp only [Act.put, List.setIfInBounds_toArray, List.set_cons_zero, List.set_cons_succ]) | (refine wpAt_eff rfl (fun K hK => ?_); go_simp; (first | (go_at_call 13; refine (alive_any _ (HTX.out.below (hHeld).2.2)).mono ?_; rintro e w' ⟨rfl, hb⟩; have hS := held2_step hXA hXs hHeld hb; clear hb) | (go_at_call 23; refine (low_any _ v _ (HXa.out.below (hHeld).2.2)).mono ?_; rintro e w' ⟨rfl, hb⟩; rw [Nat.mod_eq_of_lt HV.out]; have hS := held2_step hXA hXs hHeld hb; clear hb) | (go_at_call 19; refine (bits_any _ v 2 _ (HXa.out.below (hHeld).2.2) HL2.out (by decide)).mono ?_; rintro e w' ⟨k, rfl, hk, hb⟩; obtain rfl : k = a := hk.unique HKa.out; have hS := held2_step hXA hXs hHeld hb; clear hb hk) | (go_at_call 31; refine (cmp_any _ _ v v 2 _ (HXa.out.below (hHeld).2.2) (HXb.out.below (hHeld).2.2) HL2.out HL2.out (by decide)).mono ?_; rintro e w' ⟨rfl, hb⟩; rw [cmpI_self]; have hS := held2_step hXA hXs hHeld hb; clear hb)); (refine hK.out _ _ ?_ (fun hHeld => ?_)); ((try dsimp only); exact hS); clear hK K; (try clear hS); (try dsimp only at hHeld))))
          refine wpSched_nil ?_
          have HE := Lib.hid hHeld.2.2
          clear hHeld
          go_wp2
          go_ret
          exact ⟨rfl, bel_on HXB.out HE.out⟩
        · have hvb : ((v : Int) == 0) = false := by simp; omega
          have HV0 := Lib.hid hv0
          clear hv0
          refine wp_region_sched (fun w' => w'.cell? ⟨A, 0, none⟩ = some (.slice ad len cap) ∧ w'.cell? ⟨B, 0, none⟩ = some (.slice ad3 len3 cap3) ∧ Below X.heap.size X w') [(0, false), (1, true), (2, true), (4, true), (3, false), (5, true), (6, true), (7, true), (8, true), (10, true), (9, false), (11, true), (12, true), (13, true), (14, true), (15, true), (16, false), (17, true), (18, true), (19, true), (20, true), (21, true), (22, true), (23, true), (24, true), (27, true), (28, true), (25, false), (26, false), (29, false), (30, true), (31, true), (32, true), (33, true), (34, true)] (by kernel_rfl) (by kernel_rfl) ?_ (fun hHeld => ?_)
          · (try dsimp only)
            exact ⟨hcaX, hcbX, (Below.refl _ _).drew⟩
          try dsimp only at hHeld
          repeat (refine wpSched_at (by simp only [List.getElem?_toArray, List.getElem?_cons_zero, List.getElem?_cons_succ]; rfl) ?_; (first | (apply wpAt_take rfl; (intro wx hSx; (try dsimp only at hSx); go_simp; (try with_reducible rfl)); simp only [Act.put, List.setIfInBounds_toArray, List.set_cons_zero, List.set_cons_succ]) | (refine wpAt_skip rfl ?_; simp only [Act.put, List.setIfInBounds_toArray, List.set_cons_zero, List.set_cons_succ]) | (refine wpAt_pass rfl hHeld ?_; simp only [Act.put, List.setIfInBounds_toArray, List.set_cons_zero, List.set_cons_succ]) | (refine wpAt_eff rfl (fun K hK => ?_); go_simp; (first | (go_at_call 13; refine (alive_any _ (HTX.out.below (hHeld).2.2)).mono ?_; rintro e w' ⟨rfl, hb⟩; have hS := held2_step hXA hXs hHeld hb; clear hb) | (go_at_call 23; refine (low_any _ v _ (HXa.out.below (hHeld).2.2)).mono ?_; rintro e w' ⟨rfl, hb⟩; rw [Nat.mod_eq_of_lt HV.out]; have hS := held2_step hXA hXs hHeld hb; clear hb) | (go_at_call 19; refine (bits_any _ v 2 _ (HXa.out.below (hHeld).2.2) HL2.out (by decide)).mono ?_; rintro e w' ⟨k, rfl, hk, hb⟩; obtain rfl : k = a := hk.unique HKa.out; have hS := held2_step hXA hXs hHeld hb; clear hb hk) | (go_at_call 31; refine (cmp_any _ _ v v 2 _ (HXa.out.below (hHeld).2.2) (HXb.out.below (hHeld).2.2) HL2.out HL2.out (by decide)).mono ?_; rintro e w' ⟨rfl, hb⟩; rw [cmpI_self]; have hS := held2_step hXA hXs hHeld hb; clear hb) | (go_at_call 41; refine (shl_any _ v m 2 _ (HXa.out.below (hHeld).2.2) HL2.out (by decide)).mono ?_; rintro e w' ⟨vs, rfl, hsn, hb⟩; rw [cut_in (by omega)] at hsn; have HSN := Lib.hid hsn; have hS := held2_step hXA hXs hHeld hb; clear hb hsn) | (go_at_call_of 21 (vs); refine (zeros_any vs (v * 2 ^ m) 50 _ (HTX.out.below (hHeld).2.2) HSN.out (shl_bound HV.out hm) (by decide)).mono ?_; rintro e w' ⟨k1, rfl, hk1, hb⟩; have HK1 := Lib.hid hk1; have hS := held2_step hXA hXs hHeld hb; clear hb hk1) | (go_at_call 21; refine (zeros_any _ v 2 _ (HTX.out.below (hHeld).2.2) (HXa.out.below (hHeld).2.2) HL2.out (by decide)).mono ?_; rintro e w' ⟨k2, rfl, hk2, hb⟩; have hk64 : k2 < 64 := hk2.lt HV0.out HV.out; obtain rfl : k1 = m + k2 := HK1.out.unique (hk2.shl HV0.out m); have hS := held2_step hXA hXs hHeld hb; clear hb hk2)); (refine hK.out _ _ ?_ (fun hHeld => ?_)); ((try dsimp only); exact hS); clear hK K; (try clear hS); (try dsimp only at hHeld))))
          refine wpSched_nil ?_
          have HE := Lib.hid hHeld.2.2
          clear hHeld
          go_wp2
          go_ret
          exact ⟨congrArg (fun b => Ending.returned (.bool b)) (by rw [IntWalk.i64_in _ (by omega)]; exact beq_self_eq_true _), bel_on HXB.out HE.out⟩
      · rcases hout with ho | ho
        · have hn0 : decide (n < 0) = true := by rw [decide_eq_true_iff]; omega
          have HM := Lib.hid hm64
          clear hm64 ho
          go_wp2_with fail
          rw [HM.out]
          refine (shl_any _ v m 2 W HN1.out (Nat.lt_of_lt_of_le HV.out (by decide)) (by decide)).mono ?_
          rintro e w2 ⟨v2, rfl, hs2, hb2⟩
          rw [cut_in (by omega)] at hs2
          have HS2 := Lib.hid hs2
          have HB2 := Lib.hid hb2
          clear hs2 hb2
          go_wp2_with fail
          refine (shr_any v2 (v * 2 ^ m) m 50 w2 HS2.out ?_ (by decide)).mono ?_
          · exact shl_bound HV.out hm
          rintro e w3 ⟨v3, rfl, hs3, hb3⟩
          rw [cut_in (by omega), Nat.mul_div_cancel _ (Nat.pow_pos (by decide))] at hs3
          obtain ⟨ad3, len3, cap3, rfl, hr3⟩ := hs3.shape
          have hca3 : w3.cell? ⟨A, 0, none⟩ = some (.slice ad len cap) := by rw [hb3.cell (by have := HB2.out.size; show A < _; omega), HB2.out.cell (by exact hsz)]; exact hca
          have HS3 := Lib.hid hs3
          have HB3 := Lib.hid (bel_on HB2.out hb3)
          clear hs3 hb3 hr3
          go_wp2_with fail
          have hcaX : (w3.alloc (Obj.cells #[Value.slice ad3 len3 cap3] 25)).cell? ⟨A, 0, none⟩ = some (.slice ad len cap) := by rw [(bel_alloc w3 _).cell (by have := HB3.out.size; show A < _; omega)]; exact hca3
          have hcbX : (w3.alloc (Obj.cells #[Value.slice ad3 len3 cap3] 25)).cell? ⟨w3.heap.size, 0, none⟩ = some (.slice ad3 len3 cap3) := cell_of (new_block _ _) 0
          have hXs : w3.heap.size < (w3.alloc (Obj.cells #[Value.slice ad3 len3 cap3] 25)).heap.size := by simp
          have hXA : A < (w3.alloc (Obj.cells #[Value.slice ad3 len3 cap3] 25)).heap.size := by have := HB3.out.size; simp; omega
          have HXB := Lib.hid (bel_on HB1.out (bel_on HB3.out (bel_alloc w3 (Obj.cells #[Value.slice ad3 len3 cap3] 25))))
          have HXa := Lib.hid ((HN1.out.below HB3.out).below (bel_alloc w3 (Obj.cells #[Value.slice ad3 len3 cap3] 25)))
          have HXb := Lib.hid (HS3.out.below (bel_alloc w3 (Obj.cells #[Value.slice ad3 len3 cap3] 25)))
          generalize w3.alloc (Obj.cells #[Value.slice ad3 len3 cap3] 25) = X at *
          generalize w3.heap.size = B at *
          have HTX := Lib.hid (HTT.out.below HXB.out)
          have hL2 : v < pw 2 := Nat.lt_of_lt_of_le HV.out (by decide)
          have HL2 := Lib.hid hL2
          have HKa := Lib.hid (show IsBl v a from HK.out)
          clear hL2 HK hca3 hca HS2 HS3 HB2 HB3 HN1 HTT
          by_cases hv0 : v = 0
          · have hvb : ((v : Int) == 0) = true := by simp [hv0]
            clear hv0
            refine wp_region_sched (fun w' => w'.cell? ⟨A, 0, none⟩ = some (.slice ad len cap) ∧ w'.cell? ⟨B, 0, none⟩ = some (.slice ad3 len3 cap3) ∧ Below X.heap.size X w') [(0, false), (1, true), (2, true), (4, true), (3, false), (5, true), (6, true), (7, true), (8, true), (10, true), (9, false), (11, true), (12, true), (13, true), (14, true), (15, true), (16, false), (17, true), (18, true), (19, true), (20, true), (21, true), (22, true), (23, true), (24, true), (27, true), (28, true), (25, false), (26, false), (29, false), (30, true), (31, true), (32, true), (33, true), (34, true)] (by kernel_rfl) (by kernel_rfl) ?_ (fun hHeld => ?_)
            · (try dsimp only)
              exact ⟨hcaX, hcbX, (Below.refl _ _).drew⟩
            try dsimp only at hHeld
            repeat (refine wpSched_at (by simp only [List.getElem?_toArray, List.getElem?_cons_zero, List.getElem?_cons_succ]; rfl) ?_; (first | (apply wpAt_take rfl; (intro wx hSx; (try dsimp only at hSx); go_simp; (try with_reducible rfl)); simp only [Act.put, List.setIfInBounds_toArray, List.set_cons_zero, List.set_cons_succ]) | (refine wpAt_skip rfl ?_; simp only [Act.put, List.setIfInBounds_toArray, List.set_cons_zero, List.set_cons_succ]) | (refine wpAt_pass rfl hHeld ?_; simp only [Act.put, List.setIfInBounds_toArray, List.set_cons_zero, List.set_cons_succ]) | (refine wpAt_eff rfl (fun K hK => ?_); go_simp; (first | (go_at_call 13; refine (alive_any _ (HTX.out.below (hHeld).2.2)).mono ?_; rintro e w' ⟨rfl, hb⟩; have hS := held2_step hXA hXs hHeld hb; clear hb) | (go_at_call 23; refine (low_any _ v _ (HXa.out.below (hHeld).2.2)).mono ?_; rintro e w' ⟨rfl, hb⟩; rw [Nat.mod_eq_of_lt HV.out]; have hS := held2_step hXA hXs hHeld hb; clear hb) | (go_at_call 19; refine (bits_any _ v 2 _ (HXa.out.below (hHeld).2.2) HL2.out (by decide)).mono ?_; rintro e w' ⟨k, rfl, hk, hb⟩; obtain rfl : k = a := hk.unique HKa.out; have hS := held2_step hXA hXs hHeld hb; clear hb hk) | (go_at_call 31; refine (cmp_any _ _ v v 2 _ (HXa.out.below (hHeld).2.2) (HXb.out.below (hHeld).2.2) HL2.out HL2.out (by decide)).mono ?_; rintro e w' ⟨rfl, hb⟩; rw [cmpI_self]; have hS := held2_step hXA hXs hHeld hb; clear hb)); (refine hK.out _ _ ?_ (fun hHeld => ?_)); ((try dsimp only); exact hS); clear hK K; (try clear hS); (try dsimp only at hHeld))))
            refine wpSched_nil ?_
            have HE := Lib.hid hHeld.2.2
            clear hHeld
            go_wp2
            go_ret
            exact ⟨rfl, bel_on HXB.out HE.out⟩
          · have hvb : ((v : Int) == 0) = false := by simp; omega
            have HV0 := Lib.hid hv0
            clear hv0
            refine wp_region_sched (fun w' => w'.cell? ⟨A, 0, none⟩ = some (.slice ad len cap) ∧ w'.cell? ⟨B, 0, none⟩ = some (.slice ad3 len3 cap3) ∧ Below X.heap.size X w') [(0, false), (1, true), (2, true), (4, true), (3, false), (5, true), (6, true), (7, true), (8, true), (10, true), (9, false), (11, true), (12, true), (13, true), (14, true), (15, true), (16, false), (17, true), (18, true), (19, true), (20, true), (21, true), (22, true), (23, true), (24, true), (27, true), (28, true), (25, false), (26, false), (29, false), (30, true), (31, true), (32, true), (33, true), (34, true)] (by kernel_rfl) (by kernel_rfl) ?_ (fun hHeld => ?_)
            · (try dsimp only)
              exact ⟨hcaX, hcbX, (Below.refl _ _).drew⟩
            try dsimp only at hHeld
            repeat (refine wpSched_at (by simp only [List.getElem?_toArray, List.getElem?_cons_zero, List.getElem?_cons_succ]; rfl) ?_; (first | (apply wpAt_take rfl; (intro wx hSx; (try dsimp only at hSx); go_simp; (try with_reducible rfl)); simp only [Act.put, List.setIfInBounds_toArray, List.set_cons_zero, List.set_cons_succ]) | (refine wpAt_skip rfl ?_; simp only [Act.put, List.setIfInBounds_toArray, List.set_cons_zero, List.set_cons_succ]) | (refine wpAt_pass rfl hHeld ?_; simp only [Act.put, List.setIfInBounds_toArray, List.set_cons_zero, List.set_cons_succ]) | (refine wpAt_eff rfl (fun K hK => ?_); go_simp; (first | (go_at_call 13; refine (alive_any _ (HTX.out.below (hHeld).2.2)).mono ?_; rintro e w' ⟨rfl, hb⟩; have hS := held2_step hXA hXs hHeld hb; clear hb) | (go_at_call 23; refine (low_any _ v _ (HXa.out.below (hHeld).2.2)).mono ?_; rintro e w' ⟨rfl, hb⟩; rw [Nat.mod_eq_of_lt HV.out]; have hS := held2_step hXA hXs hHeld hb; clear hb) | (go_at_call 19; refine (bits_any _ v 2 _ (HXa.out.below (hHeld).2.2) HL2.out (by decide)).mono ?_; rintro e w' ⟨k, rfl, hk, hb⟩; obtain rfl : k = a := hk.unique HKa.out; have hS := held2_step hXA hXs hHeld hb; clear hb hk) | (go_at_call 31; refine (cmp_any _ _ v v 2 _ (HXa.out.below (hHeld).2.2) (HXb.out.below (hHeld).2.2) HL2.out HL2.out (by decide)).mono ?_; rintro e w' ⟨rfl, hb⟩; rw [cmpI_self]; have hS := held2_step hXA hXs hHeld hb; clear hb) | (go_at_call 41; refine (shl_any _ v m 2 _ (HXa.out.below (hHeld).2.2) HL2.out (by decide)).mono ?_; rintro e w' ⟨vs, rfl, hsn, hb⟩; rw [cut_in (by omega)] at hsn; have HSN := Lib.hid hsn; have hS := held2_step hXA hXs hHeld hb; clear hb hsn) | (go_at_call_of 21 (vs); refine (zeros_any vs (v * 2 ^ m) 50 _ (HTX.out.below (hHeld).2.2) HSN.out (shl_bound HV.out hm) (by decide)).mono ?_; rintro e w' ⟨k1, rfl, hk1, hb⟩; have HK1 := Lib.hid hk1; have hS := held2_step hXA hXs hHeld hb; clear hb hk1) | (go_at_call 21; refine (zeros_any _ v 2 _ (HTX.out.below (hHeld).2.2) (HXa.out.below (hHeld).2.2) HL2.out (by decide)).mono ?_; rintro e w' ⟨k2, rfl, hk2, hb⟩; have hk64 : k2 < 64 := hk2.lt HV0.out HV.out; obtain rfl : k1 = m + k2 := HK1.out.unique (hk2.shl HV0.out m); have hS := held2_step hXA hXs hHeld hb; clear hb hk2)); (refine hK.out _ _ ?_ (fun hHeld => ?_)); ((try dsimp only); exact hS); clear hK K; (try clear hS); (try dsimp only at hHeld))))
            refine wpSched_nil ?_
            have HE := Lib.hid hHeld.2.2
            clear hHeld
            go_wp2
            go_ret
            exact ⟨congrArg (fun b => Ending.returned (.bool b)) (by rw [IntWalk.i64_in _ (by omega)]; exact beq_self_eq_true _), bel_on HXB.out HE.out⟩
        · have hn0 : decide (n < 0) = false := by rw [decide_eq_false_iff_not]; omega
          have hn5 : decide ((500 : Int) < n) = true := by rw [decide_eq_true_iff]; omega
          have HM := Lib.hid hm64
          clear hm64 ho
          go_wp2_with fail
          rw [HM.out]
          refine (shl_any _ v m 2 W HN1.out (Nat.lt_of_lt_of_le HV.out (by decide)) (by decide)).mono ?_
          rintro e w2 ⟨v2, rfl, hs2, hb2⟩
          rw [cut_in (by omega)] at hs2
          have HS2 := Lib.hid hs2
          have HB2 := Lib.hid hb2
          clear hs2 hb2
          go_wp2_with fail
          refine (shr_any v2 (v * 2 ^ m) m 50 w2 HS2.out ?_ (by decide)).mono ?_
          · exact shl_bound HV.out hm
          rintro e w3 ⟨v3, rfl, hs3, hb3⟩
          rw [cut_in (by omega), Nat.mul_div_cancel _ (Nat.pow_pos (by decide))] at hs3
          obtain ⟨ad3, len3, cap3, rfl, hr3⟩ := hs3.shape
          have hca3 : w3.cell? ⟨A, 0, none⟩ = some (.slice ad len cap) := by rw [hb3.cell (by have := HB2.out.size; show A < _; omega), HB2.out.cell (by exact hsz)]; exact hca
          have HS3 := Lib.hid hs3
          have HB3 := Lib.hid (bel_on HB2.out hb3)
          clear hs3 hb3 hr3
          go_wp2_with fail
          have hcaX : (w3.alloc (Obj.cells #[Value.slice ad3 len3 cap3] 25)).cell? ⟨A, 0, none⟩ = some (.slice ad len cap) := by rw [(bel_alloc w3 _).cell (by have := HB3.out.size; show A < _; omega)]; exact hca3
          have hcbX : (w3.alloc (Obj.cells #[Value.slice ad3 len3 cap3] 25)).cell? ⟨w3.heap.size, 0, none⟩ = some (.slice ad3 len3 cap3) := cell_of (new_block _ _) 0
          have hXs : w3.heap.size < (w3.alloc (Obj.cells #[Value.slice ad3 len3 cap3] 25)).heap.size := by simp
          have hXA : A < (w3.alloc (Obj.cells #[Value.slice ad3 len3 cap3] 25)).heap.size := by have := HB3.out.size; simp; omega
          have HXB := Lib.hid (bel_on HB1.out (bel_on HB3.out (bel_alloc w3 (Obj.cells #[Value.slice ad3 len3 cap3] 25))))
          have HXa := Lib.hid ((HN1.out.below HB3.out).below (bel_alloc w3 (Obj.cells #[Value.slice ad3 len3 cap3] 25)))
          have HXb := Lib.hid (HS3.out.below (bel_alloc w3 (Obj.cells #[Value.slice ad3 len3 cap3] 25)))
          generalize w3.alloc (Obj.cells #[Value.slice ad3 len3 cap3] 25) = X at *
          generalize w3.heap.size = B at *
          have HTX := Lib.hid (HTT.out.below HXB.out)
          have hL2 : v < pw 2 := Nat.lt_of_lt_of_le HV.out (by decide)
          have HL2 := Lib.hid hL2
          have HKa := Lib.hid (show IsBl v a from HK.out)
          clear hL2 HK hca3 hca HS2 HS3 HB2 HB3 HN1 HTT
          by_cases hv0 : v = 0
          · have hvb : ((v : Int) == 0) = true := by simp [hv0]
            clear hv0
            refine wp_region_sched (fun w' => w'.cell? ⟨A, 0, none⟩ = some (.slice ad len cap) ∧ w'.cell? ⟨B, 0, none⟩ = some (.slice ad3 len3 cap3) ∧ Below X.heap.size X w') [(0, false), (1, true), (2, true), (4, true), (3, false), (5, true), (6, true), (7, true), (8, true), (10, true), (9, false), (11, true), (12, true), (13, true), (14, true), (15, true), (16, false), (17, true), (18, true), (19, true), (20, true), (21, true), (22, true), (23, true), (24, true), (27, true), (28, true), (25, false), (26, false), (29, false), (30, true), (31, true), (32, true), (33, true), (34, true)] (by kernel_rfl) (by kernel_rfl) ?_ (fun hHeld => ?_)
            · (try dsimp only)
              exact ⟨hcaX, hcbX, (Below.refl _ _).drew⟩
            try dsimp only at hHeld
            repeat (refine wpSched_at (by simp only [List.getElem?_toArray, List.getElem?_cons_zero, List.getElem?_cons_succ]; rfl) ?_; (first | (apply wpAt_take rfl; (intro wx hSx; (try dsimp only at hSx); go_simp; (try with_reducible rfl)); simp only [Act.put, List.setIfInBounds_toArray, List.set_cons_zero, List.set_cons_succ]) | (refine wpAt_skip rfl ?_; simp only [Act.put, List.setIfInBounds_toArray, List.set_cons_zero, List.set_cons_succ]) | (refine wpAt_pass rfl hHeld ?_; simp only [Act.put, List.setIfInBounds_toArray, List.set_cons_zero, List.set_cons_succ]) | (refine wpAt_eff rfl (fun K hK => ?_); go_simp; (first | (go_at_call 13; refine (alive_any _ (HTX.out.below (hHeld).2.2)).mono ?_; rintro e w' ⟨rfl, hb⟩; have hS := held2_step hXA hXs hHeld hb; clear hb) | (go_at_call 23; refine (low_any _ v _ (HXa.out.below (hHeld).2.2)).mono ?_; rintro e w' ⟨rfl, hb⟩; rw [Nat.mod_eq_of_lt HV.out]; have hS := held2_step hXA hXs hHeld hb; clear hb) | (go_at_call 19; refine (bits_any _ v 2 _ (HXa.out.below (hHeld).2.2) HL2.out (by decide)).mono ?_; rintro e w' ⟨k, rfl, hk, hb⟩; obtain rfl : k = a := hk.unique HKa.out; have hS := held2_step hXA hXs hHeld hb; clear hb hk) | (go_at_call 31; refine (cmp_any _ _ v v 2 _ (HXa.out.below (hHeld).2.2) (HXb.out.below (hHeld).2.2) HL2.out HL2.out (by decide)).mono ?_; rintro e w' ⟨rfl, hb⟩; rw [cmpI_self]; have hS := held2_step hXA hXs hHeld hb; clear hb)); (refine hK.out _ _ ?_ (fun hHeld => ?_)); ((try dsimp only); exact hS); clear hK K; (try clear hS); (try dsimp only at hHeld))))
            refine wpSched_nil ?_
            have HE := Lib.hid hHeld.2.2
            clear hHeld
            go_wp2
            go_ret
            exact ⟨rfl, bel_on HXB.out HE.out⟩
          · have hvb : ((v : Int) == 0) = false := by simp; omega
            have HV0 := Lib.hid hv0
            clear hv0
            refine wp_region_sched (fun w' => w'.cell? ⟨A, 0, none⟩ = some (.slice ad len cap) ∧ w'.cell? ⟨B, 0, none⟩ = some (.slice ad3 len3 cap3) ∧ Below X.heap.size X w') [(0, false), (1, true), (2, true), (4, true), (3, false), (5, true), (6, true), (7, true), (8, true), (10, true), (9, false), (11, true), (12, true), (13, true), (14, true), (15, true), (16, false), (17, true), (18, true), (19, true), (20, true), (21, true), (22, true), (23, true), (24, true), (27, true), (28, true), (25, false), (26, false), (29, false), (30, true), (31, true), (32, true), (33, true), (34, true)] (by kernel_rfl) (by kernel_rfl) ?_ (fun hHeld => ?_)
            · (try dsimp only)
              exact ⟨hcaX, hcbX, (Below.refl _ _).drew⟩
            try dsimp only at hHeld
            repeat (refine wpSched_at (by simp only [List.getElem?_toArray, List.getElem?_cons_zero, List.getElem?_cons_succ]; rfl) ?_; (first | (apply wpAt_take rfl; (intro wx hSx; (try dsimp only at hSx); go_simp; (try with_reducible rfl)); simp only [Act.put, List.setIfInBounds_toArray, List.set_cons_zero, List.set_cons_succ]) | (refine wpAt_skip rfl ?_; simp only [Act.put, List.setIfInBounds_toArray, List.set_cons_zero, List.set_cons_succ]) | (refine wpAt_pass rfl hHeld ?_; simp only [Act.put, List.setIfInBounds_toArray, List.set_cons_zero, List.set_cons_succ]) | (refine wpAt_eff rfl (fun K hK => ?_); go_simp; (first | (go_at_call 13; refine (alive_any _ (HTX.out.below (hHeld).2.2)).mono ?_; rintro e w' ⟨rfl, hb⟩; have hS := held2_step hXA hXs hHeld hb; clear hb) | (go_at_call 23; refine (low_any _ v _ (HXa.out.below (hHeld).2.2)).mono ?_; rintro e w' ⟨rfl, hb⟩; rw [Nat.mod_eq_of_lt HV.out]; have hS := held2_step hXA hXs hHeld hb; clear hb) | (go_at_call 19; refine (bits_any _ v 2 _ (HXa.out.below (hHeld).2.2) HL2.out (by decide)).mono ?_; rintro e w' ⟨k, rfl, hk, hb⟩; obtain rfl : k = a := hk.unique HKa.out; have hS := held2_step hXA hXs hHeld hb; clear hb hk) | (go_at_call 31; refine (cmp_any _ _ v v 2 _ (HXa.out.below (hHeld).2.2) (HXb.out.below (hHeld).2.2) HL2.out HL2.out (by decide)).mono ?_; rintro e w' ⟨rfl, hb⟩; rw [cmpI_self]; have hS := held2_step hXA hXs hHeld hb; clear hb) | (go_at_call 41; refine (shl_any _ v m 2 _ (HXa.out.below (hHeld).2.2) HL2.out (by decide)).mono ?_; rintro e w' ⟨vs, rfl, hsn, hb⟩; rw [cut_in (by omega)] at hsn; have HSN := Lib.hid hsn; have hS := held2_step hXA hXs hHeld hb; clear hb hsn) | (go_at_call_of 21 (vs); refine (zeros_any vs (v * 2 ^ m) 50 _ (HTX.out.below (hHeld).2.2) HSN.out (shl_bound HV.out hm) (by decide)).mono ?_; rintro e w' ⟨k1, rfl, hk1, hb⟩; have HK1 := Lib.hid hk1; have hS := held2_step hXA hXs hHeld hb; clear hb hk1) | (go_at_call 21; refine (zeros_any _ v 2 _ (HTX.out.below (hHeld).2.2) (HXa.out.below (hHeld).2.2) HL2.out (by decide)).mono ?_; rintro e w' ⟨k2, rfl, hk2, hb⟩; have hk64 : k2 < 64 := hk2.lt HV0.out HV.out; obtain rfl : k1 = m + k2 := HK1.out.unique (hk2.shl HV0.out m); have hS := held2_step hXA hXs hHeld hb; clear hb hk2)); (refine hK.out _ _ ?_ (fun hHeld => ?_)); ((try dsimp only); exact hS); clear hK K; (try clear hS); (try dsimp only at hHeld))))
            refine wpSched_nil ?_
            have HE := Lib.hid hHeld.2.2
            clear hHeld
            go_wp2
            go_ret
            exact ⟨congrArg (fun b => Ending.returned (.bool b)) (by rw [IntWalk.i64_in _ (by omega)]; exact beq_self_eq_true _), bel_on HXB.out HE.out⟩
    · have ha2 : a < 64 := by
        rcases Nat.lt_or_ge a 64 with h | h
        · exact h
        · have := Nat.div_eq_of_lt (a := v) (b := 2 ^ a) (Nat.lt_of_lt_of_le HV.out (Nat.pow_le_pow_right (n := 2) (by decide) h))
          have := HBB.out
          omega
      obtain ⟨c, hd, ec⟩ : ∃ c : Nat, ((b : Int) / 2) = (c : Int) ∧ c = b / 2 := ⟨b / 2, by omega, rfl⟩
      have EC := Lib.hid ec
      clear ec
      go_wp2
      have ec := EC.out
      refine ⟨⟨a + 1, c, by go_num, rfl, by omega, ?_, fun j hj => ?_⟩, by simp only [intOf]; omega⟩
      · rw [ec, HBB.out, Nat.pow_succ, Nat.div_div_eq_div_mul]
      · rw [ec] at hj
        have := HBL.out (j + 1) (hj.half (by omega))
        rwa [show a + 1 + j = a + (j + 1) by omega]

end Go.Proofs.YtkcaaicpjcmdbaaDoor
