/- The law NatLengths. -/
import Derived.Test.YtkcaaicpjcmdbaaDoorW8
import Derived.Test.YtkcaaicpjcmdbaaDoorWM
import Derived.Test.YtkcaaicpjcmdbaaDoorWU
import Derived.Test.YtkcaaicpjcmdbaaDoorWB
namespace Go.Proofs.YtkcaaicpjcmdbaaDoor
open Go.RowKit Cin

theorem isBl_ex (n : Nat) : ∃ k, IsBl n k := by
  by_cases h : n = 0
  · exact ⟨0, by rw [h]; exact IsBl.zero⟩
  · exact ⟨n.log2 + 1, Nat.lt_log2_self, .inr (by rw [Nat.add_sub_cancel]; exact Nat.log2_self_le h)⟩
theorem isTz_ex (n : Nat) : ∃ k, IsTz n k := by
  induction n using Nat.strongRecOn with
  | _ n ih =>
    by_cases h : n = 0
    · exact ⟨0, .inl ⟨h, rfl⟩⟩
    · rcases Nat.mod_two_eq_zero_or_one n with h0 | h1
      · obtain ⟨k, hk⟩ := ih (n / 2) (by omega)
        rcases hk with ⟨hz, _⟩ | ⟨m, hm⟩
        · omega
        · exact ⟨k + 1, .inr ⟨m, by rw [Nat.pow_succ, Nat.mul_right_comm, ← hm]; omega⟩⟩
      · exact ⟨0, .inr ⟨n / 2, by omega⟩⟩
theorem bl_product {x y a b c : Nat} (hx : 1 ≤ x) (hy : 1 ≤ y) (ha : IsBl x a) (hb : IsBl y b) (hc : IsBl (x * y) c) : c = a + b ∨ c + 1 = a + b := by
  have a0 : 1 ≤ a := by rcases Nat.eq_zero_or_pos a with h | h; · rw [h] at ha; have := ha.1; omega
                        · exact h
  have b0 : 1 ≤ b := by rcases Nat.eq_zero_or_pos b with h | h; · rw [h] at hb; have := hb.1; omega
                        · exact h
  have c0 : 1 ≤ c := by
    rcases Nat.eq_zero_or_pos c with h | h
    · rw [h] at hc; have h1 := hc.1; have h2 := Nat.mul_pos hx hy; omega
    · exact h
  have u : x * y < 2 ^ (a + b) := by rw [Nat.pow_add]; exact Nat.mul_lt_mul'' ha.1 hb.1
  have l : 2 ^ (a - 1 + (b - 1)) ≤ x * y := by rw [Nat.pow_add]; exact Nat.mul_le_mul (ha.2.resolve_left (by omega)) (hb.2.resolve_left (by omega))
  have h1 := (Nat.pow_lt_pow_iff_right (a := 2) (by decide)).1 (Nat.lt_of_le_of_lt (hc.2.resolve_left (by omega)) u)
  have h2 := (Nat.pow_lt_pow_iff_right (a := 2) (by decide)).1 (Nat.lt_of_le_of_lt l hc.1)
  omega
theorem tz_product {x y a b : Nat} (hx : 1 ≤ x) (hy : 1 ≤ y) (ha : IsTz x a) (hb : IsTz y b) : IsTz (x * y) (a + b) := by
  rcases ha with ⟨h, _⟩ | ⟨m, rfl⟩
  · omega
  · rcases hb with ⟨h, _⟩ | ⟨n, rfl⟩
    · omega
    · refine .inr ⟨2 * (m * n) + m + n, ?_⟩
      have e1 : 2 * m * (2 * n) = 2 * (2 * (m * n)) := by ac_rfl
      have e2 : 2 * (2 * (m * n) + m + n) + 1 = (2 * m + 1) * (2 * n + 1) := by
        simp only [Nat.mul_add, Nat.add_mul, Nat.mul_one, Nat.one_mul]
        omega
      rw [Nat.pow_add, e2]
      ac_rfl
theorem bl_small {x a : Nat} (hx : x < pw 21) (ha : IsBl x a) : a ≤ 672 := by
  rcases ha.2 with h | h
  · omega
  · rw [pw_two] at hx
    have := (Nat.pow_lt_pow_iff_right (a := 2) (by decide)).1 (Nat.lt_of_le_of_lt h hx)
    omega
theorem tz_small {x a : Nat} (hx : x < pw 21) (h1 : 1 ≤ x) (ha : IsTz x a) : a ≤ 672 := by
  rw [pw_two] at hx
  have h := ha.lt (m := 32 * 21) (Nat.ne_of_gt h1) hx
  clear hx
  omega

theorem len_pos {t : TypeId} {w : World} {v : Value} {xs : List Nat} {n l c : Nat} (h : Sl t .u32 w v xs ∧ Ok xs ∧ Norm xs ∧ val xs = n ∧ xs.length = l ∧ l ≤ c) (hl : l ≠ 0) : 1 ≤ n := by
  rcases Nat.eq_zero_or_pos n with h0 | h0
  · have := norm_val_zero h.2.2.1 (h.2.2.2.1.trans h0)
    have hl' := h.2.2.2.2.1
    rw [this] at hl'
    exact absurd hl'.symm hl
  · exact h0

set_option maxRecDepth 100000 in
set_option maxHeartbeats 4000000 in
/-- The law holds of every two texts. -/
theorem natLengths_any (a b : ByteArray) (w : World) (hT : Tabs w) :
    Calls Tryd.prog 12 #[.string a, .string b] w fun e w' => e = .returned (.bool true) ∧ Below w.heap.size w w' := by
  have HTT := Lib.hid hT
  clear hT
  go_enter Tryd.func12, Tryd.ntmps12
  go_wp2_with fail
  refine (alive_any _ HTT.out).mono ?_
  rintro e w1 ⟨rfl, hb1⟩
  have HB1 := Lib.hid hb1
  clear hb1
  go_wp2_with fail
  refine (pair_any a b _).mono ?_
  rintro e w2 (⟨hok, p, q, xv, yv, rfl, hp, hq, hx, hy, hb2⟩ | ⟨hno, rfl, hb2⟩)
  · obtain ⟨adp, lp, cp, xsp, rfl, rp⟩ := hp.shape
    obtain ⟨adq, lq, cq, xsq, rfl, rq⟩ := hq.shape
    obtain ⟨adx, lx, cx, xsx, rfl, rx⟩ := hx.shape
    obtain ⟨ady, ly, cy, xsy, rfl, ry⟩ := hy.shape
    have HP2 := Lib.hid (show NatV 61 w2 (.agg #[.slice adp lp cp]) (decL (byts a)) from ⟨_, rfl, hp⟩)
    have HQ2 := Lib.hid (show NatV 61 w2 (.agg #[.slice adq lq cq]) (decL (byts b)) from ⟨_, rfl, hq⟩)
    have HP := Lib.hid (decL_lt_pw hok.1.2.2.2 (by rw [byts_length]; exact hok.2.2.1))
    have HQ := Lib.hid (decL_lt_pw hok.2.1.2.2.2 (by rw [byts_length]; exact hok.2.2.2))
    have HB2 := Lib.hid (bel_on HB1.out hb2)
    have HLx := Lib.hid (show lx ≠ 0 → 1 ≤ decL (byts a) from fun h => len_pos rx h)
    have HLy := Lib.hid (show ly ≠ 0 → 1 ≤ decL (byts b) from fun h => len_pos ry h)
    clear hok hp hq hx hy hb2 rp rq rx ry HB1
    by_cases h0 : lx = 0
    · subst h0
      clear HLx HLy HP2 HP HQ2 HQ
      go_wp2_with fail
      go_ret
      exact ⟨rfl, bel_on HB2.out (bel_alloc2 _ _ _)⟩
    · have e0 : ((lx : Int) == 0) = false := beq_eq_false_iff_ne.2 (by omega)
      have X1 := Lib.hid (HLx.out h0)
      clear HLx h0
      by_cases h1 : ly = 0
      · subst h1
        clear HLy HP2 HP HQ2 HQ X1
        go_wp2_with fail
        go_ret
        exact ⟨rfl, bel_on HB2.out (bel_alloc2 _ _ _)⟩
      · have e1 : ((ly : Int) == 0) = false := beq_eq_false_iff_ne.2 (by omega)
        have Y1 := Lib.hid (HLy.out h1)
        clear HLy h1
        go_wp2_with fail
        have hbX := bel_alloc2 w2 (Obj.cells #[Value.slice adp lp cp] 25) (Obj.cells #[Value.slice adq lq cq] 25)
        have hc0 := cell_of (new_block2 w2 (Obj.cells #[Value.slice adp lp cp] 25) (Obj.cells #[Value.slice adq lq cq] 25)) 0
        have hc1 := cell_of (nb21 w2 (Obj.cells #[Value.slice adp lp cp] 25) (Obj.cells #[Value.slice adq lq cq] 25)) 0
        have hsz : w2.heap.size + 1 < ((w2.alloc (Obj.cells #[Value.slice adp lp cp] 25)).alloc (Obj.cells #[Value.slice adq lq cq] 25)).heap.size := by simp
        simp only [List.getElem?_toArray, List.getElem?_cons_zero] at hc0 hc1
        generalize (w2.alloc (Obj.cells #[Value.slice adp lp cp] 25)).alloc (Obj.cells #[Value.slice adq lq cq] 25) = W at *
        have HWp := Lib.hid (HP2.out.below hbX)
        have HWq := Lib.hid (HQ2.out.below hbX)
        have HBW := Lib.hid (bel_on HB2.out hbX)
        clear hbX HP2 HQ2 HB2
        generalize decL (byts a) = x at *
        generalize decL (byts b) = y at *
        refine (mul_any _ _ x y 21 _ HWp.out HWq.out HP.out HQ.out (by decide)).mono ?_
        rintro e w3 ⟨vm, rfl, hm, hb3⟩
        obtain ⟨adm, lm, cm, rfl, hr3⟩ := hm.shape
        have HM3 := Lib.hid hm
        have hd0 := (hb3.cell (p := ⟨w2.heap.size, 0, none⟩) (by show w2.heap.size < _; omega)).trans hc0
        have hd1 := (hb3.cell (p := ⟨w2.heap.size + 1, 0, none⟩) (by show w2.heap.size + 1 < _; omega)).trans hc1
        have hs3 := hb3.size
        have HB3 := Lib.hid hb3
        clear hm hr3 hb3 hc0 hc1
        go_wp2_with fail
        have hbY := bel_alloc w3 (Obj.cells #[Value.slice adm lm cm] 25)
        have he0 := (hbY.cell (p := ⟨w2.heap.size, 0, none⟩) (by show w2.heap.size < _; omega)).trans hd0
        have he1 := (hbY.cell (p := ⟨w2.heap.size + 1, 0, none⟩) (by show w2.heap.size + 1 < _; omega)).trans hd1
        have he2 := cell_of (new_block w3 (Obj.cells #[Value.slice adm lm cm] 25)) 0
        simp only [List.getElem?_toArray, List.getElem?_cons_zero] at he2
        have hsY : w3.heap.size < (w3.alloc (Obj.cells #[Value.slice adm lm cm] 25)).heap.size := by simp
        generalize w3.alloc (Obj.cells #[Value.slice adm lm cm] 25) = X at *
        have HXp := Lib.hid ((HWp.out.below HB3.out).below hbY)
        have HXq := Lib.hid ((HWq.out.below HB3.out).below hbY)
        have HXm := Lib.hid (HM3.out.below hbY)
        have HXB := Lib.hid (bel_on (bel_on HBW.out HB3.out) hbY)
        have HTX := Lib.hid (HTT.out.below HXB.out)
        have hB0 : w2.heap.size < X.heap.size := by omega
        have hB1 : w2.heap.size + 1 < X.heap.size := by omega
        have hB2 : w3.heap.size < X.heap.size := hsY
        have HM := Lib.hid (lt_pw_mono (lt_pw_mul HP.out HQ.out) (show 21 + 21 ≤ 100 by decide))
        obtain ⟨a1, ha1⟩ := isBl_ex x
        obtain ⟨b1, hb1⟩ := isBl_ex y
        obtain ⟨c, hc⟩ := isBl_ex (x * y)
        obtain ⟨ta, hta⟩ := isTz_ex x
        obtain ⟨tb, htb⟩ := isTz_ex y
        have hcc := bl_product X1.out Y1.out ha1 hb1 hc
        have ba := bl_small HP.out ha1
        have bb := bl_small HQ.out hb1
        have bta := tz_small HP.out X1.out hta
        have btb := tz_small HQ.out Y1.out htb
        obtain ⟨tm, etm, etm'⟩ : ∃ tm : Nat, (ta : Int) + (tb : Int) = (tm : Int) ∧ ta + tb = tm := ⟨ta + tb, by omega, rfl⟩
        have HTM := Lib.hid (etm' ▸ tz_product X1.out Y1.out hta htb)
        have HA := Lib.hid ha1
        have HB := Lib.hid hb1
        have HC := Lib.hid hc
        have HTA := Lib.hid hta
        have HTB := Lib.hid htb
        obtain ⟨n, en, en'⟩ : ∃ n : Nat, (a1 : Int) + (b1 : Int) = (n : Int) ∧ a1 + b1 = n := ⟨a1 + b1, by omega, rfl⟩
        obtain ⟨eb, eeb, eb'⟩ : ∃ e : Nat, ((c : Int) + 7).tdiv 8 = (e : Int) ∧ (c + 7) / 8 = e := ⟨(c + 7) / 8, by rw [Int.tdiv_eq_ediv_of_nonneg (by omega)]; omega, rfl⟩
        have EB := Lib.hid eb'
        have bc : c ≤ 1344 := by omega
        have bn : n ≤ 1344 := by omega
        have bm : tm ≤ 1344 := by omega
        have wn : IntKind.i64.wrap (n : Int) = (n : Int) := IntWalk.i64_in _ (by omega)
        have wc : IntKind.i64.wrap (c : Int) = (c : Int) := IntWalk.i64_in _ (by omega)
        have wt : IntKind.i64.wrap (tm : Int) = (tm : Int) := IntWalk.i64_in _ (by omega)
        have wb : IntKind.i64.wrap (eb : Int) = (eb : Int) := IntWalk.i64_in _ (by omega)
        have w7 : IntKind.i64.wrap ((c : Int) + 7) = (c : Int) + 7 := IntWalk.i64_in _ (by omega)
        clear hd0 hd1 hbY HWp HWq HM3 HB3 HBW hsz hs3 ha1 hb1 hc hta htb etm' eb' X1 Y1 HTT hsY
        rw [en'] at hcc
        clear en'
        rcases hcc with hcc | hcc
        · subst hcc
          refine wp_region_sched (fun w' => w'.cell? ⟨w2.heap.size, 0, none⟩ = some (.slice adp lp cp) ∧ w'.cell? ⟨w2.heap.size + 1, 0, none⟩ = some (.slice adq lq cq) ∧ w'.cell? ⟨w3.heap.size, 0, none⟩ = some (.slice adm lm cm) ∧ Below X.heap.size X w') [(0, true), (2, true), (1, false), (3, false), (4, true), (5, true)] (by kernel_rfl) (by kernel_rfl) ?_ (fun hHeld => ?_)
          · (try dsimp only)
            exact ⟨he0, he1, he2, (Below.refl _ _).drew⟩
          try dsimp only at hHeld
          repeat (refine wpSched_at (by simp only [List.getElem?_toArray, List.getElem?_cons_zero, List.getElem?_cons_succ]; rfl) ?_; (first | (apply wpAt_take rfl; (intro wx hSx; (try dsimp only at hSx); go_simp; (try with_reducible rfl)); simp only [Act.put, List.setIfInBounds_toArray, List.set_cons_zero, List.set_cons_succ]) | (refine wpAt_skip rfl ?_; simp only [Act.put, List.setIfInBounds_toArray, List.set_cons_zero, List.set_cons_succ]) | (refine wpAt_pass rfl hHeld ?_; simp only [Act.put, List.setIfInBounds_toArray, List.set_cons_zero, List.set_cons_succ]) | (refine wpAt_eff rfl (fun K hK => ?_); go_simp; (first | (go_at_call 19; (with_reducible refine (bits_any (.agg #[.slice adp lp cp]) x 100 _ ?_ ?_ (by decide)).mono ?_); exact (HXp.out.below hHeld.2.2.2); exact lt_pw_mono HP.out (by decide); rintro e w' ⟨k, rfl, hk, hb⟩; obtain rfl : a1 = k := (hk.unique HA.out).symm; have hS := held3_step hB0 hB1 hB2 hHeld hb; clear hb hk) | (go_at_call 19; (with_reducible refine (bits_any (.agg #[.slice adq lq cq]) y 100 _ ?_ ?_ (by decide)).mono ?_); exact (HXq.out.below hHeld.2.2.2); exact lt_pw_mono HQ.out (by decide); rintro e w' ⟨k, rfl, hk, hb⟩; obtain rfl : b1 = k := (hk.unique HB.out).symm; have hS := held3_step hB0 hB1 hB2 hHeld hb; clear hb hk)); (refine hK.out _ _ ?_ (fun hHeld => ?_)); ((try dsimp only); exact hS); clear hK K; (try clear hS); (try dsimp only at hHeld))))
          refine wpSched_nil ?_
          go_wp2_with fail
          refine wp_region_sched (fun w' => w'.cell? ⟨w2.heap.size, 0, none⟩ = some (.slice adp lp cp) ∧ w'.cell? ⟨w2.heap.size + 1, 0, none⟩ = some (.slice adq lq cq) ∧ w'.cell? ⟨w3.heap.size, 0, none⟩ = some (.slice adm lm cm) ∧ Below X.heap.size X w') [(0, true), (2, true), (1, false), (3, true), (4, true), (5, true), (7, true), (8, true), (6, false), (9, true), (10, true), (11, true), (12, true), (15, true), (13, false), (14, true), (16, false), (17, true), (18, true), (19, true), (20, true), (21, true), (22, true), (24, true), (26, true), (23, false), (25, false), (27, false), (28, true), (29, true), (30, true), (31, true)] (by kernel_rfl) (by kernel_rfl) ?_ (fun hHeld => ?_)
          · (try dsimp only)
            exact ⟨hHeld.1, hHeld.2.1, hHeld.2.2.1, hHeld.2.2.2.drew⟩
          try dsimp only at hHeld
          repeat (refine wpSched_at (by simp only [List.getElem?_toArray, List.getElem?_cons_zero, List.getElem?_cons_succ]; rfl) ?_; (first | (apply wpAt_take rfl; (intro wx hSx; (try dsimp only at hSx); go_simp; (try with_reducible rfl)); simp only [Act.put, List.setIfInBounds_toArray, List.set_cons_zero, List.set_cons_succ]) | (refine wpAt_skip rfl ?_; simp only [Act.put, List.setIfInBounds_toArray, List.set_cons_zero, List.set_cons_succ]) | (refine wpAt_pass rfl hHeld ?_; simp only [Act.put, List.setIfInBounds_toArray, List.set_cons_zero, List.set_cons_succ]) | (refine wpAt_eff rfl (fun K hK => ?_); go_simp; (first | (go_at_call 19; (with_reducible refine (bits_any (.agg #[.slice adm lm cm]) (x * y) 100 _ ?_ ?_ (by decide)).mono ?_); exact (HXm.out.below hHeld.2.2.2); exact HM.out; rintro e w' ⟨k, rfl, hk, hb⟩; obtain rfl : c = k := (hk.unique HC.out).symm; have hS := held3_step hB0 hB1 hB2 hHeld hb; clear hb hk) | (go_at_call 17; (with_reducible refine (bytes_len (.agg #[.slice adm lm cm]) (x * y) 100 _ ?_ ?_ (by decide)).mono ?_); exact (HXm.out.below hHeld.2.2.2); exact HM.out; rintro e w' ⟨s, rfl, hk, hb⟩; have hse : s.size = eb := (hk c HC.out).trans EB.out; have hS := held3_step hB0 hB1 hB2 hHeld hb; clear hb hk) | (go_at_call 21; (with_reducible refine (zeros_any (.agg #[.slice adm lm cm]) (x * y) 100 _ (HTX.out.below hHeld.2.2.2) ?_ ?_ (by decide)).mono ?_); exact (HXm.out.below hHeld.2.2.2); exact HM.out; rintro e w' ⟨k, rfl, hk, hb⟩; obtain rfl : tm = k := (hk.unique HTM.out).symm; have hS := held3_step hB0 hB1 hB2 hHeld hb; clear hb hk) | (go_at_call 21; (with_reducible refine (zeros_any (.agg #[.slice adp lp cp]) x 100 _ (HTX.out.below hHeld.2.2.2) ?_ ?_ (by decide)).mono ?_); exact (HXp.out.below hHeld.2.2.2); exact lt_pw_mono HP.out (by decide); rintro e w' ⟨k, rfl, hk, hb⟩; obtain rfl : ta = k := (hk.unique HTA.out).symm; have hS := held3_step hB0 hB1 hB2 hHeld hb; clear hb hk) | (go_at_call 21; (with_reducible refine (zeros_any (.agg #[.slice adq lq cq]) y 100 _ (HTX.out.below hHeld.2.2.2) ?_ ?_ (by decide)).mono ?_); exact (HXq.out.below hHeld.2.2.2); exact lt_pw_mono HQ.out (by decide); rintro e w' ⟨k, rfl, hk, hb⟩; obtain rfl : tb = k := (hk.unique HTB.out).symm; have hS := held3_step hB0 hB1 hB2 hHeld hb; clear hb hk)); (refine hK.out _ _ ?_ (fun hHeld => ?_)); ((try dsimp only); exact hS); clear hK K; (try clear hS); (try dsimp only at hHeld))))
          refine wpSched_nil ?_
          have HE := Lib.hid hHeld.2.2.2
          clear hHeld
          go_wp2_with fail
          go_ret
          exact ⟨rfl, bel_on HXB.out HE.out⟩
        · have f1 : ((c : Int) == (n : Int)) = false := beq_eq_false_iff_ne.2 (by omega)
          have f2 : (n : Int) - 1 = (c : Int) := by omega
          clear hcc
          refine wp_region_sched (fun w' => w'.cell? ⟨w2.heap.size, 0, none⟩ = some (.slice adp lp cp) ∧ w'.cell? ⟨w2.heap.size + 1, 0, none⟩ = some (.slice adq lq cq) ∧ w'.cell? ⟨w3.heap.size, 0, none⟩ = some (.slice adm lm cm) ∧ Below X.heap.size X w') [(0, true), (2, true), (1, false), (3, false), (4, true), (5, true)] (by kernel_rfl) (by kernel_rfl) ?_ (fun hHeld => ?_)
          · (try dsimp only)
            exact ⟨he0, he1, he2, (Below.refl _ _).drew⟩
          try dsimp only at hHeld
          repeat (refine wpSched_at (by simp only [List.getElem?_toArray, List.getElem?_cons_zero, List.getElem?_cons_succ]; rfl) ?_; (first | (apply wpAt_take rfl; (intro wx hSx; (try dsimp only at hSx); go_simp; (try with_reducible rfl)); simp only [Act.put, List.setIfInBounds_toArray, List.set_cons_zero, List.set_cons_succ]) | (refine wpAt_skip rfl ?_; simp only [Act.put, List.setIfInBounds_toArray, List.set_cons_zero, List.set_cons_succ]) | (refine wpAt_pass rfl hHeld ?_; simp only [Act.put, List.setIfInBounds_toArray, List.set_cons_zero, List.set_cons_succ]) | (refine wpAt_eff rfl (fun K hK => ?_); go_simp; (first | (go_at_call 19; (with_reducible refine (bits_any (.agg #[.slice adp lp cp]) x 100 _ ?_ ?_ (by decide)).mono ?_); exact (HXp.out.below hHeld.2.2.2); exact lt_pw_mono HP.out (by decide); rintro e w' ⟨k, rfl, hk, hb⟩; obtain rfl : a1 = k := (hk.unique HA.out).symm; have hS := held3_step hB0 hB1 hB2 hHeld hb; clear hb hk) | (go_at_call 19; (with_reducible refine (bits_any (.agg #[.slice adq lq cq]) y 100 _ ?_ ?_ (by decide)).mono ?_); exact (HXq.out.below hHeld.2.2.2); exact lt_pw_mono HQ.out (by decide); rintro e w' ⟨k, rfl, hk, hb⟩; obtain rfl : b1 = k := (hk.unique HB.out).symm; have hS := held3_step hB0 hB1 hB2 hHeld hb; clear hb hk)); (refine hK.out _ _ ?_ (fun hHeld => ?_)); ((try dsimp only); exact hS); clear hK K; (try clear hS); (try dsimp only at hHeld))))
          refine wpSched_nil ?_
          go_wp2_with fail
          refine wp_region_sched (fun w' => w'.cell? ⟨w2.heap.size, 0, none⟩ = some (.slice adp lp cp) ∧ w'.cell? ⟨w2.heap.size + 1, 0, none⟩ = some (.slice adq lq cq) ∧ w'.cell? ⟨w3.heap.size, 0, none⟩ = some (.slice adm lm cm) ∧ Below X.heap.size X w') [(0, true), (2, true), (1, false), (3, true), (4, true), (5, true), (7, true), (8, true), (6, false), (9, true), (10, true), (11, true), (12, true), (15, true), (13, false), (14, true), (16, false), (17, true), (18, true), (19, true), (20, true), (21, true), (22, true), (24, true), (26, true), (23, false), (25, false), (27, false), (28, true), (29, true), (30, true), (31, true)] (by kernel_rfl) (by kernel_rfl) ?_ (fun hHeld => ?_)
          · (try dsimp only)
            exact ⟨hHeld.1, hHeld.2.1, hHeld.2.2.1, hHeld.2.2.2.drew⟩
          try dsimp only at hHeld
          repeat (refine wpSched_at (by simp only [List.getElem?_toArray, List.getElem?_cons_zero, List.getElem?_cons_succ]; rfl) ?_; (first | (apply wpAt_take rfl; (intro wx hSx; (try dsimp only at hSx); go_simp; (try with_reducible rfl)); simp only [Act.put, List.setIfInBounds_toArray, List.set_cons_zero, List.set_cons_succ]) | (refine wpAt_skip rfl ?_; simp only [Act.put, List.setIfInBounds_toArray, List.set_cons_zero, List.set_cons_succ]) | (refine wpAt_pass rfl hHeld ?_; simp only [Act.put, List.setIfInBounds_toArray, List.set_cons_zero, List.set_cons_succ]) | (refine wpAt_eff rfl (fun K hK => ?_); go_simp; (first | (go_at_call 19; (with_reducible refine (bits_any (.agg #[.slice adm lm cm]) (x * y) 100 _ ?_ ?_ (by decide)).mono ?_); exact (HXm.out.below hHeld.2.2.2); exact HM.out; rintro e w' ⟨k, rfl, hk, hb⟩; obtain rfl : c = k := (hk.unique HC.out).symm; have hS := held3_step hB0 hB1 hB2 hHeld hb; clear hb hk) | (go_at_call 17; (with_reducible refine (bytes_len (.agg #[.slice adm lm cm]) (x * y) 100 _ ?_ ?_ (by decide)).mono ?_); exact (HXm.out.below hHeld.2.2.2); exact HM.out; rintro e w' ⟨s, rfl, hk, hb⟩; have hse : s.size = eb := (hk c HC.out).trans EB.out; have hS := held3_step hB0 hB1 hB2 hHeld hb; clear hb hk) | (go_at_call 21; (with_reducible refine (zeros_any (.agg #[.slice adm lm cm]) (x * y) 100 _ (HTX.out.below hHeld.2.2.2) ?_ ?_ (by decide)).mono ?_); exact (HXm.out.below hHeld.2.2.2); exact HM.out; rintro e w' ⟨k, rfl, hk, hb⟩; obtain rfl : tm = k := (hk.unique HTM.out).symm; have hS := held3_step hB0 hB1 hB2 hHeld hb; clear hb hk) | (go_at_call 21; (with_reducible refine (zeros_any (.agg #[.slice adp lp cp]) x 100 _ (HTX.out.below hHeld.2.2.2) ?_ ?_ (by decide)).mono ?_); exact (HXp.out.below hHeld.2.2.2); exact lt_pw_mono HP.out (by decide); rintro e w' ⟨k, rfl, hk, hb⟩; obtain rfl : ta = k := (hk.unique HTA.out).symm; have hS := held3_step hB0 hB1 hB2 hHeld hb; clear hb hk) | (go_at_call 21; (with_reducible refine (zeros_any (.agg #[.slice adq lq cq]) y 100 _ (HTX.out.below hHeld.2.2.2) ?_ ?_ (by decide)).mono ?_); exact (HXq.out.below hHeld.2.2.2); exact lt_pw_mono HQ.out (by decide); rintro e w' ⟨k, rfl, hk, hb⟩; obtain rfl : tb = k := (hk.unique HTB.out).symm; have hS := held3_step hB0 hB1 hB2 hHeld hb; clear hb hk)); (refine hK.out _ _ ?_ (fun hHeld => ?_)); ((try dsimp only); exact hS); clear hK K; (try clear hS); (try dsimp only at hHeld))))
          refine wpSched_nil ?_
          have HE := Lib.hid hHeld.2.2.2
          clear hHeld
          go_wp2_with fail
          go_ret
          exact ⟨rfl, bel_on HXB.out HE.out⟩
  · have HB2 := Lib.hid (bel_on HB1.out hb2)
    clear hno hb2 HB1
    go_wp2_with fail
    go_ret
    exact ⟨rfl, bel_on HB2.out (bel_alloc2 _ _ _)⟩

end Go.Proofs.YtkcaaicpjcmdbaaDoor
