/- The law NatSquares. -/
import Derived.Test.YtkcaaicpjcmdbaaDoorW5
import Derived.Test.YtkcaaicpjcmdbaaDoorW8
import Derived.Test.YtkcaaicpjcmdbaaDoorWS
import Derived.Test.YtkcaaicpjcmdbaaDoorWM
import Derived.Test.YtkcaaicpjcmdbaaDoorWU
import Derived.Deep.RegionLaw
namespace Go.Proofs.YtkcaaicpjcmdbaaDoor
open Go.RowKit Cin

theorem keep_block {w w' : World} {b : Nat} {o : Obj} (h : w.heap[b]? = some o) (hb : Below w.heap.size w w') : w'.heap[b]? = some o :=
  (hb.block b (Array.getElem?_eq_some_iff.1 h).1).trans h
theorem set_block {w : World} {b : Nat} {u : Value} {t : TypeId} (h : w.heap[b]? = some (.cells #[u] t (0, 0))) (v : Value) : (w.setCell ⟨b, 0, none⟩ v).heap[b]? = some (.cells #[v] t (0, 0)) := by
  simp [World.setCell, Array.getElem?_modify, h]
theorem held2_alloc {X wc : World} {A B : Nat} {sa sb : Value} (hA : A < X.heap.size) (hB : B < X.heap.size)
    (hS : wc.cell? ⟨A, 0, none⟩ = some sa ∧ wc.cell? ⟨B, 0, none⟩ = some sb ∧ Below X.heap.size X wc) (o : Obj) :
    (wc.alloc o).cell? ⟨A, 0, none⟩ = some sa ∧ (wc.alloc o).cell? ⟨B, 0, none⟩ = some sb ∧ Below X.heap.size X (wc.alloc o) := held2_step hA hB hS (bel_alloc wc o)
theorem held2_set {X wc : World} {A B : Nat} {sa sb : Value} (hA : A < X.heap.size) (hB : B < X.heap.size)
    (hS : wc.cell? ⟨A, 0, none⟩ = some sa ∧ wc.cell? ⟨B, 0, none⟩ = some sb ∧ Below X.heap.size X wc) {b : Nat} (hb : X.heap.size ≤ b) (u : Value) :
    (wc.setCell ⟨b, 0, none⟩ u).cell? ⟨A, 0, none⟩ = some sa ∧ (wc.setCell ⟨b, 0, none⟩ u).cell? ⟨B, 0, none⟩ = some sb ∧ Below X.heap.size X (wc.setCell ⟨b, 0, none⟩ u) := by
  have h0 : Below X.heap.size wc (wc.setCell ⟨b, 0, none⟩ u) := (Below.refl _ _).setCell hb u
  exact ⟨(h0.cell (p := ⟨A, 0, none⟩) hA).trans hS.1, (h0.cell (p := ⟨B, 0, none⟩) hB).trans hS.2.1, hS.2.2.setCell hb u⟩
theorem len_pos11 {t : TypeId} {w : World} {v : Value} {xs : List Nat} {n l c : Nat} (h : Sl t .u32 w v xs ∧ Ok xs ∧ Norm xs ∧ val xs = n ∧ xs.length = l ∧ l ≤ c) (hl : l ≠ 0) : 1 ≤ n := by
  rcases Nat.eq_zero_or_pos n with h0 | h0
  · have := norm_val_zero h.2.2.1 (h.2.2.2.1.trans h0)
    have hl' := h.2.2.2.2.1
    rw [this] at hl'
    exact absurd hl'.symm hl
  · exact h0
theorem cmpI_same {a b : Nat} (h : a = b) : cmpI a b = 0 := by rw [h]; exact cmpI_self b
theorem square_bounds {x k : Nat} (hx : x < pw 21) (hk : k ≤ 2000) (h1 : 1 ≤ x) :
    x * 2 ^ k < pw 84 ∧ x * 2 ^ k + x < pw 85 ∧ 1 ≤ x * 2 ^ k + x := by
  have a1 : 2 ^ k < pw 63 := Nat.lt_of_lt_of_eq (Nat.pow_lt_pow_right (by decide) (show k < 32 * 63 by omega)) (pw_two 63).symm
  have a2 := lt_pw_mul hx a1
  exact ⟨lt_pw_mono a2 (by decide), lt_pw_mono (lt_pw_add a2 (lt_pw_mono hx (by decide))) (by decide), Nat.le_trans h1 (Nat.le_add_left _ _)⟩
theorem square_bounds2 {p : Nat} (hp : p < pw 85) (h1 : 1 ≤ p) :
    1 < pw 85 ∧ p - 1 < pw 85 ∧ p * p < pw 170 ∧ 1 ≤ p * p ∧ p * p - 1 < pw 200 ∧ p + 1 < pw 86 ∧ (p - 1) * (p + 1) < pw 200 := by
  have a0 : 1 < pw 85 := lt_pw_mono (show 1 < pw 1 by decide) (by decide)
  have a1 := lt_pw_mul hp hp
  have a2 := lt_pw_add hp a0
  have a3 : p - 1 < pw 85 := Nat.lt_of_le_of_lt (Nat.sub_le _ _) hp
  have a4 := lt_pw_mul a3 (lt_pw_mono a2 (show 85 + 1 ≤ 86 by decide))
  have a5 : 1 ≤ p * p := Nat.mul_pos h1 h1
  have a6 := lt_pw_mono a1 (show 85 + 85 ≤ 200 by decide)
  exact ⟨a0, a3, lt_pw_mono a1 (by decide), a5, Nat.lt_of_le_of_lt (Nat.sub_le _ _) a6, lt_pw_mono a2 (by decide), lt_pw_mono a4 (by decide)⟩
theorem square_law {p : Nat} (h1 : 1 ≤ p) : cmpI (p * p - 1) ((p - 1) * (p + 1)) = 0 := by
  apply cmpI_same
  obtain ⟨q, rfl⟩ := Nat.exists_eq_add_of_le' h1
  simp only [Nat.add_sub_cancel, Nat.mul_add, Nat.add_mul, Nat.mul_one, Nat.one_mul]
  omega

set_option maxRecDepth 100000 in
set_option maxHeartbeats 4000000 in
/-- The law holds of every text and every int. -/
theorem natSquares_any (a : ByteArray) (n : Int) (w : World) (hT : Tabs w) :
    Calls Tryd.prog 11 #[.string a, .int .i64 n] w fun e w' => e = .returned (.bool true) ∧ Below w.heap.size w w' := by
  have HTT := Lib.hid hT
  clear hT
  go_enter Tryd.func11, Tryd.ntmps11
  go_wp2_with fail
  refine (alive_any _ HTT.out).mono ?_
  rintro e w1 ⟨rfl, hb1⟩
  have HB1 := Lib.hid hb1
  clear hb1
  go_wp2_with fail
  refine (pair_any a _ _).mono ?_
  rintro e w2 (⟨hok, p, q, xv, yv, rfl, hp, hq, hx, hy, hb2⟩ | ⟨hno, rfl, hb2⟩)
  · obtain ⟨adp, lp, cp, xsp, rfl, rp⟩ := hp.shape
    obtain ⟨adq, lq, cq, xsq, rfl, rq⟩ := hq.shape
    obtain ⟨adx, lx, cx, xsx, rfl, rx⟩ := hx.shape
    obtain ⟨ady, ly, cy, xsy, rfl, ry⟩ := hy.shape
    have HP2 := Lib.hid (show NatV 61 w2 (.agg #[.slice adp lp cp]) (decL (byts a)) from ⟨_, rfl, hp⟩)
    have HP := Lib.hid (decL_lt_pw hok.1.2.2.2 (by rw [byts_length]; exact hok.2.2.1))
    have HB2 := Lib.hid (bel_on HB1.out hb2)
    have HL := Lib.hid (show lx ≠ 0 → 1 ≤ decL (byts a) from fun h => len_pos11 rx h)
    clear hok hp hq hx hy hb2 rp rq rx ry HB1
    by_cases h0 : lx = 0
    · subst h0
      clear HL HP2 HP
      go_wp2_with fail
      go_ret
      exact ⟨rfl, bel_on HB2.out (bel_alloc2 _ _ _)⟩
    · have e0 : ((lx : Int) == 0) = false := beq_eq_false_iff_ne.2 (by omega)
      have X1 := Lib.hid (HL.out h0)
      clear HL h0
      by_cases h1 : n < 0
      · have e1 : decide (n < 0) = true := decide_eq_true h1
        clear h1 HP2 HP X1
        go_wp2_with fail
        go_ret
        exact ⟨rfl, bel_on HB2.out (bel_alloc2 _ _ _)⟩
      · have e1 : decide (n < 0) = false := decide_eq_false h1
        by_cases h2 : 2000 < n
        · have e2 : decide (2000 < n) = true := decide_eq_true h2
          clear h1 h2 HP2 HP X1
          go_wp2_with fail
          go_ret
          exact ⟨rfl, bel_on HB2.out (bel_alloc2 _ _ _)⟩
        · have e2 : decide (2000 < n) = false := decide_eq_false h2
          have HN := Lib.hid (show 0 ≤ n ∧ n ≤ 2000 by omega)
          clear h1 h2
          go_wp2_with fail
          clear e0 e1 e2
          have hblk := new_block2 w2 (Obj.cells #[Value.slice adp lp cp] 25) (Obj.cells #[Value.slice adq lq cq] 25)
          have hbX := bel_alloc2 w2 (Obj.cells #[Value.slice adp lp cp] 25) (Obj.cells #[Value.slice adq lq cq] 25)
          generalize (w2.alloc (Obj.cells #[Value.slice adp lp cp] 25)).alloc (Obj.cells #[Value.slice adq lq cq] 25) = X at *
          have hc0 := cell_of hblk 0
          simp only [List.getElem?_toArray, List.getElem?_cons_zero] at hc0
          obtain ⟨k, rfl⟩ := Int.eq_ofNat_of_zero_le HN.out.1
          have hk2 : k ≤ 2000 := by have := HN.out; omega
          have HXp := Lib.hid (HP2.out.below hbX)
          have HBX := Lib.hid hbX
          have HKX := Lib.hid hblk
          generalize decL (byts a) = x at *
          have HSB := Lib.hid (square_bounds HP.out hk2 X1.out)
          clear HN HP2 hbX hblk
          go_region_law (first
            | (go_simp; go_at_call 41; (with_reducible refine (shl_any (.agg #[.slice adp lp cp]) x k 100 X.drew (HXp.out.below (Below.refl _ _).drew) (lt_pw_mono HP.out (by decide)) (by decide)).mono ?_); rintro e w4 ⟨v4, rfl, hn4, hb4⟩; rw [cut_in (by omega)] at hn4; have HN4 := Lib.hid hn4; have hk4 := keep_block (w := X.drew) HKX.out hb4; have hc4 := cell_of hk4 0; simp only [List.getElem?_toArray, List.getElem?_cons_zero] at hc4; have HK4 := Lib.hid hk4; have HB4 := Lib.hid (bel_on (Below.refl X.heap.size X).drew hb4); clear hn4 hb4 hk4)
            | (go_simp; go_at_call 33; (with_reducible refine (add_any v4 (.agg #[.slice adp lp cp]) (x * 2 ^ k) x 100 w4 HN4.out (HXp.out.below HB4.out) (lt_pw_mono HSB.out.1 (by decide)) (lt_pw_mono HP.out (by decide)) (by decide)).mono ?_); rintro e w5 ⟨v5, rfl, hn5, hb5⟩; obtain ⟨ad5, l5, c5, rfl, hr5⟩ := hn5.shape; have HN5 := Lib.hid hn5; have hk5 := keep_block HK4.out hb5; have hc5 := cell_of hk5 0; simp only [List.getElem?_toArray, List.getElem?_cons_zero] at hc5; have hf5 := free_of hk5 0; have HK5 := Lib.hid hk5; have HB5 := Lib.hid (bel_on HB4.out hb5); clear hn5 hb5 hk5 hr5))
          all_goals (
            have hkY := set_block HK5.out (Value.slice ad5 l5 c5)
            have HNY := Lib.hid (HN5.out.setOther (a := ⟨w2.heap.size, 0, none⟩) HK5.out (by decide) (Value.slice ad5 l5 c5))
            have HBY := Lib.hid ((bel_on (bel_on HB2.out HBX.out) HB5.out).setCell (p := ⟨w2.heap.size, 0, none⟩) HB2.out.size (Value.slice ad5 l5 c5))
            have hsY : w2.heap.size < (w5.setCell ⟨w2.heap.size, 0, none⟩ (Value.slice ad5 l5 c5)).heap.size := (Array.getElem?_eq_some_iff.1 hkY).1
            generalize w5.setCell ⟨w2.heap.size, 0, none⟩ (Value.slice ad5 l5 c5) = Y at *
            have HSB2 := Lib.hid (square_bounds2 HSB.out.2.1 HSB.out.2.2)
            have HSB1 := Lib.hid HSB.out.2
            clear HN5 HK5 HB5 HB4 HK4 HN4 HXp HBX HKX HSB HP X1 HB2 hc0 hc4 hc5 hf5
            generalize x * 2 ^ k + x = p at *
            have hcY := cell_of hkY 0
            simp only [List.getElem?_toArray, List.getElem?_cons_zero] at hcY
            clear hkY
            generalize w2.heap.size = A at *
            go_wp2_with fail
            refine (of_any 1 _ (by decide)).mono ?_
            rintro e w6 ⟨v6, rfl, hn6, hb6⟩
            obtain ⟨ad6, l6, c6, rfl, hr6⟩ := hn6.shape
            have hc6 := (hb6.cell (p := ⟨A, 0, none⟩) hsY).trans hcY
            have HN6 := Lib.hid hn6
            have HP6 := Lib.hid (HNY.out.below hb6)
            have HB6 := Lib.hid (bel_on HBY.out hb6)
            have hs6 := hb6.size
            clear hn6 hr6 hb6 HNY HBY hcY
            have hcZ := ((bel_alloc w6 (Obj.cells #[Value.slice ad6 l6 c6] 25)).cell (p := ⟨A, 0, none⟩) (by show A < _; omega)).trans hc6
            have hdZ := cell_of (new_block w6 (Obj.cells #[Value.slice ad6 l6 c6] 25)) 0
            simp only [List.getElem?_toArray, List.getElem?_cons_zero] at hdZ
            go_wp2_with fail
            have HNZ := Lib.hid (HN6.out.below (bel_alloc w6 (Obj.cells #[Value.slice ad6 l6 c6] 25)))
            have HPZ := Lib.hid (HP6.out.below (bel_alloc w6 (Obj.cells #[Value.slice ad6 l6 c6] 25)))
            have HBZ := Lib.hid (bel_on HB6.out (bel_alloc w6 (Obj.cells #[Value.slice ad6 l6 c6] 25)))
            have hsZ : w6.heap.size < (w6.alloc (Obj.cells #[Value.slice ad6 l6 c6] 25)).heap.size := by simp
            generalize w6.alloc (Obj.cells #[Value.slice ad6 l6 c6] 25) = Z at *
            have hAB : A < w6.heap.size := by omega
            clear hc6 HN6 HP6 HB6 hs6 hsY
            generalize w6.heap.size = B at *
            refine (sub_any (.agg #[.slice ad5 l5 c5]) (.agg #[.slice ad6 l6 c6]) p 1 85 Z HPZ.out HNZ.out HSB1.out.1 HSB2.out.1 (by decide) HSB1.out.2).mono ?_
            rintro e w8 ⟨v8, rfl, hn8, hb8⟩
            obtain ⟨ad8, l8, c8, rfl, hr8⟩ := hn8.shape
            have hc8 := (hb8.cell (p := ⟨A, 0, none⟩) (by show A < _; omega)).trans hcZ
            have hd8 := (hb8.cell (p := ⟨B, 0, none⟩) (by show B < _; omega)).trans hdZ
            have hs8 := hb8.size
            have HN8 := Lib.hid (HNZ.out.below hb8)
            have HP8 := Lib.hid (HPZ.out.below hb8)
            have HL8 := Lib.hid hn8
            have HB8 := Lib.hid (bel_on HBZ.out hb8)
            clear hn8 hr8 hb8 HNZ HPZ HBZ hcZ hdZ
            go_wp2_with fail
            have hcV := ((bel_alloc w8 (Obj.cells #[Value.slice ad8 l8 c8] 25)).cell (p := ⟨A, 0, none⟩) (by show A < _; omega)).trans hc8
            have hdV := ((bel_alloc w8 (Obj.cells #[Value.slice ad8 l8 c8] 25)).cell (p := ⟨B, 0, none⟩) (by show B < _; omega)).trans hd8
            have hlV := cell_of (new_block w8 (Obj.cells #[Value.slice ad8 l8 c8] 25)) 0
            simp only [List.getElem?_toArray, List.getElem?_cons_zero] at hlV
            have HNV := Lib.hid (HN8.out.below (bel_alloc w8 (Obj.cells #[Value.slice ad8 l8 c8] 25)))
            have HPV := Lib.hid (HP8.out.below (bel_alloc w8 (Obj.cells #[Value.slice ad8 l8 c8] 25)))
            have HLV := Lib.hid (HL8.out.below (bel_alloc w8 (Obj.cells #[Value.slice ad8 l8 c8] 25)))
            have HBV := Lib.hid (bel_on HB8.out (bel_alloc w8 (Obj.cells #[Value.slice ad8 l8 c8] 25)))
            have hsV : w8.heap.size < (w8.alloc (Obj.cells #[Value.slice ad8 l8 c8] 25)).heap.size := by simp
            generalize w8.alloc (Obj.cells #[Value.slice ad8 l8 c8] 25) = V at *
            have hVA : A < V.heap.size := by omega
            have hVB : B < V.heap.size := by omega
            clear hc8 hd8 HN8 HP8 HL8 HB8
            generalize w8.heap.size = C at *
            go_region_held3 (fun w' => w'.cell? ⟨A, 0, none⟩ = some (.slice ad5 l5 c5) ∧ w'.cell? ⟨B, 0, none⟩ = some (.slice ad6 l6 c6) ∧ Below V.heap.size V w')
              (first | exact ⟨hcV, hdV, (Below.refl _ _).drew⟩ | exact hS10 | exact hS9 | exact held2_alloc hVA hVB (by assumption) _ | exact held2_set hVA hVB (by assumption) (by first | exact Nat.le_refl _ | exact hz9 | exact hz10) _)
              (first
                | (go_at_call 35; (with_reducible refine (mul_any (.agg #[.slice ad5 l5 c5]) (.agg #[.slice ad5 l5 c5]) p p 85 _ ?_ ?_ HSB1.out.1 HSB1.out.1 (by decide)).mono ?_); exact HPV.out.below (And.right (And.right (by assumption))); exact HPV.out.below (And.right (And.right (by assumption))); rintro e w9 ⟨v9, rfl, hn9, hb9⟩; have HN9 := Lib.hid hn9; have hS9 := held2_step hVA hVB (by assumption) hb9; have hz9 := hS9.2.2.size; (try (have hq9 : w9.heap[V.heap.size]? = some (Obj.cells #[Value.slice none 0 0] 25) := keep_block (w := World.alloc V.drew _) (new_block _ _) hb9; have HQ9 := Lib.hid hq9; clear hq9)); clear hn9 hb9)
                | (go_at_call 29; (with_reducible refine (sub_any v9 (.agg #[.slice ad6 l6 c6]) (p * p) 1 170 _ ?_ ?_ HSB2.out.2.2.1 (lt_pw_mono HSB2.out.1 (by decide)) (by decide) HSB2.out.2.2.2.1).mono ?_); (first | exact HN9.out | exact HN9.out.below (bel_alloc _ _)); exact HNV.out.below (And.right (And.right (by assumption))); rintro e w10 ⟨v10, rfl, hn10, hb10⟩; obtain ⟨ad10, l10, c10, rfl, hr10⟩ := hn10.shape; have HN10 := Lib.hid hn10; have hS10 := held2_step hVA hVB (by assumption) hb10; have hz10 := hS10.2.2.size; (first | (have hq10 : w10.heap[V.heap.size]? = some (Obj.cells #[Value.slice none 0 0] 25) := keep_block HQ9.out hb10; have hx10 : w10.cell? ⟨V.heap.size, 0, none⟩ = some (.slice none 0 0) := cell_of hq10 0; have hy10 : w10.frozen? ⟨V.heap.size, 0, none⟩ = false := free_of hq10 0; have HQ10 := Lib.hid hq10; clear hq10) | (have hq10 : w10.heap[w9.heap.size]? = some (Obj.cells #[Value.slice none 0 0] 25) := keep_block (w := World.alloc w9 _) (new_block _ _) hb10; have hx10 : w10.cell? ⟨w9.heap.size, 0, none⟩ = some (.slice none 0 0) := cell_of hq10 0; have hy10 : w10.frozen? ⟨w9.heap.size, 0, none⟩ = false := free_of hq10 0; have HQ10 := Lib.hid hq10; clear hq10) | skip); clear hn10 hb10 hr10))
            · have hkU := new_block w10 (Obj.cells #[Value.slice ad10 l10 c10] 25)
              have HQU := Lib.hid (HN10.out.below (bel_alloc w10 (Obj.cells #[Value.slice ad10 l10 c10] 25)))
              have hSU := held2_alloc hVA hVB hS10 (Obj.cells #[Value.slice ad10 l10 c10] 25)
              generalize w10.alloc (Obj.cells #[Value.slice ad10 l10 c10] 25) = U at *
              have hDU := cell_of hkU 0
              simp only [List.getElem?_toArray, List.getElem?_cons_zero] at hDU
              have hDs : w10.heap.size < U.heap.size := (Array.getElem?_eq_some_iff.1 hkU).1
              have hCU := (hSU.2.2.cell (p := ⟨C, 0, none⟩) hsV).trans hlV
              have hUV := hSU.2.2.size
              have HPU := Lib.hid (HPV.out.below hSU.2.2)
              have HOU := Lib.hid (HNV.out.below hSU.2.2)
              have HLU := Lib.hid (HLV.out.below hSU.2.2)
              have HBU := Lib.hid (bel_on HBV.out hSU.2.2)
              have hAU := hSU.1
              have hBU := hSU.2.1
              have hAs : A < U.heap.size := by omega
              have hBs : B < U.heap.size := by omega
              have hCs : C < U.heap.size := by omega
              generalize w10.heap.size = D at hDU hDs ⊢
              rename_i hOld
              clear hOld
              clear hSU hkU hS9 hS10 HN9 HN10 HPV HNV HLV HBV hcV hdV hlV hVA hVB hsV hz9 hz10 hUV
              go_wp2_with fail
              refine wp_region_sched (fun w' => w'.cell? ⟨A, 0, none⟩ = some (.slice ad5 l5 c5) ∧ w'.cell? ⟨B, 0, none⟩ = some (.slice ad6 l6 c6) ∧ w'.cell? ⟨C, 0, none⟩ = some (.slice ad8 l8 c8) ∧ w'.cell? ⟨D, 0, none⟩ = some (.slice ad10 l10 c10) ∧ Below U.heap.size U w') [(0, true), (1, true), (2, true), (3, true), (4, true), (5, true), (6, true), (7, true), (8, true), (9, false), (10, false), (11, false), (12, true), (13, true), (14, true)] (by kernel_rfl) (by kernel_rfl) ?_ (fun hHeld => ?_)
              · (try dsimp only)
                exact ⟨hAU, hBU, hCU, hDU, (Below.refl _ _).drew⟩
              try dsimp only at hHeld
              repeat (refine wpSched_at (by simp only [List.getElem?_toArray, List.getElem?_cons_zero, List.getElem?_cons_succ]; rfl) ?_; (first | (apply wpAt_take rfl; (intro wx hSx; (try dsimp only at hSx); go_simp; (try with_reducible rfl)); simp only [Act.put, List.setIfInBounds_toArray, List.set_cons_zero, List.set_cons_succ]) | (refine wpAt_skip rfl ?_; simp only [Act.put, List.setIfInBounds_toArray, List.set_cons_zero, List.set_cons_succ]) | (refine wpAt_pass rfl hHeld ?_; simp only [Act.put, List.setIfInBounds_toArray, List.set_cons_zero, List.set_cons_succ]) | (refine wpAt_eff rfl (fun K hK => ?_); go_simp; (first | (go_at_call 33; (with_reducible refine (add_any (.agg #[.slice ad5 l5 c5]) (.agg #[.slice ad6 l6 c6]) p 1 85 _ ?_ ?_ HSB1.out.1 HSB2.out.1 (by decide)).mono ?_); exact HPU.out.below hHeld.2.2.2.2; exact HOU.out.below hHeld.2.2.2.2; rintro e w' ⟨va, rfl, hn, hb⟩; have NA := Lib.hid hn; have hS := held4_step hAs hBs hCs hDs hHeld hb; clear hb hn) | (go_at_call 35; (with_reducible refine (mul_any (.agg #[.slice ad8 l8 c8]) va (p - 1) (p + 1) 100 _ ?_ ?_ (lt_pw_mono HSB2.out.2.1 (by decide)) (lt_pw_mono HSB2.out.2.2.2.2.2.1 (by decide)) (by decide)).mono ?_); exact HLU.out.below hHeld.2.2.2.2; exact NA.out; rintro e w' ⟨vm, rfl, hn, hb⟩; have NM := Lib.hid hn; have hS := held4_step hAs hBs hCs hDs hHeld hb; clear hb hn) | (go_at_call 31; (with_reducible refine (cmp_any (.agg #[.slice ad10 l10 c10]) vm (p * p - 1) ((p - 1) * (p + 1)) 200 _ ?_ ?_ HSB2.out.2.2.2.2.1 HSB2.out.2.2.2.2.2.2 (by decide)).mono ?_); exact HQU.out.below hHeld.2.2.2.2; exact NM.out; rintro e w' ⟨rfl, hb⟩; rw [square_law HSB1.out.2]; have hS := held4_step hAs hBs hCs hDs hHeld hb; clear hb)); (refine hK.out _ _ ?_ (fun hHeld => ?_)); ((try dsimp only); exact hS); clear hK K; (try clear hS); (try dsimp only at hHeld))))
              refine wpSched_nil ?_
              have HE := Lib.hid hHeld.2.2.2.2
              clear hHeld
              go_wp2_with fail
              go_ret
              exact ⟨rfl, bel_on HBU.out HE.out⟩
            · have hkU := set_block HQ10.out (Value.slice ad10 l10 c10)
              have HQU := Lib.hid (HN10.out.setOther (a := ⟨w9.heap.size, 0, none⟩) HQ10.out (by decide) (Value.slice ad10 l10 c10))
              have hSU := held2_set hVA hVB hS10 (b := w9.heap.size) (by first | exact Nat.le_refl _ | exact hz9) (Value.slice ad10 l10 c10)
              generalize w10.setCell ⟨w9.heap.size, 0, none⟩ (Value.slice ad10 l10 c10) = U at *
              have hDU := cell_of hkU 0
              simp only [List.getElem?_toArray, List.getElem?_cons_zero] at hDU
              have hDs : w9.heap.size < U.heap.size := (Array.getElem?_eq_some_iff.1 hkU).1
              have hCU := (hSU.2.2.cell (p := ⟨C, 0, none⟩) hsV).trans hlV
              have hUV := hSU.2.2.size
              have HPU := Lib.hid (HPV.out.below hSU.2.2)
              have HOU := Lib.hid (HNV.out.below hSU.2.2)
              have HLU := Lib.hid (HLV.out.below hSU.2.2)
              have HBU := Lib.hid (bel_on HBV.out hSU.2.2)
              have hAU := hSU.1
              have hBU := hSU.2.1
              have hAs : A < U.heap.size := by omega
              have hBs : B < U.heap.size := by omega
              have hCs : C < U.heap.size := by omega
              generalize w9.heap.size = D at hDU hDs ⊢
              rename_i hOld
              clear hOld
              clear hSU hkU hS9 hS10 HN9 HN10 HPV HNV HLV HBV hcV hdV hlV hVA hVB hsV hz9 hz10 hUV
              clear hx10 hy10 HQ10
              go_wp2_with fail
              refine wp_region_sched (fun w' => w'.cell? ⟨A, 0, none⟩ = some (.slice ad5 l5 c5) ∧ w'.cell? ⟨B, 0, none⟩ = some (.slice ad6 l6 c6) ∧ w'.cell? ⟨C, 0, none⟩ = some (.slice ad8 l8 c8) ∧ w'.cell? ⟨D, 0, none⟩ = some (.slice ad10 l10 c10) ∧ Below U.heap.size U w') [(0, true), (1, true), (2, true), (3, true), (4, true), (5, true), (6, true), (7, true), (8, true), (9, false), (10, false), (11, false), (12, true), (13, true), (14, true)] (by kernel_rfl) (by kernel_rfl) ?_ (fun hHeld => ?_)
              · (try dsimp only)
                exact ⟨hAU, hBU, hCU, hDU, (Below.refl _ _).drew⟩
              try dsimp only at hHeld
              repeat (refine wpSched_at (by simp only [List.getElem?_toArray, List.getElem?_cons_zero, List.getElem?_cons_succ]; rfl) ?_; (first | (apply wpAt_take rfl; (intro wx hSx; (try dsimp only at hSx); go_simp; (try with_reducible rfl)); simp only [Act.put, List.setIfInBounds_toArray, List.set_cons_zero, List.set_cons_succ]) | (refine wpAt_skip rfl ?_; simp only [Act.put, List.setIfInBounds_toArray, List.set_cons_zero, List.set_cons_succ]) | (refine wpAt_pass rfl hHeld ?_; simp only [Act.put, List.setIfInBounds_toArray, List.set_cons_zero, List.set_cons_succ]) | (refine wpAt_eff rfl (fun K hK => ?_); go_simp; (first | (go_at_call 33; (with_reducible refine (add_any (.agg #[.slice ad5 l5 c5]) (.agg #[.slice ad6 l6 c6]) p 1 85 _ ?_ ?_ HSB1.out.1 HSB2.out.1 (by decide)).mono ?_); exact HPU.out.below hHeld.2.2.2.2; exact HOU.out.below hHeld.2.2.2.2; rintro e w' ⟨va, rfl, hn, hb⟩; have NA := Lib.hid hn; have hS := held4_step hAs hBs hCs hDs hHeld hb; clear hb hn) | (go_at_call 35; (with_reducible refine (mul_any (.agg #[.slice ad8 l8 c8]) va (p - 1) (p + 1) 100 _ ?_ ?_ (lt_pw_mono HSB2.out.2.1 (by decide)) (lt_pw_mono HSB2.out.2.2.2.2.2.1 (by decide)) (by decide)).mono ?_); exact HLU.out.below hHeld.2.2.2.2; exact NA.out; rintro e w' ⟨vm, rfl, hn, hb⟩; have NM := Lib.hid hn; have hS := held4_step hAs hBs hCs hDs hHeld hb; clear hb hn) | (go_at_call 31; (with_reducible refine (cmp_any (.agg #[.slice ad10 l10 c10]) vm (p * p - 1) ((p - 1) * (p + 1)) 200 _ ?_ ?_ HSB2.out.2.2.2.2.1 HSB2.out.2.2.2.2.2.2 (by decide)).mono ?_); exact HQU.out.below hHeld.2.2.2.2; exact NM.out; rintro e w' ⟨rfl, hb⟩; rw [square_law HSB1.out.2]; have hS := held4_step hAs hBs hCs hDs hHeld hb; clear hb)); (refine hK.out _ _ ?_ (fun hHeld => ?_)); ((try dsimp only); exact hS); clear hK K; (try clear hS); (try dsimp only at hHeld))))
              refine wpSched_nil ?_
              have HE := Lib.hid hHeld.2.2.2.2
              clear hHeld
              go_wp2_with fail
              go_ret
              exact ⟨rfl, bel_on HBU.out HE.out⟩
            · have hkU := set_block HQ10.out (Value.slice ad10 l10 c10)
              have HQU := Lib.hid (HN10.out.setOther (a := ⟨V.heap.size, 0, none⟩) HQ10.out (by decide) (Value.slice ad10 l10 c10))
              have hSU := held2_set hVA hVB hS10 (b := V.heap.size) (by first | exact Nat.le_refl _ | exact hz9) (Value.slice ad10 l10 c10)
              generalize w10.setCell ⟨V.heap.size, 0, none⟩ (Value.slice ad10 l10 c10) = U at *
              have hDU := cell_of hkU 0
              simp only [List.getElem?_toArray, List.getElem?_cons_zero] at hDU
              have hDs : V.heap.size < U.heap.size := (Array.getElem?_eq_some_iff.1 hkU).1
              have hCU := (hSU.2.2.cell (p := ⟨C, 0, none⟩) hsV).trans hlV
              have hUV := hSU.2.2.size
              have HPU := Lib.hid (HPV.out.below hSU.2.2)
              have HOU := Lib.hid (HNV.out.below hSU.2.2)
              have HLU := Lib.hid (HLV.out.below hSU.2.2)
              have HBU := Lib.hid (bel_on HBV.out hSU.2.2)
              have hAU := hSU.1
              have hBU := hSU.2.1
              have hAs : A < U.heap.size := by omega
              have hBs : B < U.heap.size := by omega
              have hCs : C < U.heap.size := by omega
              generalize V.heap.size = D at hDU hDs ⊢
              rename_i hOld
              clear hOld
              clear hSU hkU hS9 hS10 HN9 HN10 HPV HNV HLV HBV hcV hdV hlV hVA hVB hsV hz9 hz10 hUV
              clear hx10 hy10 HQ10
              go_wp2_with fail
              refine wp_region_sched (fun w' => w'.cell? ⟨A, 0, none⟩ = some (.slice ad5 l5 c5) ∧ w'.cell? ⟨B, 0, none⟩ = some (.slice ad6 l6 c6) ∧ w'.cell? ⟨C, 0, none⟩ = some (.slice ad8 l8 c8) ∧ w'.cell? ⟨D, 0, none⟩ = some (.slice ad10 l10 c10) ∧ Below U.heap.size U w') [(0, true), (1, true), (2, true), (3, true), (4, true), (5, true), (6, true), (7, true), (8, true), (9, false), (10, false), (11, false), (12, true), (13, true), (14, true)] (by kernel_rfl) (by kernel_rfl) ?_ (fun hHeld => ?_)
              · (try dsimp only)
                exact ⟨hAU, hBU, hCU, hDU, (Below.refl _ _).drew⟩
              try dsimp only at hHeld
              repeat (refine wpSched_at (by simp only [List.getElem?_toArray, List.getElem?_cons_zero, List.getElem?_cons_succ]; rfl) ?_; (first | (apply wpAt_take rfl; (intro wx hSx; (try dsimp only at hSx); go_simp; (try with_reducible rfl)); simp only [Act.put, List.setIfInBounds_toArray, List.set_cons_zero, List.set_cons_succ]) | (refine wpAt_skip rfl ?_; simp only [Act.put, List.setIfInBounds_toArray, List.set_cons_zero, List.set_cons_succ]) | (refine wpAt_pass rfl hHeld ?_; simp only [Act.put, List.setIfInBounds_toArray, List.set_cons_zero, List.set_cons_succ]) | (refine wpAt_eff rfl (fun K hK => ?_); go_simp; (first | (go_at_call 33; (with_reducible refine (add_any (.agg #[.slice ad5 l5 c5]) (.agg #[.slice ad6 l6 c6]) p 1 85 _ ?_ ?_ HSB1.out.1 HSB2.out.1 (by decide)).mono ?_); exact HPU.out.below hHeld.2.2.2.2; exact HOU.out.below hHeld.2.2.2.2; rintro e w' ⟨va, rfl, hn, hb⟩; have NA := Lib.hid hn; have hS := held4_step hAs hBs hCs hDs hHeld hb; clear hb hn) | (go_at_call 35; (with_reducible refine (mul_any (.agg #[.slice ad8 l8 c8]) va (p - 1) (p + 1) 100 _ ?_ ?_ (lt_pw_mono HSB2.out.2.1 (by decide)) (lt_pw_mono HSB2.out.2.2.2.2.2.1 (by decide)) (by decide)).mono ?_); exact HLU.out.below hHeld.2.2.2.2; exact NA.out; rintro e w' ⟨vm, rfl, hn, hb⟩; have NM := Lib.hid hn; have hS := held4_step hAs hBs hCs hDs hHeld hb; clear hb hn) | (go_at_call 31; (with_reducible refine (cmp_any (.agg #[.slice ad10 l10 c10]) vm (p * p - 1) ((p - 1) * (p + 1)) 200 _ ?_ ?_ HSB2.out.2.2.2.2.1 HSB2.out.2.2.2.2.2.2 (by decide)).mono ?_); exact HQU.out.below hHeld.2.2.2.2; exact NM.out; rintro e w' ⟨rfl, hb⟩; rw [square_law HSB1.out.2]; have hS := held4_step hAs hBs hCs hDs hHeld hb; clear hb)); (refine hK.out _ _ ?_ (fun hHeld => ?_)); ((try dsimp only); exact hS); clear hK K; (try clear hS); (try dsimp only at hHeld))))
              refine wpSched_nil ?_
              have HE := Lib.hid hHeld.2.2.2.2
              clear hHeld
              go_wp2_with fail
              go_ret
              exact ⟨rfl, bel_on HBU.out HE.out⟩)
  · have HB2 := Lib.hid (bel_on HB1.out hb2)
    clear hno hb2 HB1
    go_wp2_with fail
    go_ret
    exact ⟨rfl, bel_on HB2.out (bel_alloc2 _ _ _)⟩

end Go.Proofs.YtkcaaicpjcmdbaaDoor
