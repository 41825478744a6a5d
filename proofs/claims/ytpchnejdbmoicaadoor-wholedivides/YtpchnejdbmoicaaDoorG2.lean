/- The contract of nat's sureSteps. -/
import Derived.Test.YtpchnejdbmoicaaDoorG1
namespace Cin
open Go Go.RowKit
/-- The heads of two numbers: 62 digits of the greater, and as many places of the other cut off. -/
theorem heads {X Y k : Nat} (hX : IsBl X k) (hk : 62 ≤ k) (hYX : Y ≤ X) :
    ∃ u0 v0 x1 y1 P : Nat, X / 2 ^ (k - 62) % 18446744073709551616 = u0 ∧ Y / 2 ^ (k - 62) % 18446744073709551616 = v0 ∧ u0 < 4611686018427387904 ∧ v0 ≤ u0 ∧ X = u0 * P + x1 ∧ Y = v0 * P + y1 ∧ x1 < P ∧ y1 < P := by
  have hP : 0 < 2 ^ (k - 62) := Nat.pow_pos (by decide)
  have h1 : X / 2 ^ (k - 62) < 4611686018427387904 := by
    rw [Nat.div_lt_iff_lt_mul hP]
    have h2 := hX.1
    rw [show k = 62 + (k - 62) by omega, Nat.pow_add] at h2
    simpa using h2
  have h2 : Y / 2 ^ (k - 62) ≤ X / 2 ^ (k - 62) := Nat.div_le_div_right hYX
  refine ⟨_, _, X % 2 ^ (k - 62), Y % 2 ^ (k - 62), 2 ^ (k - 62), Nat.mod_eq_of_lt (by omega), Nat.mod_eq_of_lt (by omega), h1, h2, ?_, ?_, Nat.mod_lt _ hP, Nat.mod_lt _ hP⟩
  · rw [Nat.mul_comm, Nat.div_add_mod]
  · rw [Nat.mul_comm, Nat.div_add_mod]
theorem quot_facts {U V : Int} (hV : 1 ≤ V) (hVU : V ≤ U) : ∃ q r : Int, U / V = q ∧ U - q * V = r ∧ 1 ≤ q ∧ q ≤ U ∧ 0 ≤ r ∧ r < V ∧ U = q * V + r ∧ U.tdiv V = q := by
  have h1 := Int.emod_nonneg U (show V ≠ 0 by omega)
  have h2 := Int.emod_lt_of_pos U (show 0 < V by omega)
  have h3 := Int.mul_ediv_add_emod U V
  rw [Int.mul_comm] at h3
  have h4 : 1 ≤ U / V := Int.le_ediv_of_mul_le (by omega) (by omega)
  have h5 : U / V ≤ U := Int.ediv_le_self _ (by omega)
  exact ⟨_, _, rfl, rfl, h4, h5, by omega, by omega, by omega, Int.tdiv_eq_ediv_of_nonneg (by omega)⟩
end Cin
namespace Go.Proofs.YtpchnejdbmoicaaDoor
open Go.RowKit Cin

/-- What sureSteps tells. -/
def SurePost (X Y : Nat) (w : World) (e : Ending) (w' : World) : Prop :=
  ∃ a b c d u v u0 v0 : Int, e = .returned (.agg #[.int .i64 a, .int .i64 b, .int .i64 c, .int .i64 d]) ∧ EuSteps X Y u0 v0 a b c d u v ∧ Below w.heap.size w w'

def SureRel (X Y : Nat) (u0 v0 : Int) (R F : Nat) (w : World) (g : Nat) (xu xv : Value) (wr : World) : Prop :=
  ∃ (U V a b c d : Int) (y0 y1 y2 y3 : Value), xu = .int .i64 U ∧ xv = .int .i64 V ∧ g = V.toNat ∧ EuSteps X Y u0 v0 a b c d U V ∧ U < 4611686018427387904 ∧ Four wr F 88 (.int .i64 a) (.int .i64 b) (.int .i64 c) (.int .i64 d) ∧ Four wr R 88 y0 y1 y2 y3 ∧ Below w.heap.size w wr

set_option maxRecDepth 100000 in
set_option maxHeartbeats 4000000 in
/-- sureSteps. -/
theorem sure_any (v u : Value) (X Y L : Nat) (w : World) (h : RefV 68 w v X) (h' : RefV 68 w u Y) (hXY : Y ≤ X) (hL : X < pw L) (hLb : L ≤ 10000000) (hbig : 18446744073709551616 ≤ Y) :
    Calls Tryd.prog 64 #[v, u] w (SurePost X Y w) := by
  obtain ⟨ad, len, cap, xs, rfl, hs⟩ := h.shape
  have H := Lib.hid h
  have H' := Lib.hid h'
  clear h h' hs
  go_enter Tryd.func64, Tryd.ntmps64
  go_wp2_with fail
  refine (bits_any _ X L _ ⟨_, rfl, H.out.below (bel_alloc _ _)⟩ hL (by omega)).mono ?_
  rintro e w1 ⟨k, rfl, hk, hb1⟩
  have hk62 : 65 ≤ k := by
    rcases Nat.lt_or_ge k 65 with h1 | h1
    · have h2 := Nat.pow_le_pow_right (n := 2) (by decide) (show k ≤ 64 by omega)
      have := hk.1
      omega
    · exact h1
  have hk32 : k ≤ 32 * L := by
    rcases hk.2 with e | e
    · omega
    · rcases Nat.lt_or_ge (32 * L) k with h1 | h1
      · have := Nat.pow_le_pow_right (n := 2) (by decide) (show 32 * L ≤ k - 1 by omega)
        rw [pw_two] at hL
        omega
      · exact h1
  obtain ⟨u0, v0, x1, y1, P, eu, ev, hu0, hvu, eX, eY, hx1, hy1⟩ := heads hk (by omega) hXY
  obtain ⟨cut, hcut, ecut⟩ : ∃ cut : Nat, (k : Int) - 62 = (cut : Int) ∧ k - 62 = cut := ⟨k - 62, by omega, rfl⟩
  rw [ecut] at eu ev
  have hcb : cut ≤ 1000000000000 := by omega
  have HR := Lib.hid ((heldN1 (w := w)).below hb1).1
  have HB1 := Lib.hid (bel_on (bel_alloc w (Obj.cells #[Value.int IntKind.i64 0, Value.int IntKind.i64 0, Value.int IntKind.i64 0, Value.int IntKind.i64 0] 88)) hb1)
  obtain ⟨xs, hsx, okx, _, hvx⟩ := H.out.below HB1.out
  obtain ⟨ys, hsy, oky, _, hvy⟩ := H'.out.below HB1.out
  have hs1 := hb1.size
  simp only [World.size_alloc] at hs1
  have HK := Lib.hid (And.intro eX eY)
  clear hk hb1 eX eY ecut
  go_wp2_with fail
  refine (window_any _ xs cut _ hsx okx hcb).mono ?_
  rintro e w2 ⟨rfl, n2, hw2⟩
  have hb2 : Below w1.heap.size w1 w2 := by rw [hw2]; exact bel_drewN (Below.refl _ _) _
  rw [hvx, eu]
  clear hw2
  go_wp2_with fail
  refine (window_any _ ys cut _ (hsy.below hb2) oky hcb).mono ?_
  rintro e w3 ⟨rfl, n3, hw3⟩
  have hb3 : Below w2.heap.size w2 w3 := by rw [hw3]; exact bel_drewN (Below.refl _ _) _
  rw [hvy, ev]
  have HR3 := Lib.hid (show Four w3 w.heap.size 88 (.int .i64 0) (.int .i64 0) (.int .i64 0) (.int .i64 0) from (show Four w1 w.heap.size 88 (.int .i64 0) (.int .i64 0) (.int .i64 0) (.int .i64 0) from HR.out).below (bel_on hb2 hb3))
  have HB3 := Lib.hid (bel_on HB1.out (bel_on hb2 hb3))
  have hsz : w1.heap.size ≤ w3.heap.size := (bel_on hb2 hb3).size
  clear hsx hsy hvx hvy eu ev okx oky hcut hcb hb2 hb3 hw3
  go_wp2_with fail
  have HF := Lib.hid (show Four (w3.alloc (Obj.cells #[Value.int IntKind.i64 1, Value.int IntKind.i64 0, Value.int IntKind.i64 0, Value.int IntKind.i64 1] 88)) w3.heap.size 88 (.int .i64 1) (.int .i64 0) (.int .i64 0) (.int .i64 1) from new_block _ _)
  have HR4 := Lib.hid (HR3.out.below (bel_alloc _ (Obj.cells #[Value.int IntKind.i64 1, Value.int IntKind.i64 0, Value.int IntKind.i64 0, Value.int IntKind.i64 1] 88)))
  have HB4 := Lib.hid (bel_on HB3.out (bel_alloc _ (Obj.cells #[Value.int IntKind.i64 1, Value.int IntKind.i64 0, Value.int IntKind.i64 0, Value.int IntKind.i64 1] 88)))
  clear HR HR3 HB3 HB1
  generalize w3.alloc (Obj.cells #[Value.int IntKind.i64 1, Value.int IntKind.i64 0, Value.int IntKind.i64 0, Value.int IntKind.i64 1] 88) = W at *
  go_loopg [6, 7, 9, 10, 11, 12] v0 (fun g xu xv _ _ _ _ wr => SureRel X Y u0 v0 w.heap.size w3.heap.size w g xu xv wr)
  case atStart => exact ⟨u0, v0, 1, 0, 0, 1, _, _, _, _, rfl, rfl, by simp, EuSteps.start (by omega) (by omega) (by omega) (by omega), by omega, HF.out, HR4.out, HB4.out⟩
  case round =>
    obtain ⟨U, V, a, b, c, d, z0, z1, z2, z3, rfl, rfl, hg, hst, hU62, hF, hRR, hbel⟩ := hrel
    have HST := Lib.hid hst
    clear HF HR4 HB4
    have HF := Lib.hid hF
    have HRR := Lib.hid hRR
    have HBE := Lib.hid hbel
    have HG := Lib.hid hg
    have hVs : 0 ≤ V ∧ V ≤ U := let ⟨_, _, _, _, _, _, _, _, _, _, _, _, ⟨h1, h2, _⟩, _⟩ := hst; ⟨h1, h2⟩
    have hfs := hst.done.1
    clear hst hF hRR hbel hg
    by_cases hV : V = 0
    · subst hV
      obtain ⟨hf0, hf1, hf2, hf3⟩ := HF.out.cells
      obtain ⟨hr0, hr1, hr2, hr3⟩ := HRR.out.cells
      obtain ⟨hq0, hq1, hq2, hq3⟩ := HRR.out.free
      have HSET := Lib.hid (HRR.out.set (.int .i64 a) (.int .i64 b) (.int .i64 c) (.int .i64 d)).cells
      have HEND := Lib.hid (bel_four (b := w.heap.size) (y0 := .int .i64 a) (y1 := .int .i64 b) (y2 := .int .i64 c) (y3 := .int .i64 d) HBE.out (Nat.le_refl _))
      go_wp2_with fail
      refine bodyPost_ret (v := .agg #[.int .i64 a, .int .i64 b, .int .i64 c, .int .i64 d]) (by simp [results, Tryd.results64, go_sem, HSET.out.1, HSET.out.2.1, HSET.out.2.2.1, HSET.out.2.2.2]) rfl ⟨a, b, c, d, _, _, _, _, rfl, HST.out, HEND.out⟩
    · have hV0 : (V == 0) = false := by simpa using hV
      obtain ⟨q, r, eq, er, hq1, hqU, hr0, hrV, hU, etd⟩ := quot_facts (show 1 ≤ V by omega) hVs.2
      obtain ⟨M, hM⟩ : ∃ M, q * V = M := ⟨_, rfl⟩
      rw [hM] at er hU
      have wq : IntKind.i64.wrap (U.tdiv V) = q := by rw [etd, IntWalk.i64_in _ (by omega)]
      have wq2 : IntKind.i64.wrap q = q := IntWalk.i64_in _ (by omega)
      have wM : IntKind.i64.wrap (q * V) = M := by rw [hM, IntWalk.i64_in _ (by omega)]
      have wr1 : IntKind.i64.wrap (U - M) = r := by rw [er, IntWalk.i64_in _ (by omega)]
      obtain ⟨Fn, Dn, eF, eD, hF62, hD31, hqc, hqd, hac, hbd, hnext⟩ := HST.out.next (q := q) (w := r) (P := P) (x1 := x1) (y1 := y1) (by omega) (by omega) (by omega) hq1 hr0 hrV (by omega) (by have := HK.out.1; rw [this]; simp) (by have := HK.out.2; rw [this]; simp) (by omega) (by omega) (by omega) (by omega)
      have HN := Lib.hid hnext
      obtain ⟨qc, eqc⟩ : ∃ z, q * c = z := ⟨_, rfl⟩
      obtain ⟨qd, eqd⟩ : ∃ z, q * d = z := ⟨_, rfl⟩
      rw [eqc] at hqc hac HN
      rw [eqd] at hqd hbd HN eF
      obtain ⟨wx, ewx⟩ : ∃ z, a - qc = z := ⟨_, rfl⟩
      obtain ⟨wy, ewy⟩ : ∃ z, b - qd = z := ⟨_, rfl⟩
      rw [ewx] at hac HN
      rw [ewy] at hbd HN eF
      have w1' : IntKind.i64.wrap (q * c) = qc := by rw [eqc, IntWalk.i64_in _ (by omega)]
      have w2' : IntKind.i64.wrap (q * d) = qd := by rw [eqd, IntWalk.i64_in _ (by omega)]
      have w3' : IntKind.i64.wrap (a - qc) = wx := by rw [ewx, IntWalk.i64_in _ (by omega)]
      have w4' : IntKind.i64.wrap (b - qd) = wy := by rw [ewy, IntWalk.i64_in _ (by omega)]
      obtain ⟨hf0, hf1, hf2, hf3⟩ := HF.out.cells
      clear hnext eq er hU etd hM eqc eqd ewx ewy
      obtain ⟨Z, wZ, eZ⟩ : ∃ Z, IntKind.i64.wrap (V - r) = Z ∧ Z = V - r := ⟨_, IntWalk.i64_in _ (by omega), rfl⟩
      obtain ⟨G, wG, eG⟩ : ∃ G, IntKind.i64.wrap ((Fn : Int) + (Dn : Int)) = G ∧ G = (Fn : Int) + (Dn : Int) := ⟨_, IntWalk.i64_in _ (by omega), rfl⟩
      have EZ := Lib.hid (And.intro eZ eG)
      clear eZ eG
      by_cases c1 : r < (Fn : Int)
      · go_wp2_with fail
        go_big_region
        go_wp2_with fail
        refine wp_region_sched (fun w' => w'.cell? ⟨w3.heap.size, 3, none⟩ = some (.int .i64 d) ∧ Below wr.heap.size wr w') [(0, true), (1, true), (2, false), (3, true), (4, true), (5, true), (6, true), (7, true), (8, true), (10, true), (11, true), (9, false), (12, false), (13, true), (14, true), (15, true)] (by kernel_rfl) (by kernel_rfl) ?_ (fun hHeld => ?_)
        · (try dsimp only)
          exact ⟨hf3, (Below.refl _ wr).drew.drew⟩
        try dsimp only at hHeld
        repeat (refine wpSched_at (by simp only [List.getElem?_toArray, List.getElem?_cons_zero, List.getElem?_cons_succ]; rfl) ?_; (first | (apply wpAt_take rfl; (intro wx hSx; (try dsimp only at hSx); go_simp; (try with_reducible rfl)); simp only [Act.put, List.setIfInBounds_toArray, List.set_cons_zero, List.set_cons_succ]) | (refine wpAt_skip rfl ?_; simp only [Act.put, List.setIfInBounds_toArray, List.set_cons_zero, List.set_cons_succ]) | (refine wpAt_pass rfl hHeld ?_; simp only [Act.put, List.setIfInBounds_toArray, List.set_cons_zero, List.set_cons_succ]) | (refine wpAt_eff rfl (fun K hK => ?_); (skip); go_simp; (first | (go_at_call 95; (with_reducible refine (nabs_any wy _ (by omega) (by omega)).mono ?_); rintro e w' ⟨rfl, hb⟩; rw [eF]; have hS := And.intro trivial (And.intro (cell_below hHeld.1 hb) (bel_on hHeld.2 hb)); clear hb hHeld) | (go_at_call 95; (with_reducible refine (nabs_any d _ (by omega) (by omega)).mono ?_); rintro e w' ⟨rfl, hb⟩; rw [eD]; have hS := And.intro trivial (And.intro (cell_below hHeld.1 hb) (bel_on hHeld.2 hb)); clear hb hHeld)); (refine hK.out _ _ ?_ (fun hHeld => ?_)); ((try dsimp only); ((try simp only [cell_drew, slot_drew, below_drew]); refine ⟨?_, ?_⟩; (first | exact hS.2.1 | with_reducible exact cell_set hHeld.1 (by omega) | with_reducible exact cell_set (cell_set hHeld.1 (by omega)) (by omega)); (first | exact hS.2.2 | with_reducible exact bel_set1 hHeld.2 (by omega) | with_reducible exact bel_set2 hHeld.2 (by omega) (by omega)))); clear hK K; (try clear hS); (try clear hfx0 hx0 x0); (try clear hfy0 hy0 y0); (try clear hfx1 hx1 x1); (try clear hfy1 hy1 y1); (try dsimp only at hHeld))))
        refine wpSched_nil ?_
        rename_i wz _ _
        have HBZ := Lib.hid hHeld.2
        clear hHeld
        have HFZ := Lib.hid (HF.out.below HBZ.out)
        have HRZ := Lib.hid (HRR.out.below HBZ.out)
        have HEZ := Lib.hid (bel_on HBE.out HBZ.out)
        clear hf0 hf1 hf2 hf3
        obtain ⟨hf0, hf1, hf2, hf3⟩ := HFZ.out.cells
        obtain ⟨hr0, hr1, hr2, hr3⟩ := HRZ.out.cells
        obtain ⟨hq0, hq1, hq2, hq3⟩ := HRZ.out.free
        have HSET := Lib.hid (HRZ.out.set (.int .i64 a) (.int .i64 b) (.int .i64 c) (.int .i64 d)).cells
        have HEND := Lib.hid (bel_four (b := w.heap.size) (y0 := .int .i64 a) (y1 := .int .i64 b) (y2 := .int .i64 c) (y3 := .int .i64 d) HEZ.out (Nat.le_refl _))
        go_wp2_with fail
        refine bodyPost_ret (v := .agg #[.int .i64 a, .int .i64 b, .int .i64 c, .int .i64 d]) (by simp [results, Tryd.results64, go_sem, HSET.out.1, HSET.out.2.1, HSET.out.2.2.1, HSET.out.2.2.2]) rfl ⟨a, b, c, d, _, _, _, _, rfl, HST.out, HEND.out⟩
      · have hd1 : decide (r < (Fn : Int)) = false := decide_eq_false c1
        by_cases c2 : Z < G
        · have hd2 : decide (Z < G) = true := decide_eq_true c2
          go_wp2_with fail
          go_big_region
          go_wp2_with fail
          refine wp_region_sched (fun w' => w'.cell? ⟨w3.heap.size, 3, none⟩ = some (.int .i64 d) ∧ Below wr.heap.size wr w') [(0, true), (1, true), (2, false), (3, true), (4, true), (5, true), (6, true), (7, true), (8, true), (10, true), (11, true), (9, false), (12, false), (13, true), (14, true), (15, true)] (by kernel_rfl) (by kernel_rfl) ?_ (fun hHeld => ?_)
          · (try dsimp only)
            exact ⟨hf3, (Below.refl _ wr).drew.drew⟩
          try dsimp only at hHeld
          repeat (refine wpSched_at (by simp only [List.getElem?_toArray, List.getElem?_cons_zero, List.getElem?_cons_succ]; rfl) ?_; (first | (apply wpAt_take rfl; (intro wx hSx; (try dsimp only at hSx); go_simp; (try with_reducible rfl)); simp only [Act.put, List.setIfInBounds_toArray, List.set_cons_zero, List.set_cons_succ]) | (refine wpAt_skip rfl ?_; simp only [Act.put, List.setIfInBounds_toArray, List.set_cons_zero, List.set_cons_succ]) | (refine wpAt_pass rfl hHeld ?_; simp only [Act.put, List.setIfInBounds_toArray, List.set_cons_zero, List.set_cons_succ]) | (refine wpAt_eff rfl (fun K hK => ?_); (skip); go_simp; (first | (go_at_call 95; (with_reducible refine (nabs_any wy _ (by omega) (by omega)).mono ?_); rintro e w' ⟨rfl, hb⟩; rw [eF]; have hS := And.intro trivial (And.intro (cell_below hHeld.1 hb) (bel_on hHeld.2 hb)); clear hb hHeld) | (go_at_call 95; (with_reducible refine (nabs_any d _ (by omega) (by omega)).mono ?_); rintro e w' ⟨rfl, hb⟩; rw [eD]; have hS := And.intro trivial (And.intro (cell_below hHeld.1 hb) (bel_on hHeld.2 hb)); clear hb hHeld)); (refine hK.out _ _ ?_ (fun hHeld => ?_)); ((try dsimp only); ((try simp only [cell_drew, slot_drew, below_drew]); refine ⟨?_, ?_⟩; (first | exact hS.2.1 | with_reducible exact cell_set hHeld.1 (by omega) | with_reducible exact cell_set (cell_set hHeld.1 (by omega)) (by omega)); (first | exact hS.2.2 | with_reducible exact bel_set1 hHeld.2 (by omega) | with_reducible exact bel_set2 hHeld.2 (by omega) (by omega)))); clear hK K; (try clear hS); (try clear hfx0 hx0 x0); (try clear hfy0 hy0 y0); (try clear hfx1 hx1 x1); (try clear hfy1 hy1 y1); (try dsimp only at hHeld))))
          refine wpSched_nil ?_
          rename_i wz _ _
          have HBZ := Lib.hid hHeld.2
          clear hHeld
          have HFZ := Lib.hid (HF.out.below HBZ.out)
          have HRZ := Lib.hid (HRR.out.below HBZ.out)
          have HEZ := Lib.hid (bel_on HBE.out HBZ.out)
          clear hf0 hf1 hf2 hf3
          obtain ⟨hf0, hf1, hf2, hf3⟩ := HFZ.out.cells
          obtain ⟨hr0, hr1, hr2, hr3⟩ := HRZ.out.cells
          obtain ⟨hq0, hq1, hq2, hq3⟩ := HRZ.out.free
          have HSET := Lib.hid (HRZ.out.set (.int .i64 a) (.int .i64 b) (.int .i64 c) (.int .i64 d)).cells
          have HEND := Lib.hid (bel_four (b := w.heap.size) (y0 := .int .i64 a) (y1 := .int .i64 b) (y2 := .int .i64 c) (y3 := .int .i64 d) HEZ.out (Nat.le_refl _))
          go_wp2_with fail
          refine bodyPost_ret (v := .agg #[.int .i64 a, .int .i64 b, .int .i64 c, .int .i64 d]) (by simp [results, Tryd.results64, go_sem, HSET.out.1, HSET.out.2.1, HSET.out.2.2.1, HSET.out.2.2.2]) rfl ⟨a, b, c, d, _, _, _, _, rfl, HST.out, HEND.out⟩
        · have HN2 := Lib.hid (HN.out (by omega) (by have := EZ.out; omega))
          have hd2 : decide (Z < G) = false := decide_eq_false c2
          clear HN
          go_wp2_with fail
          go_big_region
          go_wp2_with fail
          refine wp_region_sched (fun w' => w'.cell? ⟨w3.heap.size, 3, none⟩ = some (.int .i64 d) ∧ Below wr.heap.size wr w') [(0, true), (1, true), (2, false), (3, true), (4, true), (5, true), (6, true), (7, true), (8, true), (10, true), (11, true), (9, false), (12, false), (13, true), (14, true), (15, true)] (by kernel_rfl) (by kernel_rfl) ?_ (fun hHeld => ?_)
          · (try dsimp only)
            exact ⟨hf3, (Below.refl _ wr).drew.drew⟩
          try dsimp only at hHeld
          repeat (refine wpSched_at (by simp only [List.getElem?_toArray, List.getElem?_cons_zero, List.getElem?_cons_succ]; rfl) ?_; (first | (apply wpAt_take rfl; (intro wx hSx; (try dsimp only at hSx); go_simp; (try with_reducible rfl)); simp only [Act.put, List.setIfInBounds_toArray, List.set_cons_zero, List.set_cons_succ]) | (refine wpAt_skip rfl ?_; simp only [Act.put, List.setIfInBounds_toArray, List.set_cons_zero, List.set_cons_succ]) | (refine wpAt_pass rfl hHeld ?_; simp only [Act.put, List.setIfInBounds_toArray, List.set_cons_zero, List.set_cons_succ]) | (refine wpAt_eff rfl (fun K hK => ?_); (skip); go_simp; (first | (go_at_call 95; (with_reducible refine (nabs_any wy _ (by omega) (by omega)).mono ?_); rintro e w' ⟨rfl, hb⟩; rw [eF]; have hS := And.intro trivial (And.intro (cell_below hHeld.1 hb) (bel_on hHeld.2 hb)); clear hb hHeld) | (go_at_call 95; (with_reducible refine (nabs_any d _ (by omega) (by omega)).mono ?_); rintro e w' ⟨rfl, hb⟩; rw [eD]; have hS := And.intro trivial (And.intro (cell_below hHeld.1 hb) (bel_on hHeld.2 hb)); clear hb hHeld)); (refine hK.out _ _ ?_ (fun hHeld => ?_)); ((try dsimp only); ((try simp only [cell_drew, slot_drew, below_drew]); refine ⟨?_, ?_⟩; (first | exact hS.2.1 | with_reducible exact cell_set hHeld.1 (by omega) | with_reducible exact cell_set (cell_set hHeld.1 (by omega)) (by omega)); (first | exact hS.2.2 | with_reducible exact bel_set1 hHeld.2 (by omega) | with_reducible exact bel_set2 hHeld.2 (by omega) (by omega)))); clear hK K; (try clear hS); (try clear hfx0 hx0 x0); (try clear hfy0 hy0 y0); (try clear hfx1 hx1 x1); (try clear hfy1 hy1 y1); (try dsimp only at hHeld))))
          refine wpSched_nil ?_
          rename_i wz _ _
          have HBZ := Lib.hid hHeld.2
          clear hHeld
          have HFZ := Lib.hid (HF.out.below HBZ.out)
          have HRZ := Lib.hid (HRR.out.below HBZ.out)
          have HEZ := Lib.hid (bel_on HBE.out HBZ.out)
          clear hf0 hf1 hf2 hf3
          obtain ⟨hf0, hf1, hf2, hf3⟩ := HFZ.out.cells
          obtain ⟨hq0, hq1', hq2, hq3⟩ := HFZ.out.free
          have HFS := Lib.hid (HFZ.out.set (.int .i64 c) (.int .i64 d) (.int .i64 wx) (.int .i64 wy))
          have hRF : w.heap.size ≠ w3.heap.size := by omega
          have HRS := Lib.hid (HRZ.out.other hRF (.int .i64 c) (.int .i64 d) (.int .i64 wx) (.int .i64 wy))
          have HES := Lib.hid (bel_four (b := w3.heap.size) (y0 := .int .i64 c) (y1 := .int .i64 d) (y2 := .int .i64 wx) (y3 := .int .i64 wy) HEZ.out (by omega))
          go_wp2_with fail
          go_roundg r.toNat
          case measure => have := HG.out; omega
          case rel => exact ⟨V, r, c, d, wx, wy, _, _, _, _, rfl, rfl, rfl, HN2.out, by omega, HFS.out, HRS.out, HES.out⟩

end Go.Proofs.YtpchnejdbmoicaaDoor
