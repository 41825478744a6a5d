/- The law NatShifts. -/
import Derived.Test.YtfhilapjpabeeaaDoorR2
import Derived.Test.YtfhilapjpabeeaaDoorW8
import Derived.Test.YtfhilapjpabeeaaDoorWU
namespace Go.Proofs.YtfhilapjpabeeaaDoor
open Go.RowKit Cin

theorem two_lt_pw {N c : Nat} (h : N < 32 * c) : 2 ^ N < pw c := by rw [pw_two]; exact Nat.pow_lt_pow_right (by decide) h
theorem shl_lt {x k N : Nat} (hx : x < pw k) (hN : N ≤ 3000) (hk : k ≤ 100) : x * 2 ^ N < pw 200 := by
  have h1 : 2 ^ N < pw 94 := two_lt_pw (by omega)
  exact lt_pw_mono (lt_pw_mul hx h1) (by omega)
theorem shlB (v : Value) (x : Nat) (n : Int) (k N : Nat) (w : World) (h : NatB 80 w v x k) (hk : k ≤ 100) (hc : cut n = N) (hN : N ≤ 3000) :
    Calls Tryd.prog 43 #[v, .int .i64 n] w fun e w' => ∃ v', e = .returned v' ∧ NatB 80 w' v' (x * 2 ^ N) 200 ∧ Below w.heap.size w w' :=
  (shl_any v x n k w h.1 h.2 (by omega)).mono fun _ _ ⟨v', e, hn, hb⟩ => ⟨v', e, ⟨by rw [← hc]; exact hn, shl_lt h.2 hN hk⟩, hb⟩
theorem shrB (v : Value) (x : Nat) (n : Int) (k N : Nat) (w : World) (h : NatB 80 w v x k) (hk : k ≤ 100) (hc : cut n = N) :
    Calls Tryd.prog 45 #[v, .int .i64 n] w fun e w' => ∃ v', e = .returned v' ∧ NatB 80 w' v' (x / 2 ^ N) k ∧ Below w.heap.size w w' :=
  (shr_any v x n k w h.1 h.2 (by omega)).mono fun _ _ ⟨v', e, hn, hb⟩ => ⟨v', e, ⟨by rw [← hc]; exact hn, Nat.lt_of_le_of_lt (Nat.div_le_self _ _) h.2⟩, hb⟩
theorem rshlB (v : Value) (x N k : Nat) (w : World) (h : RefB w v x k) (hk : k ≤ 100) (hN : N ≤ 3000) :
    Calls Tryd.prog 44 #[v, .int .i64 N] w fun e w' => ∃ v', e = .returned v' ∧ RefB w' v' (x * 2 ^ N) 200 ∧ Below w.heap.size w w' :=
  (refShl_any v x N k w h (by omega) (by omega)).mono fun _ _ ⟨v', e, hn, hb⟩ => ⟨v', e, ⟨hn.1, shl_lt h.2 hN hk⟩, hb⟩

set_option maxRecDepth 100000 in
set_option maxHeartbeats 8000000 in
/-- The law holds of every text and every int. -/
theorem natShifts_any (a : ByteArray) (n : Int) (w : World) (hT : Tabs w) :
    Calls Tryd.prog 7 #[.string a, .int .i64 n] w fun e w' => e = .returned (.bool true) ∧ Below w.heap.size w w' := by
  have HTT := Lib.hid hT
  clear hT
  go_enter Tryd.func7, Tryd.ntmps7
  go_wp2_with fail
  refine (alive_any _ HTT.out).mono ?_
  rintro e w1 ⟨rfl, hb1⟩
  have HB1 := Lib.hid hb1
  clear hb1
  go_wp2_with fail
  refine (pair_any a _ _).mono ?_
  rintro e w2 (⟨hok, p, q, xv, yv, rfl, hp, hq, hx, hy, hb2⟩ | ⟨hno, rfl, hb2⟩)
  · obtain ⟨adp, lp, cp, xsp, rfl, rp⟩ := hp.shape
    obtain ⟨adq, lq, cq, xsq, rfl, rq⟩ := hq.shape
    obtain ⟨adx, lx, cx, xsx, rfl, rx⟩ := hx.shape
    obtain ⟨ady, ly, cy, xsy, rfl, ry⟩ := hy.shape
    have hbX := bel_alloc2 w2 (Obj.cells #[Value.slice adp lp cp] 25) (Obj.cells #[Value.slice adq lq cq] 25)
    have hxl := decL_lt_pw hok.1.2.2.2 (by rw [byts_length]; exact hok.2.2.1)
    have HP := Lib.hid (NatB.below (⟨⟨_, rfl, hp⟩, hxl⟩ : NatB 80 w2 (.agg #[.slice adp lp cp]) (decL (byts a)) 21) hbX)
    have HX := Lib.hid (RefB.below (⟨hx, hxl⟩ : RefB w2 (.slice adx lx cx) (decL (byts a)) 21) hbX)
    have HB := Lib.hid (bel_on (bel_on HB1.out hb2) hbX)
    have hc0 := cell0 (heldN2 (w := w2) (c0 := #[Value.slice adp lp cp]) (t0 := 25) (c1 := #[Value.slice adq lq cq]) (t1 := 25)).1
    clear hok hp hq hx hy hb2 rp rq rx ry hbX hxl HB1
    generalize decL (byts a) = x at *
    by_cases hbig : 3000 < n
    · have hd : decide ((3000 : Int) < n) = true := decide_eq_true hbig
      clear hc0
      go_wp2_with fail
      refine (alive_any _ (HTT.out.below HB.out)).mono ?_
      rintro e w3 ⟨rfl, hb3⟩
      have HB3 := Lib.hid (bel_on HB.out hb3)
      clear hb3
      go_wp2
      go_ret
      exact ⟨rfl, HB3.out⟩
    · have hd : decide ((3000 : Int) < n) = false := decide_eq_false hbig
      obtain ⟨N, hmax, hcut, hN3⟩ : ∃ N : Nat, max n 0 = (N : Int) ∧ cut n = N ∧ N ≤ 3000 := ⟨n.toNat, by omega, by unfold cut; split; omega; split <;> omega, by omega⟩
      clear hbig
      go_wp2_with fail
      generalize (w2.alloc (Obj.cells #[Value.slice adp lp cp] 25)).alloc (Obj.cells #[Value.slice adq lq cq] 25) = X at *
      refine (shlB (.agg #[.slice adp lp cp]) x n 21 N _ HP.out (by decide) hcut hN3).mono ?_
      rintro e w4 ⟨va, rfl, hn, hb⟩
      replace hc0 := cell_below hc0 hb
      replace HP := Lib.hid (HP.out.below hb)
      replace HX := Lib.hid (HX.out.below hb)
      have NA := Lib.hid hn
      replace HB := Lib.hid (bel_on HB.out hb)
      clear hb hn
      go_wp2_with fail
      refine (text_any va (x * 2 ^ N) 200 _ NA.out (by decide) (HTT.out.below HB.out)).mono ?_
      rintro e w5 ⟨rfl, hb⟩
      replace hc0 := cell_below hc0 hb
      replace HP := Lib.hid (HP.out.below hb)
      replace HX := Lib.hid (HX.out.below hb)
      replace NA := Lib.hid (NA.out.below hb)
      replace HB := Lib.hid (bel_on HB.out hb)
      clear hb
      go_wp2_with fail
      refine (rshlB (.slice adx lx cx) x N 21 _ HX.out (by decide) hN3).mono ?_
      rintro e w6 ⟨vb, rfl, hn, hb⟩
      replace hc0 := cell_below hc0 hb
      replace HP := Lib.hid (HP.out.below hb)
      replace HX := Lib.hid (HX.out.below hb)
      replace NA := Lib.hid (NA.out.below hb)
      have NB := Lib.hid hn
      replace HB := Lib.hid (bel_on HB.out hb)
      clear hb hn
      go_wp2_with fail
      refine (rtextB vb (x * 2 ^ N) 200 _ NB.out (by decide)).mono ?_
      rintro e w7 ⟨rfl, hb⟩
      replace hc0 := cell_below hc0 hb
      replace HP := Lib.hid (HP.out.below hb)
      replace HX := Lib.hid (HX.out.below hb)
      replace NA := Lib.hid (NA.out.below hb)
      replace NB := Lib.hid (NB.out.below hb)
      replace HB := Lib.hid (bel_on HB.out hb)
      clear hb
      clear NA NB
      go_wp2_with fail
      refine (shrB (.agg #[.slice adp lp cp]) x n 21 N _ HP.out (by decide) hcut).mono ?_
      rintro e w8 ⟨vc, rfl, hn, hb⟩
      replace hc0 := cell_below hc0 hb
      replace HP := Lib.hid (HP.out.below hb)
      replace HX := Lib.hid (HX.out.below hb)
      have NC := Lib.hid hn
      replace HB := Lib.hid (bel_on HB.out hb)
      clear hb hn
      go_wp2_with fail
      refine (text_any vc (x / 2 ^ N) 21 _ NC.out (by decide) (HTT.out.below HB.out)).mono ?_
      rintro e w9 ⟨rfl, hb⟩
      replace hc0 := cell_below hc0 hb
      replace HP := Lib.hid (HP.out.below hb)
      replace HX := Lib.hid (HX.out.below hb)
      replace NC := Lib.hid (NC.out.below hb)
      replace HB := Lib.hid (bel_on HB.out hb)
      clear hb
      go_wp2_with fail
      refine (refShr_any (.slice adx lx cx) x N 21 _ HX.out (by decide) (by omega)).mono ?_
      rintro e w10 ⟨vd, rfl, hn, hb⟩
      replace hc0 := cell_below hc0 hb
      replace HP := Lib.hid (HP.out.below hb)
      replace HX := Lib.hid (HX.out.below hb)
      replace NC := Lib.hid (NC.out.below hb)
      have ND := Lib.hid hn
      replace HB := Lib.hid (bel_on HB.out hb)
      clear hb hn
      go_wp2_with fail
      refine (rtextB vd (x / 2 ^ N) 21 _ ND.out (by decide)).mono ?_
      rintro e w11 ⟨rfl, hb⟩
      replace hc0 := cell_below hc0 hb
      replace HP := Lib.hid (HP.out.below hb)
      replace HX := Lib.hid (HX.out.below hb)
      replace NC := Lib.hid (NC.out.below hb)
      replace ND := Lib.hid (ND.out.below hb)
      replace HB := Lib.hid (bel_on HB.out hb)
      clear hb
      go_wp2_with fail
      go_ret
      exact ⟨rfl, HB.out⟩
  · have HB2 := Lib.hid (bel_on (bel_on HB1.out hb2) (bel_alloc2 w2 (Obj.cells #[Value.slice none 0 0] 25) (Obj.cells #[Value.slice none 0 0] 25)))
    clear hno hb2 HB1
    go_wp2_with fail
    refine (alive_any _ (HTT.out.below HB2.out)).mono ?_
    rintro e w3 ⟨rfl, hb3⟩
    have HB3 := Lib.hid (bel_on HB2.out hb3)
    clear hb3
    go_wp2
    go_ret
    exact ⟨rfl, HB3.out⟩

end Go.Proofs.YtfhilapjpabeeaaDoor
