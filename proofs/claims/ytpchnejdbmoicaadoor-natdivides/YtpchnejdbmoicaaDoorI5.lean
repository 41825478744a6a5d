/- Contracts of nat's and whole's Div of small numbers, of whole's Text of small numbers, of law2's alive. -/
import Derived.Test.YtpchnejdbmoicaaDoorI2
import Derived.Test.YtpchnejdbmoicaaDoorW8
import Derived.Test.YtpchnejdbmoicaaDoorDig
namespace Go.Proofs.YtpchnejdbmoicaaDoor
open Go.RowKit Cin

theorem lowB (v : Value) (n : Nat) (w : World) (h : NatB 68 w v n 2) :
    Calls Tryd.prog 19 #[v] w fun e w' => e = .returned (.int .u64 (n : Nat)) ∧ Below w.heap.size w w' :=
  (low_any v n w h.1).mono fun _ _ ⟨e, hb⟩ => ⟨by rw [e, Nat.mod_eq_of_lt (show n < 18446744073709551616 from h.2)], hb⟩

set_option maxRecDepth 100000 in
set_option maxHeartbeats 1600000 in
/-- Div of two words, b not 0. -/
theorem divSmall_any (v u : Value) (x y : Nat) (w : World) (h : NatB 68 w v x 2) (h' : NatB 68 w u y 2) (hy : y ≠ 0) :
    Calls Tryd.prog 25 #[v, u] w fun e w' => ∃ v' u', e = .returned (.tuple #[v', u', .bool true]) ∧ NatB 68 w' v' (x / y) 2 ∧ NatB 68 w' u' (x % y) 2 ∧ Below w.heap.size w w' := by
  obtain ⟨ad, len, cap, rfl, xs, hs, ho, hnm, hx⟩ := h.shape
  obtain ⟨ad', len', cap', rfl, ys, hs', ho', hnm', hy'⟩ := h'.shape
  have hlx := hs.len
  have hly := hs'.len
  have hl : len ≤ 2 := by have := norm_len hnm (m := 2) (by rw [hx]; exact h.2); omega
  have hl' : len' ≤ 2 := by have := norm_len hnm' (m := 2) (by rw [hy']; exact h'.2); omega
  have hl0 : len' ≠ 0 := fun e => hy (by rw [← hy', List.length_eq_zero_iff.1 (hly.trans e)]; rfl)
  have hxl : x < 18446744073709551616 := h.2
  have hyl : y < 18446744073709551616 := h'.2
  have hq := Nat.div_le_self x y
  have hm := Nat.mod_lt x (Nat.pos_of_ne_zero hy)
  have hlb : ((len' : Int) == 0) = false := beq_eq_false_iff_ne.2 (by omega)
  obtain ⟨q, eq1, hqd⟩ : ∃ q : Nat, IntKind.u64.wrap ((x : Int) / (y : Int)) = (q : Int) ∧ q = x / y := ⟨x / y, by rw [← Int.natCast_ediv]; generalize x / y = q at *; rw [IntKind.wrap_u64]; omega, rfl⟩
  obtain ⟨r, eq2, hrd⟩ : ∃ r : Nat, (x : Int).tmod (y : Int) = (r : Int) ∧ r = x % y := ⟨x % y, rfl, rfl⟩
  have hql : q < 18446744073709551616 := by omega
  have hrl : r < 18446744073709551616 := by omega
  have HQD := Lib.hid hqd
  have HRD := Lib.hid hrd
  rw [← hqd, ← hrd]
  clear hqd hrd hq hm
  have H := Lib.hid h
  have H' := Lib.hid h'
  clear h h' hs hs' ho ho' hnm hnm' hx hy' hlx hly
  go_enter Tryd.func25, Tryd.ntmps25
  go_wp2_with fail
  have hh := heldN4 (w := w) (c0 := #[Value.slice ad len cap]) (t0 := 25) (c1 := #[Value.slice ad' len' cap']) (t1 := 25) (c2 := #[Value.slice none 0 0]) (t2 := 25) (c3 := #[Value.slice none 0 0]) (t3 := 25)
  have hbX := bel_alloc4 w (Obj.cells #[Value.slice ad len cap] 25) (Obj.cells #[Value.slice ad' len' cap'] 25) (Obj.cells #[Value.slice none 0 0] 25) (Obj.cells #[Value.slice none 0 0] 25)
  generalize (((w.alloc (Obj.cells #[Value.slice ad len cap] 25)).alloc (Obj.cells #[Value.slice ad' len' cap'] 25)).alloc (Obj.cells #[Value.slice none 0 0] 25)).alloc (Obj.cells #[Value.slice none 0 0] 25) = X at *
  have hc0 := cell0 hh.1
  have hd0 := cell0 hh.2.1
  have HS0 := Lib.hid (Slot.of (n := 1) hh.2.2.1 rfl)
  have HS1 := Lib.hid (Slot.of (n := 1) hh.2.2.2.1 rfl)
  have HBX := Lib.hid hbX
  clear hh hbX
  refine wp_region_sched (fun w' => w'.cell? ⟨w.heap.size, 0, none⟩ = some (.slice ad len cap) ∧ w'.cell? ⟨w.heap.size + 1, 0, none⟩ = some (.slice ad' len' cap') ∧ Slot w' (w.heap.size + 1 + 1) 25 1 ∧ Slot w' (w.heap.size + 1 + 1 + 1) 25 1 ∧ Below w.heap.size w w') [(0, true), (2, true), (6, true), (8, true), (1, false), (3, false), (4, true), (5, false), (7, false), (9, false), (10, true), (11, false), (12, false), (13, false), (14, true)] (by kernel_rfl) (by kernel_rfl) ?_ (fun hHeld => ?_)
  · (try dsimp only)
    exact ⟨hc0, hd0, HS0.out.drew, HS1.out.drew, HBX.out.drew⟩
  try dsimp only at hHeld
  repeat (refine wpSched_at (by simp only [List.getElem?_toArray, List.getElem?_cons_zero, List.getElem?_cons_succ]; rfl) ?_; (first | (apply wpAt_take rfl; (intro wx hSx; (try dsimp only at hSx); go_simp; (try with_reducible rfl)); simp only [Act.put, List.setIfInBounds_toArray, List.set_cons_zero, List.set_cons_succ]) | (refine wpAt_skip rfl ?_; simp only [Act.put, List.setIfInBounds_toArray, List.set_cons_zero, List.set_cons_succ]) | (refine wpAt_pass rfl hHeld ?_; simp only [Act.put, List.setIfInBounds_toArray, List.set_cons_zero, List.set_cons_succ]) | (refine wpAt_eff rfl (fun K hK => ?_); ((obtain ⟨x0, hx0, hfx0⟩ := hHeld.2.2.1.one); (try simp only [cell_drew, frozen_drew] at hx0 hfx0); (obtain ⟨x1, hx1, hfx1⟩ := hHeld.2.2.2.1.one); (try simp only [cell_drew, frozen_drew] at hx1 hfx1)); go_simp; (first | (go_at_call 19; (with_reducible refine (lowB (.agg #[.slice ad len cap]) x _ ?_).mono ?_); (exact H.out.below hHeld.2.2.2.2); rintro e w' ⟨rfl, hb⟩; (try replace NQ := Lib.hid (NQ.out.below hb)); have hS := And.intro trivial (And.intro (cell_below hHeld.1 hb) (And.intro (cell_below hHeld.2.1 hb) (And.intro (hHeld.2.2.1.below hb) (And.intro (hHeld.2.2.2.1.below hb) (bel_on hHeld.2.2.2.2 hb))))); clear hb hHeld) | (go_at_call 19; (with_reducible refine (lowB (.agg #[.slice ad' len' cap']) y _ ?_).mono ?_); (exact H'.out.below hHeld.2.2.2.2); rintro e w' ⟨rfl, hb⟩; (try replace NQ := Lib.hid (NQ.out.below hb)); have hS := And.intro trivial (And.intro (cell_below hHeld.1 hb) (And.intro (cell_below hHeld.2.1 hb) (And.intro (hHeld.2.2.1.below hb) (And.intro (hHeld.2.2.2.1.below hb) (bel_on hHeld.2.2.2.2 hb))))); clear hb hHeld) | (go_at_call 45; (with_reducible refine (ofB q _ hql).mono ?_); rintro e w' ⟨vq, rfl, hn, hb⟩; (try replace NQ := Lib.hid (NQ.out.below hb)); have NQ := Lib.hid hn; obtain ⟨adQ, lenQ, capQ, rfl⟩ := NQ.out.shape2; have hS := And.intro trivial (And.intro (cell_below hHeld.1 hb) (And.intro (cell_below hHeld.2.1 hb) (And.intro (hHeld.2.2.1.below hb) (And.intro (hHeld.2.2.2.1.below hb) (bel_on hHeld.2.2.2.2 hb))))); clear hb hHeld hn) | (go_at_call 45; (with_reducible refine (ofB r _ hrl).mono ?_); rintro e w' ⟨vr, rfl, hn, hb⟩; (try replace NQ := Lib.hid (NQ.out.below hb)); have NR := Lib.hid hn; obtain ⟨adR, lenR, capR, rfl⟩ := NR.out.shape2; have hS := And.intro trivial (And.intro (cell_below hHeld.1 hb) (And.intro (cell_below hHeld.2.1 hb) (And.intro (hHeld.2.2.1.below hb) (And.intro (hHeld.2.2.2.1.below hb) (bel_on hHeld.2.2.2.2 hb))))); clear hb hHeld hn) | (try simp only [cell_drew, slot_drew, below_drew] at hHeld)); (refine hK.out _ _ ?_ (fun hHeld => ?_)); ((try dsimp only); ((try simp only [cell_drew, slot_drew, below_drew]); refine ⟨?_, ?_, ?_, ?_, ?_⟩; (first | exact hS.2.1 | with_reducible exact cell_set hHeld.1 (by omega) | with_reducible exact cell_set (cell_set hHeld.1 (by omega)) (by omega)); (first | exact hS.2.2.1 | with_reducible exact cell_set hHeld.2.1 (by omega) | with_reducible exact cell_set (cell_set hHeld.2.1 (by omega)) (by omega)); (first | exact hS.2.2.2.1 | with_reducible exact hHeld.2.2.1.set _ _ _ | with_reducible exact (hHeld.2.2.1.set _ _ _).set _ _ _); (first | exact hS.2.2.2.2.1 | with_reducible exact hHeld.2.2.2.1.set _ _ _ | with_reducible exact (hHeld.2.2.2.1.set _ _ _).set _ _ _); (first | exact hS.2.2.2.2.2 | with_reducible exact bel_set1 hHeld.2.2.2.2 (by omega) | with_reducible exact bel_set2 hHeld.2.2.2.2 (by omega) (by omega)))); clear hK K; (try clear hS); (try clear hfx0 hx0 x0); (try clear hfy0 hy0 y0); (try clear hfx1 hx1 x1); (try clear hfy1 hy1 y1); (try dsimp only at hHeld))))
  refine wpSched_nil ?_
  rename_i hOld _
  have HF := Lib.hid (fin_nat2 NQ.out NR.out hOld.2.2.1 hOld.2.2.2.1 (by decide) (by decide) hOld.2.2.2.2 (by omega) (by omega) (by omega) rfl)
  clear hHeld hOld
  go_wp2_with fail
  refine bodyPost_ret (v := .tuple #[.agg #[.slice adQ lenQ capQ], .agg #[.slice adR lenR capR], .bool true]) (by simp [results, Tryd.results25, go_sem, HF.out.2.2.2.1, HF.out.2.2.2.2]) rfl ⟨_, _, rfl, HF.out.1, HF.out.2.1, HF.out.2.2.1⟩


set_option maxHeartbeats 800000 in
/-- Text of a small number. -/
theorem itextSmall (v : Value) (z : Int) (k : Nat) (w : World) (h : IntB 68 w v z k) (hz : z.natAbs < 100) :
    Calls Tryd.prog 36 #[v] w fun e w' => e = .returned (.string (intS z)) ∧ Below w.heap.size w w' := by
  obtain ⟨ad, len, cap, rfl, hr⟩ := h.shape
  have H := Lib.hid h.part.1
  have hlen := dec_len 2 z.natAbs (by decide) hz
  clear h hr
  by_cases h0 : z < 0
  · rw [decide_eq_true h0, intS_neg h0]
    go_enter Tryd.func36, Tryd.ntmps36
    go_wp2_with fail
    refine (text_small _ z.natAbs _ (H.out.1.below (bel_alloc _ _)) hz).mono ?_
    rintro e w1 ⟨rfl, hb⟩
    have HB := Lib.hid (bel_on (bel_alloc _ _) hb)
    clear hb
    go_wp2
    go_ret
    exact ⟨rfl, HB.out⟩
  · rw [decide_eq_false h0, intS_pos h0]
    go_enter Tryd.func36, Tryd.ntmps36
    go_wp2_with fail
    refine (text_small _ z.natAbs _ (H.out.1.below (bel_alloc _ _)) hz).mono ?_
    rintro e w1 ⟨rfl, hb⟩
    have HB := Lib.hid (bel_on (bel_alloc _ _) hb)
    clear hb
    go_wp2
    go_ret
    exact ⟨rfl, HB.out⟩

end Go.Proofs.YtpchnejdbmoicaaDoor
