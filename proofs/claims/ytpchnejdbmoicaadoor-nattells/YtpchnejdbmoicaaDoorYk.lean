/- The contract of the reference's SubNat. -/
import Derived.Test.YtpchnejdbmoicaaDoorYd
import Derived.Test.YtpchnejdbmoicaaDoorYj
import Derived.Test.YtpchnejdbmoicaaDoorYf
namespace Go.Proofs.YtpchnejdbmoicaaDoor
open Go.RowKit Cin

set_option maxRecDepth 100000 in
set_option maxHeartbeats 1000000 in
/-- SubNat: a less b, which is not greater. -/
theorem refSub_any (v u : Value) (x y : Nat) (L : Nat) (w : World) (h : RefV 68 w v x) (h' : RefV 68 w u y) (hx : x < pw L) (hL : L ≤ 100000000) (hle : y ≤ x) :
    Calls Tryd.prog 70 #[v, u] w fun e w' => ∃ v', e = .returned v' ∧ RefV 68 w' v' (x - y) ∧ Below w.heap.size w w' := by
  obtain ⟨ad, len, cap, xs, rfl, hs, ho, hnm, rfl, hlx, hcx⟩ := h.shape
  obtain ⟨ad', len', cap', ys, rfl, hs', ho', hnm', rfl, hly, hcy⟩ := h'.shape
  obtain ⟨i0, hi0, hz0, hz1, hz2⟩ := info_parts info_u32
  have hl : len ≤ 100000000 := by have := norm_len hnm hx; omega
  have hl' : len' ≤ 100000000 := by have := norm_len hnm' (Nat.lt_of_le_of_lt hle hx); omega
  have hll : len' ≤ len := by
    rcases Nat.lt_or_ge len len' with h0 | h0
    · have := val_lt_of_len ho hnm' (by omega); omega
    · exact h0
  have H := Lib.hid hs
  have H' := Lib.hid hs'
  have HLX := Lib.hid hlx
  have HLY := Lib.hid hly
  have HLE := Lib.hid hle
  have HD := Lib.hid (show ∀ b' o' n' c', Value.slice ad len cap = .slice (some ⟨b', o', none⟩) n' c' → ¬ (b' = w.heap.size) from fun b' o' n' c' e => by have := hs.lt e; omega)
  have HD' := Lib.hid (show ∀ b' o' n' c', Value.slice ad' len' cap' = .slice (some ⟨b', o', none⟩) n' c' → ¬ (b' = w.heap.size) from fun b' o' n' c' e => by have := hs'.lt e; omega)
  clear hx h h' hs hs' hlx hly hnm hnm' hle
  go_enter Tryd.func70, Tryd.ntmps70
  go_wp2_with (at_make; refine wpList_make_ints _ rfl _ _ 29 rfl 68 i0 .u32 Tryd.underlying29 hi0 hz0 hz1 .i64 .i64 _ _ len len rfl rfl (by omega) (by omega) (Nat.le_refl _) (by rw [hz2]; omega) (by omega) ?_)
  have hkW : Blk (w.alloc (Obj.cells (ints IntKind.u32 (List.replicate len 0)) 68)) w.heap.size 68 .u32 (List.replicate len 0) := Blk.new _ _ _ _
  have hbW := bel_alloc w (Obj.cells (ints IntKind.u32 (List.replicate len 0)) 68)
  generalize w.alloc (Obj.cells (ints IntKind.u32 (List.replicate len 0)) 68) = W at *
  have hszW := hkW.lt
  have HSW := Lib.hid (H.out.below hbW)
  have HLW := Lib.hid (H'.out.below hbW)
  have HBW := Lib.hid hbW
  have HKW := Lib.hid hkW
  clear hbW hkW H H'
  go_loopw [6, 7] (fun c i wr => ∃ (k q : Nat) (os : List Nat), k ≤ len ∧ i = .int .i64 k ∧ c = .int .u64 q ∧ q ≤ 1 ∧ os.length = k ∧ Ok os ∧ val (xs.take k) + pw k * q = val os + val (ys.take k) ∧
      Blk wr w.heap.size 68 .u32 (splice (List.replicate len 0) 0 os) ∧ Keep (· = w.heap.size) W wr) (fun _ i _ => len - (intOf i).toNat)
  case atStart => exact ⟨0, 0, [], Nat.zero_le _, rfl, rfl, by omega, rfl, Ok.nil, rfl, by rw [splice_nil]; exact HKW.out, Keep.refl _ _⟩
  case round =>
    obtain ⟨k, q, os, hk, rfl, rfl, hq, hol, hok, hv, hblk, hkeep⟩ := hrel
    have HOL := Lib.hid hol
    have HV := Lib.hid hv
    have HBK := Lib.hid hblk
    have HK := Lib.hid hkeep
    have HSr := Lib.hid (HSW.out.keep HK.out HD.out)
    have HLr := Lib.hid (HLW.out.keep HK.out HD'.out)
    by_cases hlt : k < len
    · have hcell2 := hblk.cell (i := k) (by rw [splice_length (by simp; omega)]; simp; omega)
      have hf := hblk.free k
      have hlim : lim xs k < 4294967296 := lim_lt ho _
      have hlim2 : lim ys k < 4294967296 := lim_lt ho' _
      clear hol hv hblk hkeep
      obtain ⟨bx, offx, rfl, hcell, hblt⟩ := HSr.out.cell (i := k) (by have := HLX.out; omega)
      by_cases h2 : k < len'
      · have d2 : decide (k < len') = true := decide_eq_true h2
        obtain ⟨by_, offy, rfl, hcelly, hblty⟩ := HLr.out.cell (i := k) (by have := HLY.out; omega)
        obtain ⟨X, eX, eX'⟩ : ∃ X : Nat, (q : Int) + ((lim ys k : Nat) : Int) = (X : Int) ∧ X = q + lim ys k := ⟨_, by omega, rfl⟩
        have hXb : X ≤ 4294967296 := by omega
        by_cases h3 : lim xs k < X
        · have d3 : decide (lim xs k < X) = true := decide_eq_true h3
          obtain ⟨Y, eY, eY'⟩ : ∃ Y : Nat, ((lim xs k : Nat) : Int) + 4294967296 = (Y : Int) ∧ Y = lim xs k + 4294967296 := ⟨_, by omega, rfl⟩
          obtain ⟨tm, htm, htmb⟩ : ∃ tm : Nat, (Y : Int) - (X : Int) = (tm : Int) ∧ tm < 4294967296 := ⟨Y - X, by omega, by omega⟩
          have hYb : Y ≤ 8589934591 := by omega
          have R := step_sub (xs := xs) (ys := ys) (ys0 := List.replicate len 0) (t := -(q : Int) + ((lim xs k : Int) - (lim ys k : Int))) (td := 1) (tm := tm) HOL.out hok HV.out HBK.out HK.out rfl (by omega) (by omega) (by simp; omega) hq hlim hlim2
          have HR := Lib.hid R
          clear R h3 hi0 hz0 hz1 hz2 eX' eY'
          go_wp2_with fail
          obtain ⟨r1, r2, r3, r4, r5, r6⟩ := HR.out
          exact ⟨⟨k + 1, 1, os ++ [tm], by omega, by go_num, rfl, r1, r2, r3, r4, r5, r6⟩, by simp [intOf]; omega⟩
        · have d3 : decide (lim xs k < X) = false := decide_eq_false h3
          obtain ⟨tm, htm, htmb⟩ : ∃ tm : Nat, ((lim xs k : Nat) : Int) - (X : Int) = (tm : Int) ∧ tm < 4294967296 := ⟨lim xs k - X, by omega, by omega⟩
          have R := step_sub (xs := xs) (ys := ys) (ys0 := List.replicate len 0) (t := -(q : Int) + ((lim xs k : Int) - (lim ys k : Int))) (td := 0) (tm := tm) HOL.out hok HV.out HBK.out HK.out rfl (by omega) (by omega) (by simp; omega) hq hlim hlim2
          have HR := Lib.hid R
          clear R h3 hi0 hz0 hz1 hz2 eX'
          go_wp2_with fail
          obtain ⟨r1, r2, r3, r4, r5, r6⟩ := HR.out
          exact ⟨⟨k + 1, 0, os ++ [tm], by omega, by go_num, rfl, r1, r2, r3, r4, r5, r6⟩, by simp [intOf]; omega⟩
      · have d2 : decide (k < len') = false := decide_eq_false h2
        have z2 : lim ys k = 0 := lim_ge (by have := HLY.out; omega)
        obtain ⟨X, eX, eX'⟩ : ∃ X : Nat, X = q ∧ X = q + lim ys k := ⟨q, rfl, by omega⟩
        subst eX
        have hXb : X ≤ 4294967296 := by omega
        by_cases h3 : lim xs k < X
        · have d3 : decide (lim xs k < X) = true := decide_eq_true h3
          obtain ⟨Y, eY, eY'⟩ : ∃ Y : Nat, ((lim xs k : Nat) : Int) + 4294967296 = (Y : Int) ∧ Y = lim xs k + 4294967296 := ⟨_, by omega, rfl⟩
          obtain ⟨tm, htm, htmb⟩ : ∃ tm : Nat, (Y : Int) - (X : Int) = (tm : Int) ∧ tm < 4294967296 := ⟨Y - X, by omega, by omega⟩
          have hYb : Y ≤ 8589934591 := by omega
          have R := step_sub (xs := xs) (ys := ys) (ys0 := List.replicate len 0) (t := -(X : Int) + ((lim xs k : Int) - (lim ys k : Int))) (td := 1) (tm := tm) HOL.out hok HV.out HBK.out HK.out rfl (by omega) (by omega) (by simp; omega) hq hlim hlim2
          have HR := Lib.hid R
          clear R h3 hi0 hz0 hz1 hz2 eX' eY' z2 h2
          go_wp2_with fail
          obtain ⟨r1, r2, r3, r4, r5, r6⟩ := HR.out
          exact ⟨⟨k + 1, 1, os ++ [tm], by omega, by go_num, rfl, r1, r2, r3, r4, r5, r6⟩, by simp [intOf]; omega⟩
        · have d3 : decide (lim xs k < X) = false := decide_eq_false h3
          obtain ⟨tm, htm, htmb⟩ : ∃ tm : Nat, ((lim xs k : Nat) : Int) - (X : Int) = (tm : Int) ∧ tm < 4294967296 := ⟨lim xs k - X, by omega, by omega⟩
          have R := step_sub (xs := xs) (ys := ys) (ys0 := List.replicate len 0) (t := -(X : Int) + ((lim xs k : Int) - (lim ys k : Int))) (td := 0) (tm := tm) HOL.out hok HV.out HBK.out HK.out rfl (by omega) (by omega) (by simp; omega) hq hlim hlim2
          have HR := Lib.hid R
          clear R h3 hi0 hz0 hz1 hz2 eX' z2 h2
          go_wp2_with fail
          obtain ⟨r1, r2, r3, r4, r5, r6⟩ := HR.out
          exact ⟨⟨k + 1, 0, os ++ [tm], by omega, by go_num, rfl, r1, r2, r3, r4, r5, r6⟩, by simp [intOf]; omega⟩
    · obtain rfl : k = len := by omega
      have hos : splice (List.replicate k 0) 0 os = os := splice_zeros_all HOL.out
      have hb2 := HBK.out
      rw [hos] at hb2
      have hsl := Sl.of_blk hb2
      rw [HOL.out] at hsl
      have hval : val os = val xs - val ys := end_sub HOL.out hok HV.out HLX.out (by have := HLY.out; omega) HLE.out
      have HSL := Lib.hid hsl
      have HV2 := Lib.hid hval
      have HB2 := Lib.hid (HBW.out.trans (HK.out.below (B := w.heap.size) (by omega) (fun j hj => by omega)))
      clear hos hb2 hsl hval hblk hkeep hol hv
      go_wp2_with fail
      refine (rtrim_any _ os _ HSL.out hok (by rw [HOL.out]; omega)).mono ?_
      rintro e w2 ⟨v', rfl, hr2, rfl⟩
      have HR2 := Lib.hid hr2
      clear hr2
      go_wp2_with fail
      go_ret
      exact ⟨_, rfl, by have := HR2.out; rw [HV2.out] at this; exact this, HB2.out⟩

end Go.Proofs.YtpchnejdbmoicaaDoor
/- The contract of the reference's MulNat. -/
namespace Go.Proofs.YtpchnejdbmoicaaDoor
open Go.RowKit Cin

theorem keep_drewN {S : Nat → Prop} {w w' : World} (h : Keep S w w') (n : Nat) : Keep S w (w'.drewN n) := ⟨h.os, h.tape, h.output, h.size, h.block⟩

end Go.Proofs.YtpchnejdbmoicaaDoor
/- What the laws ask of texts and of the document's numbers, with how great they are. -/
namespace Go.Proofs.YtpchnejdbmoicaaDoor
open Go.RowKit Cin

/-- The document's number n, and how great it is. -/
def RefB (w : World) (v : Value) (n k : Nat) : Prop := RefV 68 w v n ∧ n < pw k
theorem RefB.below {w w' : World} {v : Value} {n k : Nat} (h : RefB w v n k) (hb : Below w.heap.size w w') : RefB w' v n k := ⟨h.1.below hb, h.2⟩
theorem drewN_below (w : World) (n : Nat) : Below w.heap.size w (w.drewN n) := bel_drewN (Below.refl _ _) n

theorem raddB (v u : Value) (x y a b : Nat) (w : World) (h : RefB w v x a) (h' : RefB w u y b) (ha : a ≤ 10000000) (hb : b ≤ 10000000) :
    Calls Tryd.prog 71 #[v, u] w fun e w' => ∃ v', e = .returned v' ∧ RefB w' v' (x + y) (a + b + 1) ∧ Below w.heap.size w w' :=
  (refAdd_any v u x y (a + b) w h.1 h'.1 (lt_pw_mono h.2 (by omega)) (lt_pw_mono h'.2 (by omega)) (by omega)).mono fun _ _ ⟨v', e, hn, hw⟩ => ⟨v', e, ⟨hn, by have := pw_big a b; have := h.2; have := h'.2; omega⟩, hw⟩

theorem rsubB (v u : Value) (x y a b : Nat) (w : World) (h : RefB w v x a) (h' : RefB w u y b) (ha : a ≤ 10000000) (hb : b ≤ 10000000) (hle : y ≤ x) :
    Calls Tryd.prog 70 #[v, u] w fun e w' => ∃ v', e = .returned v' ∧ RefB w' v' (x - y) a ∧ Below w.heap.size w w' :=
  (refSub_any v u x y (a + b) w h.1 h'.1 (lt_pw_mono h.2 (by omega)) (by omega) hle).mono fun _ _ ⟨v', e, hn, hw⟩ => ⟨v', e, ⟨hn, by have := h.2; omega⟩, hw⟩

theorem rcmpB (v u : Value) (x y a b : Nat) (w : World) (h : RefB w v x a) (h' : RefB w u y b) (ha : a ≤ 10000000) (hb : b ≤ 10000000) :
    Calls Tryd.prog 69 #[v, u] w fun e w' => e = .returned (.int .i64 (cmpI x y)) ∧ Below w.heap.size w w' :=
  (refCmp_any v u x y (a + b) w h.1 h'.1 (lt_pw_mono h.2 (by omega)) (lt_pw_mono h'.2 (by omega)) (by omega)).mono fun _ _ ⟨e, n, hw⟩ => ⟨e, by rw [hw]; exact drewN_below _ _⟩

theorem rtextB (v : Value) (n k : Nat) (w : World) (h : RefB w v n k) (hk : k ≤ 1000000) :
    Calls Tryd.prog 23 #[v] w fun e w' => e = .returned (.string (decS n)) ∧ Below w.heap.size w w' := refText_any v n k w h.1 h.2 hk

theorem decS_zero : decS 0 = ⟨#[48]⟩ := by unfold decS; rw [dec_small (by decide)]; rfl

end Go.Proofs.YtpchnejdbmoicaaDoor
/- Contracts of the document's whole numbers. -/
namespace Go.Proofs.YtpchnejdbmoicaaDoor
open Go.RowKit Cin

theorem refB_part {w : World} {ad : Option Addr} {len cap k : Nat} {b : Bool} {z : Int} (h : IntB 68 w (.agg #[.bool b, .slice ad len cap]) z k) : RefB w (.slice ad len cap) z.natAbs k := by
  obtain ⟨⟨s, e, r⟩, hk⟩ := h
  injection e with e
  injection e with e
  simp only [List.cons.injEq, and_true] at e
  obtain ⟨_, rfl⟩ := e
  exact ⟨r, hk⟩
theorem refB_len {w : World} {ad : Option Addr} {len cap n k : Nat} (h : RefB w (.slice ad len cap) n k) : len = 0 ↔ n = 0 := by
  obtain ⟨⟨xs, hs, ho, hnm, rfl⟩, _⟩ := h
  have hl := hs.len
  constructor
  · intro e
    rw [List.length_eq_zero_iff.1 (hl.trans e)]; rfl
  · intro e
    rw [norm_val_zero hnm e] at hl
    exact hl.symm

set_option maxHeartbeats 800000 in
/-- IntFrom: with a sign. -/
theorem rfrom_any (b : Bool) (v : Value) (n k : Nat) (w : World) (h : RefB w v n k) :
    Calls Tryd.prog 81 #[.bool b, v] w fun e w' => ∃ v', e = .returned v' ∧ IntB 68 w' v' (sg b n) k ∧ Below w.heap.size w w' := by
  obtain ⟨ad, len, cap, xs, rfl, _⟩ := h.1.shape
  have hl := refB_len h
  have H := Lib.hid h
  clear h
  cases b
  · clear hl
    go_enter Tryd.func81, Tryd.ntmps81
    go_wp2_with fail
    refine bodyPost_ret (v := .agg #[.bool false, .slice ad len cap]) (by simp [results, Tryd.results81, go_sem]) rfl ⟨_, rfl, intB_of (b := false) (H.out.1.below (bel_alloc _ _)) H.out.2 rfl, bel_alloc _ _⟩
  · by_cases h0 : n = 0
    · have hz : len = 0 := hl.2 h0
      subst hz
      have HI := Lib.hid (fun W (h : RefV 68 W (.slice ad 0 cap) n) => intB_of (b := true) (bb := false) h H.out.2 (by rw [decide_eq_true h0]; rfl))
      clear hl h0
      go_enter Tryd.func81, Tryd.ntmps81
      go_wp2_with fail
      refine bodyPost_ret (v := .agg #[.bool false, .slice ad 0 cap]) (by simp [results, Tryd.results81, go_sem]) rfl ⟨_, rfl, HI.out _ (H.out.1.below (bel_alloc _ _)), bel_alloc _ _⟩
    · have hz : 0 < len := Nat.pos_of_ne_zero fun e => h0 (hl.1 e)
      have HI := Lib.hid (fun W (h : RefV 68 W (.slice ad len cap) n) => intB_of (b := true) (bb := true) h H.out.2 (by rw [decide_eq_false h0]; rfl))
      clear hl h0
      go_enter Tryd.func81, Tryd.ntmps81
      go_wp2_with fail
      refine bodyPost_ret (v := .agg #[.bool true, .slice ad len cap]) (by simp [results, Tryd.results81, go_sem, hz]) rfl ⟨_, rfl, HI.out _ (H.out.1.below (bel_alloc _ _)), bel_alloc _ _⟩

set_option maxHeartbeats 800000 in
/-- Sign: -1, 0, 1. -/
theorem rsign_any (v : Value) (z : Int) (k : Nat) (w : World) (h : IntB 68 w v z k) :
    Calls Tryd.prog 35 #[v] w fun e w' => e = .returned (.int .i64 (sgnZ z)) ∧ Below w.heap.size w w' := by
  obtain ⟨ad, len, cap, rfl, hr⟩ := h.shape
  have hl := refB_len (refB_part h)
  clear h hr
  by_cases h0 : z = 0
  · have hz : len = 0 := hl.2 (by omega)
    subst hz h0
    clear hl
    go_enter Tryd.func35, Tryd.ntmps35
    go_wp2_with fail
    go_ret
    exact ⟨rfl, bel_alloc _ _⟩
  · have hz : ((len : Int) == 0) = false := beq_eq_false_iff_ne.2 (by have := fun e => h0 (Int.natAbs_eq_zero.1 (hl.1 e)); omega)
    clear hl
    by_cases hn : z < 0
    · rw [decide_eq_true hn, show sgnZ z = -1 by unfold sgnZ; rw [if_pos hn]]
      go_enter Tryd.func35, Tryd.ntmps35
      go_wp2_with fail
      go_ret
      exact ⟨rfl, bel_alloc _ _⟩
    · rw [decide_eq_false hn, show sgnZ z = 1 by unfold sgnZ; rw [if_neg hn, if_pos (by omega)]]
      go_enter Tryd.func35, Tryd.ntmps35
      go_wp2_with fail
      go_ret
      exact ⟨rfl, bel_alloc _ _⟩

theorem sg_same2 {x y : Int} (h : decide (x < 0) = decide (y < 0)) : sg (decide (x < 0)) (x.natAbs + y.natAbs) = x + y := by
  have := sg_same (n := y.natAbs) h
  rw [sg_of] at this
  rw [h]; exact this
theorem sg_left2 {x y : Int} (h : decide (x < 0) = !decide (y < 0)) (hl : y.natAbs ≤ x.natAbs) : sg (decide (x < 0)) (x.natAbs - y.natAbs) = x + y := by
  have := sg_left h hl
  rw [sg_of] at this
  rw [h]; exact this
theorem sg_right2 {x y : Int} (h : decide (x < 0) = !decide (y < 0)) (hl : x.natAbs < y.natAbs) : sg (decide (y < 0)) (y.natAbs - x.natAbs) = x + y := by
  have := sg_right h hl
  rwa [sg_of] at this

set_option maxHeartbeats 800000 in
/-- IntText. -/
theorem ritext_any (v : Value) (z : Int) (k : Nat) (w : World) (h : IntB 68 w v z k) (hk : k ≤ 1000000) :
    Calls Tryd.prog 38 #[v] w fun e w' => e = .returned (.string (intS z)) ∧ Below w.heap.size w w' := by
  obtain ⟨ad, len, cap, rfl, hr⟩ := h.shape
  have H := Lib.hid (refB_part h)
  have hlen : (decS z.natAbs).size ≤ 10 * k + 1 := dec_len_pw h.2
  clear h hr
  by_cases h0 : z < 0
  · rw [decide_eq_true h0, intS_neg h0]
    go_enter Tryd.func38, Tryd.ntmps38
    go_wp2_with fail
    refine (rtextB _ z.natAbs k _ (H.out.below (bel_alloc _ _)) hk).mono ?_
    rintro e w1 ⟨rfl, hb⟩
    have HB := Lib.hid (bel_on (bel_alloc _ _) hb)
    clear hb
    go_wp2
    go_ret
    exact ⟨rfl, HB.out⟩
  · rw [decide_eq_false h0, intS_pos h0]
    go_enter Tryd.func38, Tryd.ntmps38
    go_wp2_with fail
    refine (rtextB _ z.natAbs k _ (H.out.below (bel_alloc _ _)) hk).mono ?_
    rintro e w1 ⟨rfl, hb⟩
    have HB := Lib.hid (bel_on (bel_alloc _ _) hb)
    clear hb
    go_wp2
    go_ret
    exact ⟨rfl, HB.out⟩

set_option maxHeartbeats 800000 in
/-- Text. -/
theorem itext_any (v : Value) (z : Int) (k : Nat) (w : World) (h : IntB 68 w v z k) (hk : k ≤ 1000000) (hT : Tabs w) :
    Calls Tryd.prog 36 #[v] w fun e w' => e = .returned (.string (intS z)) ∧ Below w.heap.size w w' := by
  obtain ⟨ad, len, cap, rfl, hr⟩ := h.shape
  have H := Lib.hid h.part.1
  have HT := Lib.hid hT
  have hlen : (decS z.natAbs).size ≤ 10 * k + 1 := dec_len_pw h.2
  clear h hr hT
  by_cases h0 : z < 0
  · rw [decide_eq_true h0, intS_neg h0]
    go_enter Tryd.func36, Tryd.ntmps36
    go_wp2_with fail
    refine (text_any _ z.natAbs k _ (H.out.below (bel_alloc _ _)) hk (HT.out.below (bel_alloc _ _))).mono ?_
    rintro e w1 ⟨rfl, hb⟩
    have HB := Lib.hid (bel_on (bel_alloc _ _) hb)
    clear hb
    go_wp2
    go_ret
    exact ⟨rfl, HB.out⟩
  · rw [decide_eq_false h0, intS_pos h0]
    go_enter Tryd.func36, Tryd.ntmps36
    go_wp2_with fail
    refine (text_any _ z.natAbs k _ (H.out.below (bel_alloc _ _)) hk (HT.out.below (bel_alloc _ _))).mono ?_
    rintro e w1 ⟨rfl, hb⟩
    have HB := Lib.hid (bel_on (bel_alloc _ _) hb)
    clear hb
    go_wp2
    go_ret
    exact ⟨rfl, HB.out⟩

end Go.Proofs.YtpchnejdbmoicaaDoor
