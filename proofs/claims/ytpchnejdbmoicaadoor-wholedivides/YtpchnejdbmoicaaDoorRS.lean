/- The contract of the reference's SubNat. -/
import Derived.Test.YtpchnejdbmoicaaDoorWS
import Derived.Test.YtpchnejdbmoicaaDoorR1
namespace Go.Proofs.YtpchnejdbmoicaaDoor
open Go.RowKit Cin

set_option maxRecDepth 100000 in
set_option maxHeartbeats 1000000 in
/-- SubNat: a less b, which is not greater. -/
theorem refSub_any (v u : Value) (x y : Nat) (L : Nat) (w : World) (h : RefV 68 w v x) (h' : RefV 68 w u y) (hx : x < pw L) (hL : L ≤ 100000000) (hle : y ≤ x) :
    Calls Tryd.prog 70 #[v, u] w fun e w' => ∃ v', e = .returned v' ∧ RefV 68 w' v' (x - y) ∧ Below w.heap.size w w' := by
  obtain ⟨ad, len, cap, xs, rfl, hs, ho, hnm, rfl, hlx, hcx⟩ := h.shape
  obtain ⟨ad', len', cap', ys, rfl, hs', ho', hnm', rfl, hly, hcy⟩ := h'.shape
  obtain ⟨i0, hi0, hz0, hz1, hz2⟩ := info_parts info_u32
  have hl : len ≤ 100000000 := by have := norm_len hnm hx; omega
  have hl' : len' ≤ 100000000 := by have := norm_len hnm' (Nat.lt_of_le_of_lt hle hx); omega
  have hll : len' ≤ len := by
    rcases Nat.lt_or_ge len len' with h0 | h0
    · have := val_lt_of_len ho hnm' (by omega); omega
    · exact h0
  have H := Lib.hid hs
  have H' := Lib.hid hs'
  have HLX := Lib.hid hlx
  have HLY := Lib.hid hly
  have HLE := Lib.hid hle
  have HD := Lib.hid (show ∀ b' o' n' c', Value.slice ad len cap = .slice (some ⟨b', o', none⟩) n' c' → ¬ (b' = w.heap.size) from fun b' o' n' c' e => by have := hs.lt e; omega)
  have HD' := Lib.hid (show ∀ b' o' n' c', Value.slice ad' len' cap' = .slice (some ⟨b', o', none⟩) n' c' → ¬ (b' = w.heap.size) from fun b' o' n' c' e => by have := hs'.lt e; omega)
  clear hx h h' hs hs' hlx hly hnm hnm' hle
  go_enter Tryd.func70, Tryd.ntmps70
  go_wp2_with (at_make; refine wpList_make_ints _ rfl _ _ 29 rfl 68 i0 .u32 Tryd.underlying29 hi0 hz0 hz1 .i64 .i64 _ _ len len rfl rfl (by omega) (by omega) (Nat.le_refl _) (by rw [hz2]; omega) (by omega) ?_)
  have hkW : Blk (w.alloc (Obj.cells (ints IntKind.u32 (List.replicate len 0)) 68)) w.heap.size 68 .u32 (List.replicate len 0) := Blk.new _ _ _ _
  have hbW := bel_alloc w (Obj.cells (ints IntKind.u32 (List.replicate len 0)) 68)
  generalize w.alloc (Obj.cells (ints IntKind.u32 (List.replicate len 0)) 68) = W at *
  have hszW := hkW.lt
  have HSW := Lib.hid (H.out.below hbW)
  have HLW := Lib.hid (H'.out.below hbW)
  have HBW := Lib.hid hbW
  have HKW := Lib.hid hkW
  clear hbW hkW H H'
  go_loopw [6, 7] (fun c i wr => ∃ (k q : Nat) (os : List Nat), k ≤ len ∧ i = .int .i64 k ∧ c = .int .u64 q ∧ q ≤ 1 ∧ os.length = k ∧ Ok os ∧ val (xs.take k) + pw k * q = val os + val (ys.take k) ∧
      Blk wr w.heap.size 68 .u32 (splice (List.replicate len 0) 0 os) ∧ Keep (· = w.heap.size) W wr) (fun _ i _ => len - (intOf i).toNat)
  case atStart => exact ⟨0, 0, [], Nat.zero_le _, rfl, rfl, by omega, rfl, Ok.nil, rfl, by rw [splice_nil]; exact HKW.out, Keep.refl _ _⟩
  case round =>
    obtain ⟨k, q, os, hk, rfl, rfl, hq, hol, hok, hv, hblk, hkeep⟩ := hrel
    have HOL := Lib.hid hol
    have HV := Lib.hid hv
    have HBK := Lib.hid hblk
    have HK := Lib.hid hkeep
    have HSr := Lib.hid (HSW.out.keep HK.out HD.out)
    have HLr := Lib.hid (HLW.out.keep HK.out HD'.out)
    by_cases hlt : k < len
    · have hcell2 := hblk.cell (i := k) (by rw [splice_length (by simp; omega)]; simp; omega)
      have hf := hblk.free k
      have hlim : lim xs k < 4294967296 := lim_lt ho _
      have hlim2 : lim ys k < 4294967296 := lim_lt ho' _
      clear hol hv hblk hkeep
      obtain ⟨bx, offx, rfl, hcell, hblt⟩ := HSr.out.cell (i := k) (by have := HLX.out; omega)
      by_cases h2 : k < len'
      · have d2 : decide (k < len') = true := decide_eq_true h2
        obtain ⟨by_, offy, rfl, hcelly, hblty⟩ := HLr.out.cell (i := k) (by have := HLY.out; omega)
        obtain ⟨X, eX, eX'⟩ : ∃ X : Nat, (q : Int) + ((lim ys k : Nat) : Int) = (X : Int) ∧ X = q + lim ys k := ⟨_, by omega, rfl⟩
        have hXb : X ≤ 4294967296 := by omega
        by_cases h3 : lim xs k < X
        · have d3 : decide (lim xs k < X) = true := decide_eq_true h3
          obtain ⟨Y, eY, eY'⟩ : ∃ Y : Nat, ((lim xs k : Nat) : Int) + 4294967296 = (Y : Int) ∧ Y = lim xs k + 4294967296 := ⟨_, by omega, rfl⟩
          obtain ⟨tm, htm, htmb⟩ : ∃ tm : Nat, (Y : Int) - (X : Int) = (tm : Int) ∧ tm < 4294967296 := ⟨Y - X, by omega, by omega⟩
          have hYb : Y ≤ 8589934591 := by omega
          have R := step_sub (xs := xs) (ys := ys) (ys0 := List.replicate len 0) (t := -(q : Int) + ((lim xs k : Int) - (lim ys k : Int))) (td := 1) (tm := tm) HOL.out hok HV.out HBK.out HK.out rfl (by omega) (by omega) (by simp; omega) hq hlim hlim2
          have HR := Lib.hid R
          clear R h3 hi0 hz0 hz1 hz2 eX' eY'
          go_wp2_with fail
          obtain ⟨r1, r2, r3, r4, r5, r6⟩ := HR.out
          exact ⟨⟨k + 1, 1, os ++ [tm], by omega, by go_num, rfl, r1, r2, r3, r4, r5, r6⟩, by simp [intOf]; omega⟩
        · have d3 : decide (lim xs k < X) = false := decide_eq_false h3
          obtain ⟨tm, htm, htmb⟩ : ∃ tm : Nat, ((lim xs k : Nat) : Int) - (X : Int) = (tm : Int) ∧ tm < 4294967296 := ⟨lim xs k - X, by omega, by omega⟩
          have R := step_sub (xs := xs) (ys := ys) (ys0 := List.replicate len 0) (t := -(q : Int) + ((lim xs k : Int) - (lim ys k : Int))) (td := 0) (tm := tm) HOL.out hok HV.out HBK.out HK.out rfl (by omega) (by omega) (by simp; omega) hq hlim hlim2
          have HR := Lib.hid R
          clear R h3 hi0 hz0 hz1 hz2 eX'
          go_wp2_with fail
          obtain ⟨r1, r2, r3, r4, r5, r6⟩ := HR.out
          exact ⟨⟨k + 1, 0, os ++ [tm], by omega, by go_num, rfl, r1, r2, r3, r4, r5, r6⟩, by simp [intOf]; omega⟩
      · have d2 : decide (k < len') = false := decide_eq_false h2
        have z2 : lim ys k = 0 := lim_ge (by have := HLY.out; omega)
        obtain ⟨X, eX, eX'⟩ : ∃ X : Nat, X = q ∧ X = q + lim ys k := ⟨q, rfl, by omega⟩
        subst eX
        have hXb : X ≤ 4294967296 := by omega
        by_cases h3 : lim xs k < X
        · have d3 : decide (lim xs k < X) = true := decide_eq_true h3
          obtain ⟨Y, eY, eY'⟩ : ∃ Y : Nat, ((lim xs k : Nat) : Int) + 4294967296 = (Y : Int) ∧ Y = lim xs k + 4294967296 := ⟨_, by omega, rfl⟩
          obtain ⟨tm, htm, htmb⟩ : ∃ tm : Nat, (Y : Int) - (X : Int) = (tm : Int) ∧ tm < 4294967296 := ⟨Y - X, by omega, by omega⟩
          have hYb : Y ≤ 8589934591 := by omega
          have R := step_sub (xs := xs) (ys := ys) (ys0 := List.replicate len 0) (t := -(X : Int) + ((lim xs k : Int) - (lim ys k : Int))) (td := 1) (tm := tm) HOL.out hok HV.out HBK.out HK.out rfl (by omega) (by omega) (by simp; omega) hq hlim hlim2
          have HR := Lib.hid R
          clear R h3 hi0 hz0 hz1 hz2 eX' eY' z2 h2
          go_wp2_with fail
          obtain ⟨r1, r2, r3, r4, r5, r6⟩ := HR.out
          exact ⟨⟨k + 1, 1, os ++ [tm], by omega, by go_num, rfl, r1, r2, r3, r4, r5, r6⟩, by simp [intOf]; omega⟩
        · have d3 : decide (lim xs k < X) = false := decide_eq_false h3
          obtain ⟨tm, htm, htmb⟩ : ∃ tm : Nat, ((lim xs k : Nat) : Int) - (X : Int) = (tm : Int) ∧ tm < 4294967296 := ⟨lim xs k - X, by omega, by omega⟩
          have R := step_sub (xs := xs) (ys := ys) (ys0 := List.replicate len 0) (t := -(X : Int) + ((lim xs k : Int) - (lim ys k : Int))) (td := 0) (tm := tm) HOL.out hok HV.out HBK.out HK.out rfl (by omega) (by omega) (by simp; omega) hq hlim hlim2
          have HR := Lib.hid R
          clear R h3 hi0 hz0 hz1 hz2 eX' z2 h2
          go_wp2_with fail
          obtain ⟨r1, r2, r3, r4, r5, r6⟩ := HR.out
          exact ⟨⟨k + 1, 0, os ++ [tm], by omega, by go_num, rfl, r1, r2, r3, r4, r5, r6⟩, by simp [intOf]; omega⟩
    · obtain rfl : k = len := by omega
      have hos : splice (List.replicate k 0) 0 os = os := splice_zeros_all HOL.out
      have hb2 := HBK.out
      rw [hos] at hb2
      have hsl := Sl.of_blk hb2
      rw [HOL.out] at hsl
      have hval : val os = val xs - val ys := end_sub HOL.out hok HV.out HLX.out (by have := HLY.out; omega) HLE.out
      have HSL := Lib.hid hsl
      have HV2 := Lib.hid hval
      have HB2 := Lib.hid (HBW.out.trans (HK.out.below (B := w.heap.size) (by omega) (fun j hj => by omega)))
      clear hos hb2 hsl hval hblk hkeep hol hv
      go_wp2_with fail
      refine (rtrim_any _ os _ HSL.out hok (by rw [HOL.out]; omega)).mono ?_
      rintro e w2 ⟨v', rfl, hr2, rfl⟩
      have HR2 := Lib.hid hr2
      clear hr2
      go_wp2_with fail
      go_ret
      exact ⟨_, rfl, by have := HR2.out; rw [HV2.out] at this; exact this, HB2.out⟩

end Go.Proofs.YtpchnejdbmoicaaDoor
