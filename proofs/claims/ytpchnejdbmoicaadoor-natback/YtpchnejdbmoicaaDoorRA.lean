/- The contract of the reference's AddNat. -/
import Derived.Test.YtpchnejdbmoicaaDoorWA
import Derived.Test.YtpchnejdbmoicaaDoorR1
import Derived.Test.YtpchnejdbmoicaaDoorWT
namespace Go.Proofs.YtpchnejdbmoicaaDoor
open Go.RowKit Cin

set_option maxRecDepth 100000 in
set_option maxHeartbeats 1000000 in
/-- AddNat: a and b together. -/
theorem refAdd_any (v u : Value) (x y : Nat) (L : Nat) (w : World) (h : RefV 68 w v x) (h' : RefV 68 w u y) (hx : x < pw L) (hy : y < pw L) (hL : L ≤ 100000000) :
    Calls Tryd.prog 71 #[v, u] w fun e w' => ∃ v', e = .returned v' ∧ RefV 68 w' v' (x + y) ∧ Below w.heap.size w w' := by
  obtain ⟨ad, len, cap, xs, rfl, hs, ho, hnm, rfl, hlx, hcx⟩ := h.shape
  obtain ⟨ad', len', cap', ys, rfl, hs', ho', hnm', rfl, hly, hcy⟩ := h'.shape
  obtain ⟨i0, hi0, hz0, hz1, hz2⟩ := info_parts info_u32
  have hl : len ≤ 100000000 := by have := norm_len hnm hx; omega
  have hl' : len' ≤ 100000000 := by have := norm_len hnm' hy; omega
  obtain ⟨n1, hn1, en1⟩ : ∃ n1 : Nat, (max (len : Int) (len' : Int)) + 1 = (n1 : Int) ∧ n1 = max len len' + 1 := ⟨max len len' + 1, by omega, rfl⟩
  have EN := Lib.hid (show len + 1 ≤ n1 ∧ len' + 1 ≤ n1 by omega)
  have hnb : n1 ≤ 100000001 := by omega
  have H := Lib.hid hs
  have H' := Lib.hid hs'
  have HLX := Lib.hid hlx
  have HLY := Lib.hid hly
  have HD := Lib.hid (show ∀ b' o' n' c', Value.slice ad len cap = .slice (some ⟨b', o', none⟩) n' c' → ¬ (b' = w.heap.size) from fun b' o' n' c' e => by have := hs.lt e; omega)
  have HD' := Lib.hid (show ∀ b' o' n' c', Value.slice ad' len' cap' = .slice (some ⟨b', o', none⟩) n' c' → ¬ (b' = w.heap.size) from fun b' o' n' c' e => by have := hs'.lt e; omega)
  clear hx hy h h' hs hs' hlx hly hnm hnm' en1
  go_enter Tryd.func71, Tryd.ntmps71
  go_wp2_with (at_make; refine wpList_make_ints _ rfl _ _ 29 rfl 68 i0 .u32 Tryd.underlying29 hi0 hz0 hz1 .i64 .i64 _ _ n1 n1 rfl rfl (by omega) (by omega) (Nat.le_refl _) (by rw [hz2]; omega) (by omega) ?_)
  all_goals (
    have hkW : Blk (w.alloc (Obj.cells (ints IntKind.u32 (List.replicate n1 0)) 68)) w.heap.size 68 .u32 (List.replicate n1 0) := Blk.new _ _ _ _
    have hbW := bel_alloc w (Obj.cells (ints IntKind.u32 (List.replicate n1 0)) 68)
    generalize w.alloc (Obj.cells (ints IntKind.u32 (List.replicate n1 0)) 68) = W at *
    have hszW := hkW.lt
    have HSW := Lib.hid (H.out.below hbW)
    have HLW := Lib.hid (H'.out.below hbW)
    have HBW := Lib.hid hbW
    have HKW := Lib.hid hkW
    clear hbW hkW H H'
    go_loopw [6, 7] (fun c i wr => ∃ (k q : Nat) (os : List Nat), k ≤ n1 ∧ i = .int .i64 k ∧ c = .int .u64 q ∧ q ≤ 1 ∧ os.length = k ∧ Ok os ∧ val os + pw k * q = val (xs.take k) + val (ys.take k) ∧
        Blk wr w.heap.size 68 .u32 (splice (List.replicate n1 0) 0 os) ∧ Keep (· = w.heap.size) W wr) (fun _ i _ => n1 - (intOf i).toNat)
    case atStart => exact ⟨0, 0, [], Nat.zero_le _, rfl, rfl, by omega, rfl, Ok.nil, rfl, by rw [splice_nil]; exact HKW.out, Keep.refl _ _⟩
    case round =>
      obtain ⟨k, q, os, hk, rfl, rfl, hq, hol, hok, hv, hblk, hkeep⟩ := hrel
      have HOL := Lib.hid hol
      have HV := Lib.hid hv
      have HBK := Lib.hid hblk
      have HK := Lib.hid hkeep
      have HSr := Lib.hid (HSW.out.keep HK.out HD.out)
      have HLr := Lib.hid (HLW.out.keep HK.out HD'.out)
      by_cases hlt : k < n1
      · have hcell2 := hblk.cell (i := k) (by rw [splice_length (by simp; omega)]; simp; omega)
        have hf := hblk.free k
        have hlim : lim xs k < 4294967296 := lim_lt ho _
        have hlim2 : lim ys k < 4294967296 := lim_lt ho' _
        clear hol hv hblk hkeep
        by_cases h1 : k < len
        · by_cases h2 : k < len'
          · have d1 : decide (k < len) = true := decide_eq_true h1
            have d2 : decide (k < len') = true := decide_eq_true h2
            obtain ⟨bx, offx, rfl, hcell, hblt⟩ := HSr.out.cell (i := k) (by have := HLX.out; omega)
            obtain ⟨by_, offy, rfl, hcelly, hblty⟩ := HLr.out.cell (i := k) (by have := HLY.out; omega)
            obtain ⟨t1, e1, e1'⟩ : ∃ t : Nat, (q : Int) + ((lim xs k : Nat) : Int) = (t : Int) ∧ t = q + lim xs k := ⟨_, by omega, rfl⟩
            obtain ⟨t, e2, et⟩ : ∃ t : Nat, (t1 : Int) + ((lim ys k : Nat) : Int) = (t : Int) ∧ t = q + (lim xs k + lim ys k) := ⟨q + (lim xs k + lim ys k), by omega, rfl⟩
            have ht1 : t1 ≤ 8589934591 := by omega
            have htb : t ≤ 8589934591 := by omega
            obtain ⟨td, htd, etd⟩ : ∃ td : Nat, ((t : Int) / 4294967296) = (td : Int) ∧ td = t / 4294967296 := ⟨t / 4294967296, by omega, rfl⟩
            obtain ⟨tm, htm, etm⟩ : ∃ tm : Nat, ((t : Int) % 4294967296) = (tm : Int) ∧ tm = t % 4294967296 := ⟨t % 4294967296, by omega, rfl⟩
            have hand : bits BinOp.and IntKind.u64 (t : Int) 4294967295 = (tm : Int) := by rw [and_mask32 (by omega), etm]
            have htmb : tm < 4294967296 := by omega
            have R := step_add (xs := xs) (ys := ys) (off := 0) (ys0 := List.replicate n1 0) HOL.out hok HV.out HBK.out HK.out et etd etm (by simp; omega)
            rw [Nat.zero_add] at R
            have HR := Lib.hid R
            clear R et etd etm e1'
            go_wp2_with fail
            obtain ⟨r1, r2, r3, r4, r5, r6⟩ := HR.out
            exact ⟨⟨k + 1, td, os ++ [tm], by omega, by go_num, rfl, r1, r2, r3, r4, r5, r6⟩, by simp [intOf]; omega⟩
          · have d1 : decide (k < len) = true := decide_eq_true h1
            have d2 : decide (k < len') = false := decide_eq_false h2
            have z2 : lim ys k = 0 := lim_ge (by have := HLY.out; omega)
            obtain ⟨bx, offx, rfl, hcell, hblt⟩ := HSr.out.cell (i := k) (by have := HLX.out; omega)
            obtain ⟨t, e2, et⟩ : ∃ t : Nat, (q : Int) + ((lim xs k : Nat) : Int) = (t : Int) ∧ t = q + (lim xs k + lim ys k) := ⟨q + (lim xs k + lim ys k), by omega, rfl⟩
            have htb : t ≤ 8589934591 := by omega
            obtain ⟨td, htd, etd⟩ : ∃ td : Nat, ((t : Int) / 4294967296) = (td : Int) ∧ td = t / 4294967296 := ⟨t / 4294967296, by omega, rfl⟩
            obtain ⟨tm, htm, etm⟩ : ∃ tm : Nat, ((t : Int) % 4294967296) = (tm : Int) ∧ tm = t % 4294967296 := ⟨t % 4294967296, by omega, rfl⟩
            have hand : bits BinOp.and IntKind.u64 (t : Int) 4294967295 = (tm : Int) := by rw [and_mask32 (by omega), etm]
            have htmb : tm < 4294967296 := by omega
            have R := step_add (xs := xs) (ys := ys) (off := 0) (ys0 := List.replicate n1 0) HOL.out hok HV.out HBK.out HK.out et etd etm (by simp; omega)
            rw [Nat.zero_add] at R
            have HR := Lib.hid R
            clear R et etd etm z2 h2 hi0 hz0 hz1 hz2
            go_wp2_with fail
            obtain ⟨r1, r2, r3, r4, r5, r6⟩ := HR.out
            exact ⟨⟨k + 1, td, os ++ [tm], by omega, by go_num, rfl, r1, r2, r3, r4, r5, r6⟩, by simp [intOf]; omega⟩
        · have z1 : lim xs k = 0 := lim_ge (by have := HLX.out; omega)
          have d1 : decide (k < len) = false := decide_eq_false h1
          by_cases h2 : k < len'
          · have d2 : decide (k < len') = true := decide_eq_true h2
            obtain ⟨by_, offy, rfl, hcelly, hblty⟩ := HLr.out.cell (i := k) (by have := HLY.out; omega)
            obtain ⟨t, e2, et⟩ : ∃ t : Nat, (q : Int) + ((lim ys k : Nat) : Int) = (t : Int) ∧ t = q + (lim xs k + lim ys k) := ⟨q + (lim xs k + lim ys k), by omega, rfl⟩
            have htb : t ≤ 8589934591 := by omega
            obtain ⟨td, htd, etd⟩ : ∃ td : Nat, ((t : Int) / 4294967296) = (td : Int) ∧ td = t / 4294967296 := ⟨t / 4294967296, by omega, rfl⟩
            obtain ⟨tm, htm, etm⟩ : ∃ tm : Nat, ((t : Int) % 4294967296) = (tm : Int) ∧ tm = t % 4294967296 := ⟨t % 4294967296, by omega, rfl⟩
            have hand : bits BinOp.and IntKind.u64 (t : Int) 4294967295 = (tm : Int) := by rw [and_mask32 (by omega), etm]
            have htmb : tm < 4294967296 := by omega
            have R := step_add (xs := xs) (ys := ys) (off := 0) (ys0 := List.replicate n1 0) HOL.out hok HV.out HBK.out HK.out et etd etm (by simp; omega)
            rw [Nat.zero_add] at R
            have HR := Lib.hid R
            clear R et etd etm z1 h1 hi0 hz0 hz1 hz2
            go_wp2_with fail
            obtain ⟨r1, r2, r3, r4, r5, r6⟩ := HR.out
            exact ⟨⟨k + 1, td, os ++ [tm], by omega, by go_num, rfl, r1, r2, r3, r4, r5, r6⟩, by simp [intOf]; omega⟩
          · have d2 : decide (k < len') = false := decide_eq_false h2
            have z2 : lim ys k = 0 := lim_ge (by have := HLY.out; omega)
            obtain ⟨t, e2, et⟩ : ∃ t : Nat, t = q ∧ t = q + (lim xs k + lim ys k) := ⟨q, rfl, by omega⟩
            subst e2
            have htb : t ≤ 8589934591 := by omega
            obtain ⟨td, htd, etd⟩ : ∃ td : Nat, ((t : Int) / 4294967296) = (td : Int) ∧ td = t / 4294967296 := ⟨t / 4294967296, by omega, rfl⟩
            obtain ⟨tm, htm, etm⟩ : ∃ tm : Nat, ((t : Int) % 4294967296) = (tm : Int) ∧ tm = t % 4294967296 := ⟨t % 4294967296, by omega, rfl⟩
            have hand : bits BinOp.and IntKind.u64 (t : Int) 4294967295 = (tm : Int) := by rw [and_mask32 (by omega), etm]
            have htmb : tm < 4294967296 := by omega
            have R := step_add (xs := xs) (ys := ys) (off := 0) (ys0 := List.replicate n1 0) HOL.out hok HV.out HBK.out HK.out et etd etm (by simp; omega)
            rw [Nat.zero_add] at R
            have HR := Lib.hid R
            clear R et etd etm z1 z2
            go_wp2_with fail
            obtain ⟨r1, r2, r3, r4, r5, r6⟩ := HR.out
            exact ⟨⟨k + 1, td, os ++ [tm], by omega, by go_num, rfl, r1, r2, r3, r4, r5, r6⟩, by simp [intOf]; omega⟩
      · obtain rfl : k = n1 := by omega
        have hos : splice (List.replicate k 0) 0 os = os := splice_zeros_all HOL.out
        have hb2 := HBK.out
        rw [hos] at hb2
        have hsl := Sl.of_blk hb2
        rw [HOL.out] at hsl
        have hle : val xs + val ys < pw k := by
          have a1 := val_lt ho
          have a2 := val_lt ho'
          rw [HLX.out] at a1
          rw [HLY.out] at a2
          obtain ⟨m, rfl⟩ : ∃ m, k = m + 1 := ⟨k - 1, by have := EN.out; omega⟩
          exact lt_pw_add (lt_pw_mono a1 (by have := EN.out; omega)) (lt_pw_mono a2 (by have := EN.out; omega))
        have hval : val os = val xs + val ys := by
          have e := HV.out
          rw [List.take_of_length_le (by have := HLX.out; have := EN.out; omega), List.take_of_length_le (by have := HLY.out; have := EN.out; omega)] at e
          rcases Nat.eq_zero_or_pos q with h0 | h0
          · rw [h0] at e; simpa using e
          · have : pw k * 1 ≤ pw k * q := Nat.mul_le_mul_left _ h0
            omega
        have HSL := Lib.hid hsl
        have HV2 := Lib.hid hval
        have HB2 := Lib.hid (HBW.out.trans (HK.out.below (B := w.heap.size) (by omega) (fun j hj => by omega)))
        clear hos hb2 hsl hle hval hblk hkeep hol hv
        go_wp2_with fail
        refine (rtrim_any _ os _ HSL.out hok (by rw [HOL.out]; omega)).mono ?_
        rintro e w2 ⟨v', rfl, hr2, rfl⟩
        have HR2 := Lib.hid hr2
        clear hr2
        go_wp2_with fail
        go_ret
        exact ⟨_, rfl, by have := HR2.out; rw [HV2.out] at this; exact this, HB2.out⟩)

end Go.Proofs.YtpchnejdbmoicaaDoor
