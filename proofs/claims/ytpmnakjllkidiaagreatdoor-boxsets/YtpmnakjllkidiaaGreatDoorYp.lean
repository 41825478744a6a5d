/- The contract of the reference's AddNat. -/
import Derived.Test.YtpmnakjllkidiaaGreatDoorYh
import Derived.Test.YtpmnakjllkidiaaGreatDoorYo
import Derived.Test.YtpmnakjllkidiaaGreatDoorYi
namespace Go.Proofs.YtpmnakjllkidiaaGreatDoor
open Go.RowKit Cin
set_option maxRecDepth 100000 in
set_option maxHeartbeats 1000000 in
theorem refAdd_any (v u : Value) (x y : Nat) (L : Nat) (w : World) (h : RefV 161 w v x) (h' : RefV 161 w u y) (hx : x < pw L) (hy : y < pw L) (hL : L ≤ 100000000) :
    Calls Tryz.prog 123 #[v, u] w fun e w' => ∃ v', e = .returned v' ∧ RefV 161 w' v' (x + y) ∧ Below w.heap.size w w' := by
  obtain ⟨ad, len, cap, xs, rfl, hs, ho, hnm, rfl, hlx, hcx⟩ := h.shape
  obtain ⟨ad', len', cap', ys, rfl, hs', ho', hnm', rfl, hly, hcy⟩ := h'.shape
  obtain ⟨i0, hi0, hz0, hz1, hz2⟩ := info_parts info_u32
  have hl : len ≤ 100000000 := by have := norm_len hnm hx; omega
  have hl' : len' ≤ 100000000 := by have := norm_len hnm' hy; omega
  obtain ⟨n1, hn1, en1⟩ : ∃ n1 : Nat, (max (len : Int) (len' : Int)) + 1 = (n1 : Int) ∧ n1 = max len len' + 1 := ⟨max len len' + 1, by omega, rfl⟩
  have EN := Lib.hid (show len + 1 ≤ n1 ∧ len' + 1 ≤ n1 by omega)
  have hnb : n1 ≤ 100000001 := by omega
  have H := Lib.hid hs
  have H' := Lib.hid hs'
  have HLX := Lib.hid hlx
  have HLY := Lib.hid hly
  have HD := Lib.hid (show ∀ b' o' n' c', Value.slice ad len cap = .slice (some ⟨b', o', none⟩) n' c' → ¬ (b' = w.heap.size) from fun b' o' n' c' e => by have := hs.lt e; omega)
  have HD' := Lib.hid (show ∀ b' o' n' c', Value.slice ad' len' cap' = .slice (some ⟨b', o', none⟩) n' c' → ¬ (b' = w.heap.size) from fun b' o' n' c' e => by have := hs'.lt e; omega)
  clear hx hy h h' hs hs' hlx hly hnm hnm' en1
  go_enter Tryz.func123, Tryz.ntmps123
  go_wp2_with (at_make; refine wpList_make_ints _ rfl _ _ 44 rfl 161 i0 .u32 Tryz.underlying44 hi0 hz0 hz1 .i64 .i64 _ _ n1 n1 rfl rfl (by omega) (by omega) (Nat.le_refl _) (by rw [hz2]; omega) (by omega) ?_)
  all_goals (
    have hkW : Blk (w.alloc (Obj.cells (ints IntKind.u32 (List.replicate n1 0)) 161)) w.heap.size 161 .u32 (List.replicate n1 0) := Blk.new _ _ _ _
    have hbW := bel_alloc w (Obj.cells (ints IntKind.u32 (List.replicate n1 0)) 161)
    generalize w.alloc (Obj.cells (ints IntKind.u32 (List.replicate n1 0)) 161) = W at *
    have hszW := hkW.lt
    have HSW := Lib.hid (H.out.below hbW)
    have HLW := Lib.hid (H'.out.below hbW)
    have HBW := Lib.hid hbW
    have HKW := Lib.hid hkW
    clear hbW hkW H H'
    go_loopw [6, 7] (fun c i wr => ∃ (k q : Nat) (os : List Nat), k ≤ n1 ∧ i = .int .i64 k ∧ c = .int .u64 q ∧ q ≤ 1 ∧ os.length = k ∧ Ok os ∧ val os + pw k * q = val (xs.take k) + val (ys.take k) ∧
        Blk wr w.heap.size 161 .u32 (splice (List.replicate n1 0) 0 os) ∧ Keep (· = w.heap.size) W wr) (fun _ i _ => n1 - (intOf i).toNat)
    case atStart => exact ⟨0, 0, [], Nat.zero_le _, rfl, rfl, by omega, rfl, Ok.nil, rfl, by rw [splice_nil]; exact HKW.out, Keep.refl _ _⟩
    case round =>
      obtain ⟨k, q, os, hk, rfl, rfl, hq, hol, hok, hv, hblk, hkeep⟩ := hrel
      have HOL := Lib.hid hol
      have HV := Lib.hid hv
      have HBK := Lib.hid hblk
      have HK := Lib.hid hkeep
      have HSr := Lib.hid (HSW.out.keep HK.out HD.out)
      have HLr := Lib.hid (HLW.out.keep HK.out HD'.out)
      by_cases hlt : k < n1
      · have hcell2 := hblk.cell (i := k) (by rw [splice_length (by simp; omega)]; simp; omega)
        have hf := hblk.free k
        have hlim : lim xs k < 4294967296 := lim_lt ho _
        have hlim2 : lim ys k < 4294967296 := lim_lt ho' _
        clear hol hv hblk hkeep
        by_cases h1 : k < len
        · by_cases h2 : k < len'
          · have d1 : decide (k < len) = true := decide_eq_true h1
            have d2 : decide (k < len') = true := decide_eq_true h2
            obtain ⟨bx, offx, rfl, hcell, hblt⟩ := HSr.out.cell (i := k) (by have := HLX.out; omega)
            obtain ⟨by_, offy, rfl, hcelly, hblty⟩ := HLr.out.cell (i := k) (by have := HLY.out; omega)
            obtain ⟨t1, e1, e1'⟩ : ∃ t : Nat, (q : Int) + ((lim xs k : Nat) : Int) = (t : Int) ∧ t = q + lim xs k := ⟨_, by omega, rfl⟩
            obtain ⟨t, e2, et⟩ : ∃ t : Nat, (t1 : Int) + ((lim ys k : Nat) : Int) = (t : Int) ∧ t = q + (lim xs k + lim ys k) := ⟨q + (lim xs k + lim ys k), by omega, rfl⟩
            have ht1 : t1 ≤ 8589934591 := by omega
            have htb : t ≤ 8589934591 := by omega
            obtain ⟨td, htd, etd⟩ : ∃ td : Nat, ((t : Int) / 4294967296) = (td : Int) ∧ td = t / 4294967296 := ⟨t / 4294967296, by omega, rfl⟩
            obtain ⟨tm, htm, etm⟩ : ∃ tm : Nat, ((t : Int) % 4294967296) = (tm : Int) ∧ tm = t % 4294967296 := ⟨t % 4294967296, by omega, rfl⟩
            have hand : bits BinOp.and IntKind.u64 (t : Int) 4294967295 = (tm : Int) := by rw [and_mask32 (by omega), etm]
            have htmb : tm < 4294967296 := by omega
            have R := step_add (xs := xs) (ys := ys) (off := 0) (ys0 := List.replicate n1 0) HOL.out hok HV.out HBK.out HK.out et etd etm (by simp; omega)
            rw [Nat.zero_add] at R
            have HR := Lib.hid R
            clear R et etd etm e1'
            go_wp2_with fail
            obtain ⟨r1, r2, r3, r4, r5, r6⟩ := HR.out
            exact ⟨⟨k + 1, td, os ++ [tm], by omega, by go_num, rfl, r1, r2, r3, r4, r5, r6⟩, by simp [intOf]; omega⟩
          · have d1 : decide (k < len) = true := decide_eq_true h1
            have d2 : decide (k < len') = false := decide_eq_false h2
            have z2 : lim ys k = 0 := lim_ge (by have := HLY.out; omega)
            obtain ⟨bx, offx, rfl, hcell, hblt⟩ := HSr.out.cell (i := k) (by have := HLX.out; omega)
            obtain ⟨t, e2, et⟩ : ∃ t : Nat, (q : Int) + ((lim xs k : Nat) : Int) = (t : Int) ∧ t = q + (lim xs k + lim ys k) := ⟨q + (lim xs k + lim ys k), by omega, rfl⟩
            have htb : t ≤ 8589934591 := by omega
            obtain ⟨td, htd, etd⟩ : ∃ td : Nat, ((t : Int) / 4294967296) = (td : Int) ∧ td = t / 4294967296 := ⟨t / 4294967296, by omega, rfl⟩
            obtain ⟨tm, htm, etm⟩ : ∃ tm : Nat, ((t : Int) % 4294967296) = (tm : Int) ∧ tm = t % 4294967296 := ⟨t % 4294967296, by omega, rfl⟩
            have hand : bits BinOp.and IntKind.u64 (t : Int) 4294967295 = (tm : Int) := by rw [and_mask32 (by omega), etm]
            have htmb : tm < 4294967296 := by omega
            have R := step_add (xs := xs) (ys := ys) (off := 0) (ys0 := List.replicate n1 0) HOL.out hok HV.out HBK.out HK.out et etd etm (by simp; omega)
            rw [Nat.zero_add] at R
            have HR := Lib.hid R
            clear R et etd etm z2 h2 hi0 hz0 hz1 hz2
            go_wp2_with fail
            obtain ⟨r1, r2, r3, r4, r5, r6⟩ := HR.out
            exact ⟨⟨k + 1, td, os ++ [tm], by omega, by go_num, rfl, r1, r2, r3, r4, r5, r6⟩, by simp [intOf]; omega⟩
        · have z1 : lim xs k = 0 := lim_ge (by have := HLX.out; omega)
          have d1 : decide (k < len) = false := decide_eq_false h1
          by_cases h2 : k < len'
          · have d2 : decide (k < len') = true := decide_eq_true h2
            obtain ⟨by_, offy, rfl, hcelly, hblty⟩ := HLr.out.cell (i := k) (by have := HLY.out; omega)
            obtain ⟨t, e2, et⟩ : ∃ t : Nat, (q : Int) + ((lim ys k : Nat) : Int) = (t : Int) ∧ t = q + (lim xs k + lim ys k) := ⟨q + (lim xs k + lim ys k), by omega, rfl⟩
            have htb : t ≤ 8589934591 := by omega
            obtain ⟨td, htd, etd⟩ : ∃ td : Nat, ((t : Int) / 4294967296) = (td : Int) ∧ td = t / 4294967296 := ⟨t / 4294967296, by omega, rfl⟩
            obtain ⟨tm, htm, etm⟩ : ∃ tm : Nat, ((t : Int) % 4294967296) = (tm : Int) ∧ tm = t % 4294967296 := ⟨t % 4294967296, by omega, rfl⟩
            have hand : bits BinOp.and IntKind.u64 (t : Int) 4294967295 = (tm : Int) := by rw [and_mask32 (by omega), etm]
            have htmb : tm < 4294967296 := by omega
            have R := step_add (xs := xs) (ys := ys) (off := 0) (ys0 := List.replicate n1 0) HOL.out hok HV.out HBK.out HK.out et etd etm (by simp; omega)
            rw [Nat.zero_add] at R
            have HR := Lib.hid R
            clear R et etd etm z1 h1 hi0 hz0 hz1 hz2
            go_wp2_with fail
            obtain ⟨r1, r2, r3, r4, r5, r6⟩ := HR.out
            exact ⟨⟨k + 1, td, os ++ [tm], by omega, by go_num, rfl, r1, r2, r3, r4, r5, r6⟩, by simp [intOf]; omega⟩
          · have d2 : decide (k < len') = false := decide_eq_false h2
            have z2 : lim ys k = 0 := lim_ge (by have := HLY.out; omega)
            obtain ⟨t, e2, et⟩ : ∃ t : Nat, t = q ∧ t = q + (lim xs k + lim ys k) := ⟨q, rfl, by omega⟩
            subst e2
            have htb : t ≤ 8589934591 := by omega
            obtain ⟨td, htd, etd⟩ : ∃ td : Nat, ((t : Int) / 4294967296) = (td : Int) ∧ td = t / 4294967296 := ⟨t / 4294967296, by omega, rfl⟩
            obtain ⟨tm, htm, etm⟩ : ∃ tm : Nat, ((t : Int) % 4294967296) = (tm : Int) ∧ tm = t % 4294967296 := ⟨t % 4294967296, by omega, rfl⟩
            have hand : bits BinOp.and IntKind.u64 (t : Int) 4294967295 = (tm : Int) := by rw [and_mask32 (by omega), etm]
            have htmb : tm < 4294967296 := by omega
            have R := step_add (xs := xs) (ys := ys) (off := 0) (ys0 := List.replicate n1 0) HOL.out hok HV.out HBK.out HK.out et etd etm (by simp; omega)
            rw [Nat.zero_add] at R
            have HR := Lib.hid R
            clear R et etd etm z1 z2
            go_wp2_with fail
            obtain ⟨r1, r2, r3, r4, r5, r6⟩ := HR.out
            exact ⟨⟨k + 1, td, os ++ [tm], by omega, by go_num, rfl, r1, r2, r3, r4, r5, r6⟩, by simp [intOf]; omega⟩
      · obtain rfl : k = n1 := by omega
        have hos : splice (List.replicate k 0) 0 os = os := splice_zeros_all HOL.out
        have hb2 := HBK.out
        rw [hos] at hb2
        have hsl := Sl.of_blk hb2
        rw [HOL.out] at hsl
        have hle : val xs + val ys < pw k := by
          have a1 := val_lt ho
          have a2 := val_lt ho'
          rw [HLX.out] at a1
          rw [HLY.out] at a2
          obtain ⟨m, rfl⟩ : ∃ m, k = m + 1 := ⟨k - 1, by have := EN.out; omega⟩
          exact lt_pw_add (lt_pw_mono a1 (by have := EN.out; omega)) (lt_pw_mono a2 (by have := EN.out; omega))
        have hval : val os = val xs + val ys := by
          have e := HV.out
          rw [List.take_of_length_le (by have := HLX.out; have := EN.out; omega), List.take_of_length_le (by have := HLY.out; have := EN.out; omega)] at e
          rcases Nat.eq_zero_or_pos q with h0 | h0
          · rw [h0] at e; simpa using e
          · have : pw k * 1 ≤ pw k * q := Nat.mul_le_mul_left _ h0
            omega
        have HSL := Lib.hid hsl
        have HV2 := Lib.hid hval
        have HB2 := Lib.hid (HBW.out.trans (HK.out.below (B := w.heap.size) (by omega) (fun j hj => by omega)))
        clear hos hb2 hsl hle hval hblk hkeep hol hv
        go_wp2_with fail
        refine (rtrim_any _ os _ HSL.out hok (by rw [HOL.out]; omega)).mono ?_
        rintro e w2 ⟨v', rfl, hr2, rfl⟩
        have HR2 := Lib.hid hr2
        clear hr2
        go_wp2_with fail
        go_ret
        exact ⟨_, rfl, by have := HR2.out; rw [HV2.out] at this; exact this, HB2.out⟩)
end Go.Proofs.YtpmnakjllkidiaaGreatDoor

namespace Go.Proofs.YtpmnakjllkidiaaGreatDoor
open Go.RowKit Cin
set_option maxRecDepth 100000 in
set_option maxHeartbeats 1000000 in
theorem refCmp_any (v u : Value) (x y : Nat) (L : Nat) (w : World) (h : RefV 161 w v x) (h' : RefV 161 w u y) (hx : x < pw L) (hy : y < pw L) (hL : L ≤ 100000000) :
    Calls Tryz.prog 65 #[v, u] w fun e w' => e = .returned (.int .i64 (cmpI x y)) ∧ ∃ nq, w' = w.drewN nq := by
  obtain ⟨ad, len, cap, xs, rfl, hs, ho, hnm, rfl, hlx, hcx⟩ := h.shape
  obtain ⟨ad', len', cap', ys, rfl, hs', ho', hnm', rfl, hly, hcy⟩ := h'.shape
  have hl : len ≤ 100000000 := by have := norm_len hnm hx; omega
  have hl' : len' ≤ 100000000 := by have := norm_len hnm' hy; omega
  clear hx hy h h'
  by_cases hll : len = len'
  · subst hll
    have hcmp : ((len : Int) != (len : Int)) = false := by simp
    have hlt : ∀ k, k < len → (∀ j, k < j → j < len → lim xs j = lim ys j) → lim xs k < lim ys k → cmpI (val xs) (val ys) = -1 := fun k hk hj hlt => by
      have := val_lt_of_top ho (by omega) (i := k) (by omega) (fun j h1 h2 => hj j h1 (by omega)) hlt
      unfold cmpI; rw [if_pos this]
    have hgt : ∀ k, k < len → (∀ j, k < j → j < len → lim xs j = lim ys j) → lim ys k < lim xs k → cmpI (val xs) (val ys) = 1 := fun k hk hj hlt => by
      have := val_lt_of_top ho' (by omega) (i := k) (by omega) (fun j h1 h2 => (hj j h1 (by omega)).symm) hlt
      unfold cmpI; rw [if_neg (by omega), if_pos this]
    have heq : (∀ j, j < len → lim xs j = lim ys j) → cmpI (val xs) (val ys) = 0 := fun hj => by
      have : xs = ys := ext_lim (by omega) (fun i hi => hj i (by omega))
      rw [this]; unfold cmpI; rw [if_neg (by omega), if_neg (by omega)]
    have HLT := Lib.hid hlt
    have HGT := Lib.hid hgt
    have HEQ := Lib.hid heq
    have H := Lib.hid hs
    have H' := Lib.hid hs'
    have HLX := Lib.hid hlx
    have HLY := Lib.hid hly
    clear hlt hgt heq hs hs' hlx hly hnm hnm'
    go_enter Tryz.func65, Tryz.ntmps65
    go_wp2_with fail
    go_loopw [5] (fun i wr => ∃ nq, wr = w.drewN nq ∧ ((i = .int .i64 (-1) ∧ ∀ j, j < len → lim xs j = lim ys j) ∨ ∃ k : Nat, k < len ∧ i = .int .i64 k ∧ ∀ j, k < j → j < len → lim xs j = lim ys j)) (fun i _ => (intOf i + 1).toNat)
    case atStart =>
      refine ⟨0, rfl, ?_⟩
      rcases Nat.eq_zero_or_pos len with h0 | h0
      · subst h0; exact .inl ⟨rfl, fun j hj => absurd hj (Nat.not_lt_zero _)⟩
      · exact .inr ⟨len - 1, by omega, congrArg (Value.int IntKind.i64) (by omega), fun j h1 h2 => by omega⟩
    case round =>
      obtain ⟨nq, rfl, h | ⟨k, hk, rfl, hj⟩⟩ := hrel
      · obtain ⟨rfl, hj⟩ := h
        have HJ := Lib.hid hj
        clear hj
        go_wp2
        go_ret
        exact ⟨ret_int (HEQ.out HJ.out).symm, _, rfl⟩
      · have HJ := Lib.hid hj
        clear hj
        obtain ⟨b, off, rfl, hcell, hblt⟩ := H.out.cell (i := k) (by have := HLX.out; omega)
        obtain ⟨b', off', rfl, hcell', hblt'⟩ := H'.out.cell (i := k) (by have := HLY.out; omega)
        rcases Nat.lt_trichotomy (lim xs k) (lim ys k) with hlt | hne | hlt
        · have hdec : decide (lim xs k < lim ys k) = true := by simpa using hlt
          go_wp2_with fail
          go_quiet (fail)
          go_wp2_with fail
          go_ret
          exact ⟨ret_int (HLT.out k hk HJ.out hlt).symm, _, by simp only [World.drewN_drewN]; rfl⟩
        · have hdec : decide (lim xs k < lim ys k) = false := by simp; omega
          have hdec2 : decide (lim ys k < lim xs k) = false := by simp; omega
          have HNE := Lib.hid hne
          clear hne
          go_wp2_with fail
          go_quiet (fail)
          go_wp2_with fail
          go_quiet (fail)
          go_wp2_with fail
          refine ⟨⟨_, rfl, ?_⟩, by simp only [intOf]; omega⟩
          have hstep : ∀ j, k ≤ j → j < len → lim xs j = lim ys j := fun j h1 h2 => by
            rcases Nat.eq_or_lt_of_le h1 with rfl | h1
            · exact HNE.out
            · exact HJ.out j h1 h2
          rcases Nat.eq_zero_or_pos k with h0 | h0
          · subst h0; exact .inl ⟨rfl, fun j hj => hstep j (Nat.zero_le _) hj⟩
          · exact .inr ⟨k - 1, by omega, congrArg (Value.int IntKind.i64) (by omega), fun j h1 h2 => hstep j (by omega) h2⟩
        · have hdec : decide (lim xs k < lim ys k) = false := by simp; omega
          have hdec2 : decide (lim ys k < lim xs k) = true := by simpa using hlt
          go_wp2_with fail
          go_quiet (fail)
          go_wp2_with fail
          go_quiet (fail)
          go_wp2_with fail
          go_ret
          exact ⟨ret_int (HGT.out k hk HJ.out hlt).symm, _, by simp only [World.drewN_drewN]; rfl⟩
  · have hcmp : ((len : Int) != (len' : Int)) = true := by simp; omega
    rcases Nat.lt_or_gt_of_ne hll with hlt | hlt
    · have he : cmpI (val xs) (val ys) = -1 := by
        have := val_lt_of_len ho hnm' (by omega)
        unfold cmpI; rw [if_pos this]
      have HE := Lib.hid he
      have hdec : decide (len < len') = true := by simpa using hlt
      clear he hs hs' hlx hly hnm hnm' hll
      go_enter Tryz.func65, Tryz.ntmps65
      go_wp2_with fail
      go_ret
      exact ⟨ret_int HE.out.symm, 0, rfl⟩
    · have he : cmpI (val xs) (val ys) = 1 := by
        have := val_lt_of_len ho' hnm (by omega)
        unfold cmpI; rw [if_neg (by omega), if_pos this]
      have HE := Lib.hid he
      have hdec : decide (len < len') = false := by simp; omega
      clear he hs hs' hlx hly hnm hnm' hll
      go_enter Tryz.func65, Tryz.ntmps65
      go_wp2_with fail
      go_ret
      exact ⟨ret_int HE.out.symm, 0, rfl⟩
end Go.Proofs.YtpmnakjllkidiaaGreatDoor

namespace Go.Proofs.YtpmnakjllkidiaaGreatDoor
open Go.RowKit Cin
set_option maxRecDepth 100000 in
set_option maxHeartbeats 1000000 in
theorem refSub_any (v u : Value) (x y : Nat) (L : Nat) (w : World) (h : RefV 161 w v x) (h' : RefV 161 w u y) (hx : x < pw L) (hL : L ≤ 100000000) (hle : y ≤ x) :
    Calls Tryz.prog 124 #[v, u] w fun e w' => ∃ v', e = .returned v' ∧ RefV 161 w' v' (x - y) ∧ Below w.heap.size w w' := by
  obtain ⟨ad, len, cap, xs, rfl, hs, ho, hnm, rfl, hlx, hcx⟩ := h.shape
  obtain ⟨ad', len', cap', ys, rfl, hs', ho', hnm', rfl, hly, hcy⟩ := h'.shape
  obtain ⟨i0, hi0, hz0, hz1, hz2⟩ := info_parts info_u32
  have hl : len ≤ 100000000 := by have := norm_len hnm hx; omega
  have hl' : len' ≤ 100000000 := by have := norm_len hnm' (Nat.lt_of_le_of_lt hle hx); omega
  have hll : len' ≤ len := by
    rcases Nat.lt_or_ge len len' with h0 | h0
    · have := val_lt_of_len ho hnm' (by omega); omega
    · exact h0
  have H := Lib.hid hs
  have H' := Lib.hid hs'
  have HLX := Lib.hid hlx
  have HLY := Lib.hid hly
  have HLE := Lib.hid hle
  have HD := Lib.hid (show ∀ b' o' n' c', Value.slice ad len cap = .slice (some ⟨b', o', none⟩) n' c' → ¬ (b' = w.heap.size) from fun b' o' n' c' e => by have := hs.lt e; omega)
  have HD' := Lib.hid (show ∀ b' o' n' c', Value.slice ad' len' cap' = .slice (some ⟨b', o', none⟩) n' c' → ¬ (b' = w.heap.size) from fun b' o' n' c' e => by have := hs'.lt e; omega)
  clear hx h h' hs hs' hlx hly hnm hnm' hle
  go_enter Tryz.func124, Tryz.ntmps124
  go_wp2_with (at_make; refine wpList_make_ints _ rfl _ _ 44 rfl 161 i0 .u32 Tryz.underlying44 hi0 hz0 hz1 .i64 .i64 _ _ len len rfl rfl (by omega) (by omega) (Nat.le_refl _) (by rw [hz2]; omega) (by omega) ?_)
  have hkW : Blk (w.alloc (Obj.cells (ints IntKind.u32 (List.replicate len 0)) 161)) w.heap.size 161 .u32 (List.replicate len 0) := Blk.new _ _ _ _
  have hbW := bel_alloc w (Obj.cells (ints IntKind.u32 (List.replicate len 0)) 161)
  generalize w.alloc (Obj.cells (ints IntKind.u32 (List.replicate len 0)) 161) = W at *
  have hszW := hkW.lt
  have HSW := Lib.hid (H.out.below hbW)
  have HLW := Lib.hid (H'.out.below hbW)
  have HBW := Lib.hid hbW
  have HKW := Lib.hid hkW
  clear hbW hkW H H'
  go_loopw [6, 7] (fun c i wr => ∃ (k q : Nat) (os : List Nat), k ≤ len ∧ i = .int .i64 k ∧ c = .int .u64 q ∧ q ≤ 1 ∧ os.length = k ∧ Ok os ∧ val (xs.take k) + pw k * q = val os + val (ys.take k) ∧
      Blk wr w.heap.size 161 .u32 (splice (List.replicate len 0) 0 os) ∧ Keep (· = w.heap.size) W wr) (fun _ i _ => len - (intOf i).toNat)
  case atStart => exact ⟨0, 0, [], Nat.zero_le _, rfl, rfl, by omega, rfl, Ok.nil, rfl, by rw [splice_nil]; exact HKW.out, Keep.refl _ _⟩
  case round =>
    obtain ⟨k, q, os, hk, rfl, rfl, hq, hol, hok, hv, hblk, hkeep⟩ := hrel
    have HOL := Lib.hid hol
    have HV := Lib.hid hv
    have HBK := Lib.hid hblk
    have HK := Lib.hid hkeep
    have HSr := Lib.hid (HSW.out.keep HK.out HD.out)
    have HLr := Lib.hid (HLW.out.keep HK.out HD'.out)
    by_cases hlt : k < len
    · have hcell2 := hblk.cell (i := k) (by rw [splice_length (by simp; omega)]; simp; omega)
      have hf := hblk.free k
      have hlim : lim xs k < 4294967296 := lim_lt ho _
      have hlim2 : lim ys k < 4294967296 := lim_lt ho' _
      clear hol hv hblk hkeep
      obtain ⟨bx, offx, rfl, hcell, hblt⟩ := HSr.out.cell (i := k) (by have := HLX.out; omega)
      by_cases h2 : k < len'
      · have d2 : decide (k < len') = true := decide_eq_true h2
        obtain ⟨by_, offy, rfl, hcelly, hblty⟩ := HLr.out.cell (i := k) (by have := HLY.out; omega)
        obtain ⟨X, eX, eX'⟩ : ∃ X : Nat, (q : Int) + ((lim ys k : Nat) : Int) = (X : Int) ∧ X = q + lim ys k := ⟨_, by omega, rfl⟩
        have hXb : X ≤ 4294967296 := by omega
        by_cases h3 : lim xs k < X
        · have d3 : decide (lim xs k < X) = true := decide_eq_true h3
          obtain ⟨Y, eY, eY'⟩ : ∃ Y : Nat, ((lim xs k : Nat) : Int) + 4294967296 = (Y : Int) ∧ Y = lim xs k + 4294967296 := ⟨_, by omega, rfl⟩
          obtain ⟨tm, htm, htmb⟩ : ∃ tm : Nat, (Y : Int) - (X : Int) = (tm : Int) ∧ tm < 4294967296 := ⟨Y - X, by omega, by omega⟩
          have hYb : Y ≤ 8589934591 := by omega
          have R := step_sub (xs := xs) (ys := ys) (ys0 := List.replicate len 0) (t := -(q : Int) + ((lim xs k : Int) - (lim ys k : Int))) (td := 1) (tm := tm) HOL.out hok HV.out HBK.out HK.out rfl (by omega) (by omega) (by simp; omega) hq hlim hlim2
          have HR := Lib.hid R
          clear R h3 hi0 hz0 hz1 hz2 eX' eY'
          go_wp2_with fail
          obtain ⟨r1, r2, r3, r4, r5, r6⟩ := HR.out
          exact ⟨⟨k + 1, 1, os ++ [tm], by omega, by go_num, rfl, r1, r2, r3, r4, r5, r6⟩, by simp [intOf]; omega⟩
        · have d3 : decide (lim xs k < X) = false := decide_eq_false h3
          obtain ⟨tm, htm, htmb⟩ : ∃ tm : Nat, ((lim xs k : Nat) : Int) - (X : Int) = (tm : Int) ∧ tm < 4294967296 := ⟨lim xs k - X, by omega, by omega⟩
          have R := step_sub (xs := xs) (ys := ys) (ys0 := List.replicate len 0) (t := -(q : Int) + ((lim xs k : Int) - (lim ys k : Int))) (td := 0) (tm := tm) HOL.out hok HV.out HBK.out HK.out rfl (by omega) (by omega) (by simp; omega) hq hlim hlim2
          have HR := Lib.hid R
          clear R h3 hi0 hz0 hz1 hz2 eX'
          go_wp2_with fail
          obtain ⟨r1, r2, r3, r4, r5, r6⟩ := HR.out
          exact ⟨⟨k + 1, 0, os ++ [tm], by omega, by go_num, rfl, r1, r2, r3, r4, r5, r6⟩, by simp [intOf]; omega⟩
      · have d2 : decide (k < len') = false := decide_eq_false h2
        have z2 : lim ys k = 0 := lim_ge (by have := HLY.out; omega)
        obtain ⟨X, eX, eX'⟩ : ∃ X : Nat, X = q ∧ X = q + lim ys k := ⟨q, rfl, by omega⟩
        subst eX
        have hXb : X ≤ 4294967296 := by omega
        by_cases h3 : lim xs k < X
        · have d3 : decide (lim xs k < X) = true := decide_eq_true h3
          obtain ⟨Y, eY, eY'⟩ : ∃ Y : Nat, ((lim xs k : Nat) : Int) + 4294967296 = (Y : Int) ∧ Y = lim xs k + 4294967296 := ⟨_, by omega, rfl⟩
          obtain ⟨tm, htm, htmb⟩ : ∃ tm : Nat, (Y : Int) - (X : Int) = (tm : Int) ∧ tm < 4294967296 := ⟨Y - X, by omega, by omega⟩
          have hYb : Y ≤ 8589934591 := by omega
          have R := step_sub (xs := xs) (ys := ys) (ys0 := List.replicate len 0) (t := -(X : Int) + ((lim xs k : Int) - (lim ys k : Int))) (td := 1) (tm := tm) HOL.out hok HV.out HBK.out HK.out rfl (by omega) (by omega) (by simp; omega) hq hlim hlim2
          have HR := Lib.hid R
          clear R h3 hi0 hz0 hz1 hz2 eX' eY' z2 h2
          go_wp2_with fail
          obtain ⟨r1, r2, r3, r4, r5, r6⟩ := HR.out
          exact ⟨⟨k + 1, 1, os ++ [tm], by omega, by go_num, rfl, r1, r2, r3, r4, r5, r6⟩, by simp [intOf]; omega⟩
        · have d3 : decide (lim xs k < X) = false := decide_eq_false h3
          obtain ⟨tm, htm, htmb⟩ : ∃ tm : Nat, ((lim xs k : Nat) : Int) - (X : Int) = (tm : Int) ∧ tm < 4294967296 := ⟨lim xs k - X, by omega, by omega⟩
          have R := step_sub (xs := xs) (ys := ys) (ys0 := List.replicate len 0) (t := -(X : Int) + ((lim xs k : Int) - (lim ys k : Int))) (td := 0) (tm := tm) HOL.out hok HV.out HBK.out HK.out rfl (by omega) (by omega) (by simp; omega) hq hlim hlim2
          have HR := Lib.hid R
          clear R h3 hi0 hz0 hz1 hz2 eX' z2 h2
          go_wp2_with fail
          obtain ⟨r1, r2, r3, r4, r5, r6⟩ := HR.out
          exact ⟨⟨k + 1, 0, os ++ [tm], by omega, by go_num, rfl, r1, r2, r3, r4, r5, r6⟩, by simp [intOf]; omega⟩
    · obtain rfl : k = len := by omega
      have hos : splice (List.replicate k 0) 0 os = os := splice_zeros_all HOL.out
      have hb2 := HBK.out
      rw [hos] at hb2
      have hsl := Sl.of_blk hb2
      rw [HOL.out] at hsl
      have hval : val os = val xs - val ys := end_sub HOL.out hok HV.out HLX.out (by have := HLY.out; omega) HLE.out
      have HSL := Lib.hid hsl
      have HV2 := Lib.hid hval
      have HB2 := Lib.hid (HBW.out.trans (HK.out.below (B := w.heap.size) (by omega) (fun j hj => by omega)))
      clear hos hb2 hsl hval hblk hkeep hol hv
      go_wp2_with fail
      refine (rtrim_any _ os _ HSL.out hok (by rw [HOL.out]; omega)).mono ?_
      rintro e w2 ⟨v', rfl, hr2, rfl⟩
      have HR2 := Lib.hid hr2
      clear hr2
      go_wp2_with fail
      go_ret
      exact ⟨_, rfl, by have := HR2.out; rw [HV2.out] at this; exact this, HB2.out⟩
end Go.Proofs.YtpmnakjllkidiaaGreatDoor

namespace Go.Proofs.YtpmnakjllkidiaaGreatDoor
open Go.RowKit Cin
theorem keep_drewN {S : Nat → Prop} {w w' : World} (h : Keep S w w') (n : Nat) : Keep S w (w'.drewN n) := ⟨h.os, h.tape, h.output, h.size, h.block⟩
set_option maxRecDepth 100000 in
set_option maxHeartbeats 2000000 in
theorem refMul_any (v u : Value) (x y : Nat) (L : Nat) (w : World) (h : RefV 161 w v x) (h' : RefV 161 w u y) (hx : x < pw L) (hy : y < pw L) (hL : L ≤ 100000000) :
    Calls Tryz.prog 89 #[v, u] w fun e w' => ∃ v', e = .returned v' ∧ RefV 161 w' v' (x * y) ∧ Below w.heap.size w w' := by
  obtain ⟨ad, n, cap, xs, rfl, hs, ho, hnm, rfl, hlx, hcx⟩ := h.shape
  obtain ⟨ad', m, cap', ys, rfl, hs', ho', hnm', rfl, hly, hcy⟩ := h'.shape
  obtain ⟨i0, hi0, hz0, hz1, hz2⟩ := info_parts info_u32
  have hl : n ≤ 100000000 := by have := norm_len hnm hx; omega
  have hl' : m ≤ 100000000 := by have := norm_len hnm' hy; omega
  obtain ⟨nm, hnm0, enm⟩ : ∃ s : Nat, (n : Int) + (m : Int) = (s : Int) ∧ s = n + m := ⟨n + m, by omega, rfl⟩
  obtain ⟨s, hsn, es⟩ : ∃ s : Nat, (nm : Int) + 1 = (s : Int) ∧ s = n + m + 1 := ⟨n + m + 1, by omega, rfl⟩
  have ES := Lib.hid es
  have hsb : s ≤ 200000001 := by omega
  have hnb : nm ≤ 200000000 := by omega
  have H := Lib.hid hs
  have H' := Lib.hid hs'
  have HLX := Lib.hid hlx
  have HLY := Lib.hid hly
  have HD := Lib.hid (show ∀ b' o' n' c', Value.slice ad n cap = .slice (some ⟨b', o', none⟩) n' c' → ¬ (b' = w.heap.size) from fun b' o' n' c' e => by have := hs.lt e; omega)
  have HD' := Lib.hid (show ∀ b' o' n' c', Value.slice ad' m cap' = .slice (some ⟨b', o', none⟩) n' c' → ¬ (b' = w.heap.size) from fun b' o' n' c' e => by have := hs'.lt e; omega)
  clear hx hy h h' hs hs' hlx hly hnm hnm' es enm
  go_enter Tryz.func89, Tryz.ntmps89
  go_wp2_with (at_make; refine wpList_make_ints _ rfl _ _ 44 rfl 161 i0 .u32 Tryz.underlying44 hi0 hz0 hz1 .i64 .i64 _ _ s s rfl rfl (by omega) (by omega) (Nat.le_refl _) (by rw [hz2]; omega) (by omega) ?_)
  have hkW : Blk (w.alloc (Obj.cells (ints IntKind.u32 (List.replicate s 0)) 161)) w.heap.size 161 .u32 (List.replicate s 0) := Blk.new _ _ _ _
  have hbW := bel_alloc w (Obj.cells (ints IntKind.u32 (List.replicate s 0)) 161)
  generalize w.alloc (Obj.cells (ints IntKind.u32 (List.replicate s 0)) 161) = W at *
  have hszW := hkW.lt
  have HL := Lib.hid (H.out.below hbW)
  have HS := Lib.hid (H'.out.below hbW)
  have HBW := Lib.hid hbW
  have HKW := Lib.hid hkW
  have HWW := Lib.hid (Nat.le_refl w.heap.size)
  clear hbW hkW H H' hi0 hz0 hz1 hz2
  go_loopw [6] (fun ix wr => ∃ (i : Nat) (ps : List Nat), i ≤ n ∧ ix = .int .i64 i ∧ ps.length = s ∧ Ok ps ∧ val ps = val (xs.take i) * val ys ∧ (∀ j, i + m ≤ j → lim ps j = 0) ∧
      Blk wr w.heap.size 161 .u32 ps ∧ Keep (· = w.heap.size) W wr) (fun ix _ => n - (intOf ix).toNat)
  case atStart => exact ⟨0, List.replicate s 0, Nat.zero_le _, rfl, by simp, Ok.replicate _, by rw [val_replicate, List.take_zero, val_nil, Nat.zero_mul], fun j _ => lim_replicate _ _, HKW.out, Keep.refl _ _⟩
  case round =>
    obtain ⟨i, ps, hi, rfl, hpl, hok, hv, hz, hblk, hkeep⟩ := hrel
    have HPL := Lib.hid hpl
    have HV := Lib.hid hv
    have HZ := Lib.hid hz
    have HBK := Lib.hid hblk
    have HK := Lib.hid hkeep
    clear hpl hv hz hblk hkeep
    by_cases hlt : i < n
    · have hlim : lim xs i < 4294967296 := lim_lt ho _
      go_wp2_with fail
      go_loopw [7, 8] (fun c kx wq => ∃ (k q : Nat) (ps' : List Nat), k ≤ m ∧ kx = .int .i64 k ∧ c = .int .u64 q ∧ q < 4294967296 ∧ ps'.length = ps.length ∧ Ok ps' ∧ val ps' + pw (i + k) * q = val ps + pw i * (lim xs i * val (ys.take k)) ∧
          (∀ j, i + k ≤ j → lim ps' j = lim ps j) ∧ Blk wq w.heap.size 161 .u32 ps' ∧ Keep (· = w.heap.size) W wq) (fun _ kx _ => m - (intOf kx).toNat)
      case atStart => exact ⟨0, 0, ps, Nat.zero_le _, rfl, rfl, by decide, rfl, hok, by rw [Nat.mul_zero, Nat.add_zero, List.take_zero, val_nil, Nat.mul_zero, Nat.mul_zero, Nat.add_zero], fun _ _ => rfl, HBK.out, HK.out⟩
      case round =>
        obtain ⟨k, q, ps', hk, rfl, rfl, hq, hpl', hok', hv', hun, hblk', hkeep'⟩ := hrel
        obtain ⟨ik, eik, eik'⟩ : ∃ ik : Nat, (i : Int) + (k : Int) = (ik : Int) ∧ i + k = ik := ⟨i + k, by omega, rfl⟩
        have hik : ik < s := by have := ES.out; omega
        have wik : IntKind.i64.wrap (ik : Int) = (ik : Int) := IntWalk.i64_in _ (by omega)
        have hcell2 := hblk'.cell (i := ik) (by rw [hpl', HPL.out]; exact hik)
        have hf := hblk'.free ik
        have hp := lim_lt hok' ik
        have HPL' := Lib.hid hpl'
        have HV' := Lib.hid hv'
        have HUN := Lib.hid hun
        have HBK' := Lib.hid hblk'
        have HK' := Lib.hid hkeep'
        have EIK := Lib.hid eik'
        clear hpl' hv' hun hblk' hkeep' eik'
        by_cases hklt : k < m
        · obtain ⟨bx, offx, rfl, hcell, hblt⟩ := (HL.out.keep HK'.out HD.out).cell (i := i) (by have := HLX.out; omega)
          obtain ⟨by_, offy, rfl, hcelly, hblty⟩ := (HS.out.keep HK'.out HD'.out).cell (i := k) (by have := HLY.out; omega)
          have hlimy : lim ys k < 4294967296 := lim_lt ho' _
          have hxy : lim xs i * lim ys k ≤ 4294967295 * 4294967295 := Nat.mul_le_mul (by omega) (by omega)
          obtain ⟨p, hpw, ep⟩ : ∃ p : Nat, IntKind.u64.wrap (((lim xs i : Nat) : Int) * ((lim ys k : Nat) : Int)) = (p : Int) ∧ p = lim xs i * lim ys k := ⟨lim xs i * lim ys k, by
            rw [IntKind.wrap_u64, show (((lim xs i : Nat) : Int) * ((lim ys k : Nat) : Int)) = ((lim xs i * lim ys k : Nat) : Int) by simp]; omega, rfl⟩
          rw [← ep] at hxy
          obtain ⟨t1, ht1, et1⟩ : ∃ t1 : Nat, IntKind.u64.wrap ((p : Int) + ((lim ps' ik : Nat) : Int)) = (t1 : Int) ∧ t1 = p + lim ps' ik := ⟨_, by rw [IntKind.wrap_u64]; omega, rfl⟩
          obtain ⟨t, ht, et⟩ : ∃ t : Nat, IntKind.u64.wrap ((q : Int) + (t1 : Int)) = (t : Int) ∧ t = q + t1 := ⟨_, by rw [IntKind.wrap_u64]; omega, rfl⟩
          have htb : t < 18446744073709551616 := by omega
          rw [et1, ep] at et
          obtain ⟨td, htd, etd⟩ : ∃ td : Nat, ((t : Int) / 4294967296) = (td : Int) ∧ td = t / 4294967296 := ⟨t / 4294967296, by omega, rfl⟩
          obtain ⟨tm, htm, etm⟩ : ∃ tm : Nat, ((t : Int) % 4294967296) = (tm : Int) ∧ tm = t % 4294967296 := ⟨t % 4294967296, by omega, rfl⟩
          have hand : bits BinOp.and IntKind.u64 (t : Int) 4294967295 = (tm : Int) := by rw [and_mask32 htb, etm]
          have htmb : tm < 4294967296 := by omega
          have ET := Lib.hid et
          have ETD := Lib.hid etd
          have ETM := Lib.hid etm
          have hin : i < n := hlt
          clear et etd etm hxy ep et1 htb
          go_wp2_with fail
          go_quiet (fail)
          go_wp2_with fail
          have e0 := EIK.out
          subst e0
          obtain ⟨r1, r2, r3, r4, r5, r6, r7⟩ := step_mul (ys := ys) (wr := wr.drewN nq) HPL'.out hok' HV'.out HUN.out HBK'.out (keep_drewN HK'.out nq) ET.out ETD.out ETM.out (by rw [HPL.out]; exact hik) hq hlim hlimy hp
          exact ⟨⟨k + 1, td, ps'.set (i + k) tm, by omega, by go_num, rfl, r1, r2, r3, r4, r5, r6, r7⟩, by simp [intOf]; omega⟩
        · obtain rfl : k = m := by omega
          have HB4 := Lib.hid (HBK'.out.set ik q)
          have HK4 := Lib.hid (show Keep (· = w.heap.size) W (wr.setCell ⟨w.heap.size, ik, none⟩ (.int .u32 (q : Nat))) from HK'.out.setCell rfl _)
          go_wp2_with fail
          have e0 := EIK.out
          subst e0
          obtain ⟨r1, r2, r3, r4⟩ := row_mul (xs := xs) (ys := ys) HPL'.out hok' HV.out HZ.out HV'.out HUN.out HLY.out (by rw [HPL.out]; exact hik) hq
          exact ⟨⟨i + 1, ps'.set (i + k) q, by omega, by go_num, by rw [r1, HPL.out], r2, r3, r4, HB4.out, HK4.out⟩, by simp [intOf]; omega⟩
    · obtain rfl : i = n := by omega
      have hval : val ps = val xs * val ys := by rw [HV.out, List.take_of_length_le (by have := HLX.out; omega)]
      have hsl := Sl.of_blk HBK.out
      rw [HPL.out] at hsl
      have HSL := Lib.hid hsl
      have HV2 := Lib.hid hval
      have HB2 := Lib.hid (HBW.out.trans (HK.out.below (B := w.heap.size) (by omega) (fun j hj => by omega)))
      clear hsl hval
      go_wp2_with fail
      refine (rtrim_any _ ps _ HSL.out hok (by rw [HPL.out]; omega)).mono ?_
      rintro e w2 ⟨v', rfl, hr2, rfl⟩
      have HR2 := Lib.hid hr2
      clear hr2
      go_wp2_with fail
      go_ret
      exact ⟨_, rfl, by have := HR2.out; rw [HV2.out] at this; exact this, HB2.out⟩
end Go.Proofs.YtpmnakjllkidiaaGreatDoor

namespace Go.Proofs.YtpmnakjllkidiaaGreatDoor
open Go.RowKit Cin
def RefB (w : World) (v : Value) (n k : Nat) : Prop := RefV 161 w v n ∧ n < pw k
theorem RefB.below {w w' : World} {v : Value} {n k : Nat} (h : RefB w v n k) (hb : Below w.heap.size w w') : RefB w' v n k := ⟨h.1.below hb, h.2⟩
theorem drewN_below (w : World) (n : Nat) : Below w.heap.size w (w.drewN n) := bel_drewN (Below.refl _ _) n
theorem raddB (v u : Value) (x y a b : Nat) (w : World) (h : RefB w v x a) (h' : RefB w u y b) (ha : a ≤ 10000000) (hb : b ≤ 10000000) :
    Calls Tryz.prog 123 #[v, u] w fun e w' => ∃ v', e = .returned v' ∧ RefB w' v' (x + y) (a + b + 1) ∧ Below w.heap.size w w' :=
  (refAdd_any v u x y (a + b) w h.1 h'.1 (lt_pw_mono h.2 (by omega)) (lt_pw_mono h'.2 (by omega)) (by omega)).mono fun _ _ ⟨v', e, hn, hw⟩ => ⟨v', e, ⟨hn, by have := pw_big a b; have := h.2; have := h'.2; omega⟩, hw⟩
theorem rmulB (v u : Value) (x y a b : Nat) (w : World) (h : RefB w v x a) (h' : RefB w u y b) (ha : a ≤ 10000000) (hb : b ≤ 10000000) :
    Calls Tryz.prog 89 #[v, u] w fun e w' => ∃ v', e = .returned v' ∧ RefB w' v' (x * y) (a + b) ∧ Below w.heap.size w w' :=
  (refMul_any v u x y (a + b) w h.1 h'.1 (lt_pw_mono h.2 (by omega)) (lt_pw_mono h'.2 (by omega)) (by omega)).mono fun _ _ ⟨v', e, hn, hw⟩ => ⟨v', e, ⟨hn, lt_pw_mul h.2 h'.2⟩, hw⟩
theorem rsubB (v u : Value) (x y a b : Nat) (w : World) (h : RefB w v x a) (h' : RefB w u y b) (ha : a ≤ 10000000) (hb : b ≤ 10000000) (hle : y ≤ x) :
    Calls Tryz.prog 124 #[v, u] w fun e w' => ∃ v', e = .returned v' ∧ RefB w' v' (x - y) a ∧ Below w.heap.size w w' :=
  (refSub_any v u x y (a + b) w h.1 h'.1 (lt_pw_mono h.2 (by omega)) (by omega) hle).mono fun _ _ ⟨v', e, hn, hw⟩ => ⟨v', e, ⟨hn, by have := h.2; omega⟩, hw⟩
theorem rcmpB (v u : Value) (x y a b : Nat) (w : World) (h : RefB w v x a) (h' : RefB w u y b) (ha : a ≤ 10000000) (hb : b ≤ 10000000) :
    Calls Tryz.prog 65 #[v, u] w fun e w' => e = .returned (.int .i64 (cmpI x y)) ∧ Below w.heap.size w w' :=
  (refCmp_any v u x y (a + b) w h.1 h'.1 (lt_pw_mono h.2 (by omega)) (lt_pw_mono h'.2 (by omega)) (by omega)).mono fun _ _ ⟨e, n, hw⟩ => ⟨e, by rw [hw]; exact drewN_below _ _⟩
theorem rtextB (v : Value) (n k : Nat) (w : World) (h : RefB w v n k) (hk : k ≤ 1000000) :
    Calls Tryz.prog 157 #[v] w fun e w' => e = .returned (.string (decS n)) ∧ Below w.heap.size w w' := refText_any v n k w h.1 h.2 hk
end Go.Proofs.YtpmnakjllkidiaaGreatDoor
