/- The contract of nat's Add. -/
import Derived.Test.YtpchnejdbmoicaaDoorW7
namespace Go.Proofs.YtpchnejdbmoicaaDoor
open Go.RowKit Cin

theorem step_add {t0 : TypeId} {w wr : World} {xs ys os ys0 : List Nat} {b off k q t td tm : Nat} (hol : os.length = k) (hok : Ok os) (hv : val os + pw k * q = val (xs.take k) + val (ys.take k))
    (hblk : Blk wr b t0 .u32 (splice ys0 off os)) (hkeep : Keep (· = b) w wr) (et : t = q + (lim xs k + lim ys k)) (etd : td = t / 4294967296) (etm : tm = t % 4294967296) (hlt : off + k < ys0.length)
    (hq : q ≤ 1 := by omega) (hx : lim xs k < 4294967296 := by assumption) (hy : lim ys k < 4294967296 := by assumption) :
    td ≤ 1 ∧ (os ++ [tm]).length = k + 1 ∧ Ok (os ++ [tm]) ∧ val (os ++ [tm]) + pw (k + 1) * td = val (xs.take (k + 1)) + val (ys.take (k + 1)) ∧
      Blk (wr.setCell ⟨b, off + k, none⟩ (.int .u32 (tm : Nat))) b t0 .u32 (splice ys0 off (os ++ [tm])) ∧ Keep (· = b) w (wr.setCell ⟨b, off + k, none⟩ (.int .u32 (tm : Nat))) := by
  have htm : tm < 4294967296 := by omega
  refine ⟨by omega, by rw [List.length_append, hol]; rfl, hok.append (Ok.cons htm Ok.nil), ?_, ?_, hkeep.setCell rfl _⟩
  · rw [val_snoc, hol, val_take_step xs, val_take_step ys, pw_succ]
    have e1 : t = tm + 4294967296 * td := by omega
    have e2 : pw k * t = pw k * tm + 4294967296 * pw k * td := by rw [e1, Nat.mul_add, Nat.mul_comm 4294967296 (pw k), Nat.mul_assoc]
    have e3 : pw k * t = pw k * q + (pw k * lim xs k + pw k * lim ys k) := by rw [et, Nat.mul_add, Nat.mul_add]
    omega
  · have := hblk.set (off + k) tm
    rw [← hol, splice_set (by omega), hol] at this
    exact this

set_option maxRecDepth 100000 in
set_option maxHeartbeats 1000000 in
/-- Add: a and b together. -/
theorem add_any (v u : Value) (x y : Nat) (L : Nat) (w : World) (h : NatV 68 w v x) (h' : NatV 68 w u y) (hx : x < pw L) (hy : y < pw L) (hL : L ≤ 100000000) :
    Calls Tryd.prog 30 #[v, u] w fun e w' => ∃ v', e = .returned v' ∧ NatV 68 w' v' (x + y) ∧ Below w.heap.size w w' := by
  obtain ⟨ad, len, cap, rfl, xs, hs, ho, hnm, rfl⟩ := h.shape
  obtain ⟨ad', len', cap', rfl, ys, hs', ho', hnm', rfl⟩ := h'.shape
  obtain ⟨i0, hi0, hz0, hz1, hz2⟩ := info_parts info_u32
  have hlx := hs.len
  have hly := hs'.len
  have hl : len ≤ 100000000 := by have := norm_len hnm hx; omega
  have hl' : len' ≤ 100000000 := by have := norm_len hnm' hy; omega
  have H := Lib.hid hs
  have H' := Lib.hid hs'
  have HLX := Lib.hid hlx
  have HLY := Lib.hid hly
  have HD := Lib.hid (show ∀ b' o' n' c', Value.slice ad len cap = .slice (some ⟨b', o', none⟩) n' c' → ¬ (b' = w.heap.size + 1 + 1 + 1) from fun b' o' n' c' e => by have := hs.lt e; omega)
  have HD' := Lib.hid (show ∀ b' o' n' c', Value.slice ad' len' cap' = .slice (some ⟨b', o', none⟩) n' c' → ¬ (b' = w.heap.size + 1 + 1 + 1) from fun b' o' n' c' e => by have := hs'.lt e; omega)
  clear hx hy h h' hs hs' hlx hly hnm hnm'
  by_cases hll : len < len'
  · have hdec : decide (len < len') = true := by rw [decide_eq_true_iff]; exact hll
    have hln : len' ≤ 100000000 := by omega
    obtain ⟨n1, hn1, en1⟩ : ∃ n1 : Nat, (len' : Int) + 1 = (n1 : Int) ∧ n1 = len' + 1 := ⟨len' + 1, by omega, rfl⟩
    have EN := Lib.hid en1
    have hnb : n1 ≤ 100000001 := by omega
    have hle : len ≤ len' := by omega
    clear en1 hll
    go_enter Tryd.func30, Tryd.ntmps30
    go_wp2_with fail
    go_quiet (fail)
    go_wp2_with (at_make; refine wpList_make_ints _ rfl _ _ 23 rfl 68 i0 .u32 Tryd.underlying23 hi0 hz0 hz1 .i64 .i64 _ _ n1 n1 rfl rfl (by omega) (by omega) (Nat.le_refl _) (by rw [hz2]; omega) (by omega) ?_)
    have hbW : Below w.heap.size w (((((w.alloc (Obj.cells #[Value.slice ad len cap] 25)).alloc (Obj.cells #[Value.slice ad' len' cap'] 25)).alloc (Obj.cells #[Value.slice none 0 0] 25)).drewN nq).alloc (Obj.cells (ints IntKind.u32 (List.replicate n1 0)) 68)) :=
      (bel_drewN (bel_alloc3 _ _ _ _) _).alloc (by simp; omega) _
    have hrW : (((((w.alloc (Obj.cells #[Value.slice ad len cap] 25)).alloc (Obj.cells #[Value.slice ad' len' cap'] 25)).alloc (Obj.cells #[Value.slice none 0 0] 25)).drewN nq).alloc (Obj.cells (ints IntKind.u32 (List.replicate n1 0)) 68)).heap[w.heap.size + 1 + 1]? = some (.cells #[.slice none 0 0] 25 (0, 0)) := nb42 w _ _ _ _
    have hkW : Blk (((((w.alloc (Obj.cells #[Value.slice ad len cap] 25)).alloc (Obj.cells #[Value.slice ad' len' cap'] 25)).alloc (Obj.cells #[Value.slice none 0 0] 25)).drewN nq).alloc (Obj.cells (ints IntKind.u32 (List.replicate n1 0)) 68)) (w.heap.size + 1 + 1 + 1) 68 .u32 (List.replicate n1 0) := nb43 w _ _ _ _
    generalize (((((w.alloc (Obj.cells #[Value.slice ad len cap] 25)).alloc (Obj.cells #[Value.slice ad' len' cap'] 25)).alloc (Obj.cells #[Value.slice none 0 0] 25)).drewN nq).alloc (Obj.cells (ints IntKind.u32 (List.replicate n1 0)) 68)) = W at *
    have hszW := hkW.lt
    have HL := Lib.hid (H'.out.below hbW)
    have HS := Lib.hid (H.out.below hbW)
    have HBW := Lib.hid hbW
    have HRW := Lib.hid hrW
    have HKW := Lib.hid hkW
    clear hbW hrW hkW H H'
    go_loopw [8, 9, 10, 28] (fun c _ _ i wr => ∃ (k q : Nat) (os : List Nat), k ≤ len' ∧ i = .int .i64 k ∧ c = .int .u64 q ∧ q ≤ 1 ∧ os.length = k ∧ Ok os ∧ val os + pw k * q = val (ys.take k) + val (xs.take k) ∧
        Blk wr (w.heap.size + 1 + 1 + 1) 68 .u32 (splice (List.replicate n1 0) 0 os) ∧ Keep (· = w.heap.size + 1 + 1 + 1) W wr) (fun _ _ _ i _ => len' - (intOf i).toNat)
    case atStart => exact ⟨0, 0, [], Nat.zero_le _, rfl, rfl, by omega, rfl, Ok.nil, rfl, by rw [splice_nil]; exact HKW.out, Keep.refl _ _⟩
    case round =>
      obtain ⟨k, q, os, hk, rfl, rfl, hq, hol, hok, hv, hblk, hkeep⟩ := hrel
      have HOL := Lib.hid hol
      have HV := Lib.hid hv
      have hcell2 := hblk.cell (i := k) (by rw [splice_length (by simp; have := EN.out; omega)]; simp; have := EN.out; omega)
      have hf := hblk.free k
      have HBK := Lib.hid hblk
      have HK := Lib.hid hkeep
      have HSr := Lib.hid (HS.out.keep HK.out (HD.out))
      have HLr := Lib.hid (HL.out.keep HK.out (HD'.out))
      clear hol hv hblk hkeep
      by_cases hlt : k < len'
      · obtain ⟨bx, offx, rfl, hcell, hblt⟩ := HLr.out.cell (i := k) (by have := HLY.out; omega)
        have hlim : lim ys k < 4294967296 := lim_lt ho' _
        have hlim2 : lim xs k < 4294967296 := lim_lt ho _
        obtain ⟨t, ht, et⟩ : ∃ t : Nat, (q : Int) + (((lim ys k : Nat) : Int) + ((lim xs k : Nat) : Int)) = (t : Int) ∧ t = q + (lim ys k + lim xs k) := ⟨_, by omega, rfl⟩
        have htb : t ≤ 8589934591 := by omega
        obtain ⟨td, htd, etd⟩ : ∃ td : Nat, ((t : Int) / 4294967296) = (td : Int) ∧ td = t / 4294967296 := ⟨t / 4294967296, by omega, rfl⟩
        obtain ⟨tm, htm, etm⟩ : ∃ tm : Nat, ((t : Int) % 4294967296) = (tm : Int) ∧ tm = t % 4294967296 := ⟨t % 4294967296, by omega, rfl⟩
        have R := step_add (xs := ys) (ys := xs) (off := 0) (ys0 := List.replicate n1 0) HOL.out hok HV.out HBK.out HK.out et etd etm (by simp; have := EN.out; omega)
        rw [Nat.zero_add] at R
        have HR := Lib.hid R
        have hkn : k < n1 := by omega
        clear R et etd etm
        go_wp2_with (go_at_call 74; refine (limbAt_any _ xs _ _ HSr.out (by omega)).mono ?_; rintro e w' ⟨rfl, rfl⟩; rw [Int.toNat_natCast])
        obtain ⟨r1, r2, r3, r4, r5, r6⟩ := HR.out
        exact ⟨⟨k + 1, td, os ++ [tm], by omega, by go_num, rfl, r1, r2, r3, r4, r5, r6⟩, by simp [intOf]; omega⟩
      · obtain rfl : k = len' := by omega
        have hos : splice (List.replicate n1 0) 0 (os ++ [q]) = os ++ [q] := splice_zeros_all (by rw [List.length_append, HOL.out, EN.out]; rfl)
        have hb2 : Blk (wr.setCell ⟨w.heap.size + 1 + 1 + 1, k, none⟩ (.int .u32 (q : Nat))) (w.heap.size + 1 + 1 + 1) 68 .u32 (os ++ [q]) := by
          have := HBK.out.set (0 + os.length) q
          rw [splice_set (by simp; have := EN.out; have := HOL.out; omega), hos, HOL.out, Nat.zero_add] at this
          exact this
        have hsl := Sl.of_blk hb2
        rw [List.length_append, HOL.out, show k + [q].length = n1 from EN.out.symm] at hsl
        have hval : val (os ++ [q]) = val xs + val ys := by
          rw [val_snoc, HOL.out, HV.out, List.take_of_length_le (by have := HLY.out; omega), List.take_of_length_le (by have := HLX.out; omega), Nat.add_comm]
        have hoks : Ok (os ++ [q]) := hok.append (Ok.cons (by omega) Ok.nil)
        have hlen2 : (os ++ [q]).length ≤ 1000000000000 := by rw [List.length_append, HOL.out]; simp; omega
        have hk3 : Keep (· = w.heap.size + 1 + 1 + 1) W (wr.setCell ⟨w.heap.size + 1 + 1 + 1, k, none⟩ (.int .u32 (q : Nat))) := HK.out.setCell rfl _
        have hr3 := (hk3.block (w.heap.size + 1 + 1) (by omega) (by omega)).trans HRW.out
        have hb3 := HBW.out.trans (hk3.below (B := w.heap.size) (by have := HBW.out.size; omega) (fun k e => by omega))
        have HV2 := Lib.hid hval
        have HSL := Lib.hid hsl
        have HR3 := Lib.hid hr3
        have HB3 := Lib.hid hb3
        have hkn : k < n1 := by have := EN.out; omega
        clear hval hsl hr3 hb3 hk3 hb2 hos
        go_wp2_with fail
        refine (wrap_any _ _ _ HSL.out hoks hlen2).mono ?_
        rintro e w2 ⟨v', rfl, hn2, hb2⟩
        obtain ⟨ad2, len2, cap2, rfl, hr2⟩ := hn2.shape
        have hk2 := (hb2.block (w.heap.size + 1 + 1) (by have := HSL.out.lt rfl; omega)).trans HR3.out
        have hc := cell_of hk2 0
        have hf := free_of hk2 0
        simp only [List.getElem?_toArray, List.getElem?_cons_zero] at hc
        have HR := Lib.hid (fin_nat (bel_on HB3.out hb2) hk2 (by decide) hr2 (by omega) 0)
        clear hr2 hb2 hk2 hn2
        go_wp2
        refine bodyPost_ret (v := .agg #[.slice ad2 len2 cap2]) (by simp [results, Tryd.results30, go_sem, World.cell?_setCell_same _ _ _ hc]) rfl ⟨_, rfl, ?_⟩
        have := HR.out
        rw [HV2.out] at this
        exact this
  · have hdec : decide (len < len') = false := by rw [decide_eq_false_iff_not]; exact hll
    have hln : len ≤ 100000000 := by omega
    obtain ⟨n1, hn1, en1⟩ : ∃ n1 : Nat, (len : Int) + 1 = (n1 : Int) ∧ n1 = len + 1 := ⟨len + 1, by omega, rfl⟩
    have EN := Lib.hid en1
    have hnb : n1 ≤ 100000001 := by omega
    have hle : len' ≤ len := by omega
    clear en1 hll
    go_enter Tryd.func30, Tryd.ntmps30
    go_wp2_with fail
    go_quiet (fail)
    go_wp2_with (at_make; refine wpList_make_ints _ rfl _ _ 23 rfl 68 i0 .u32 Tryd.underlying23 hi0 hz0 hz1 .i64 .i64 _ _ n1 n1 rfl rfl (by omega) (by omega) (Nat.le_refl _) (by rw [hz2]; omega) (by omega) ?_)
    have hbW : Below w.heap.size w (((((w.alloc (Obj.cells #[Value.slice ad len cap] 25)).alloc (Obj.cells #[Value.slice ad' len' cap'] 25)).alloc (Obj.cells #[Value.slice none 0 0] 25)).drewN nq).alloc (Obj.cells (ints IntKind.u32 (List.replicate n1 0)) 68)) :=
      (bel_drewN (bel_alloc3 _ _ _ _) _).alloc (by simp; omega) _
    have hrW : (((((w.alloc (Obj.cells #[Value.slice ad len cap] 25)).alloc (Obj.cells #[Value.slice ad' len' cap'] 25)).alloc (Obj.cells #[Value.slice none 0 0] 25)).drewN nq).alloc (Obj.cells (ints IntKind.u32 (List.replicate n1 0)) 68)).heap[w.heap.size + 1 + 1]? = some (.cells #[.slice none 0 0] 25 (0, 0)) := nb42 w _ _ _ _
    have hkW : Blk (((((w.alloc (Obj.cells #[Value.slice ad len cap] 25)).alloc (Obj.cells #[Value.slice ad' len' cap'] 25)).alloc (Obj.cells #[Value.slice none 0 0] 25)).drewN nq).alloc (Obj.cells (ints IntKind.u32 (List.replicate n1 0)) 68)) (w.heap.size + 1 + 1 + 1) 68 .u32 (List.replicate n1 0) := nb43 w _ _ _ _
    generalize (((((w.alloc (Obj.cells #[Value.slice ad len cap] 25)).alloc (Obj.cells #[Value.slice ad' len' cap'] 25)).alloc (Obj.cells #[Value.slice none 0 0] 25)).drewN nq).alloc (Obj.cells (ints IntKind.u32 (List.replicate n1 0)) 68)) = W at *
    have hszW := hkW.lt
    have HL := Lib.hid (H.out.below hbW)
    have HS := Lib.hid (H'.out.below hbW)
    have HBW := Lib.hid hbW
    have HRW := Lib.hid hrW
    have HKW := Lib.hid hkW
    clear hbW hrW hkW H H'
    go_loopw [8, 9, 10, 28] (fun c _ _ i wr => ∃ (k q : Nat) (os : List Nat), k ≤ len ∧ i = .int .i64 k ∧ c = .int .u64 q ∧ q ≤ 1 ∧ os.length = k ∧ Ok os ∧ val os + pw k * q = val (xs.take k) + val (ys.take k) ∧
        Blk wr (w.heap.size + 1 + 1 + 1) 68 .u32 (splice (List.replicate n1 0) 0 os) ∧ Keep (· = w.heap.size + 1 + 1 + 1) W wr) (fun _ _ _ i _ => len - (intOf i).toNat)
    case atStart => exact ⟨0, 0, [], Nat.zero_le _, rfl, rfl, by omega, rfl, Ok.nil, rfl, by rw [splice_nil]; exact HKW.out, Keep.refl _ _⟩
    case round =>
      obtain ⟨k, q, os, hk, rfl, rfl, hq, hol, hok, hv, hblk, hkeep⟩ := hrel
      have HOL := Lib.hid hol
      have HV := Lib.hid hv
      have hcell2 := hblk.cell (i := k) (by rw [splice_length (by simp; have := EN.out; omega)]; simp; have := EN.out; omega)
      have hf := hblk.free k
      have HBK := Lib.hid hblk
      have HK := Lib.hid hkeep
      have HSr := Lib.hid (HS.out.keep HK.out (HD'.out))
      have HLr := Lib.hid (HL.out.keep HK.out (HD.out))
      clear hol hv hblk hkeep
      by_cases hlt : k < len
      · obtain ⟨bx, offx, rfl, hcell, hblt⟩ := HLr.out.cell (i := k) (by have := HLX.out; omega)
        have hlim : lim xs k < 4294967296 := lim_lt ho _
        have hlim2 : lim ys k < 4294967296 := lim_lt ho' _
        obtain ⟨t, ht, et⟩ : ∃ t : Nat, (q : Int) + (((lim xs k : Nat) : Int) + ((lim ys k : Nat) : Int)) = (t : Int) ∧ t = q + (lim xs k + lim ys k) := ⟨_, by omega, rfl⟩
        have htb : t ≤ 8589934591 := by omega
        obtain ⟨td, htd, etd⟩ : ∃ td : Nat, ((t : Int) / 4294967296) = (td : Int) ∧ td = t / 4294967296 := ⟨t / 4294967296, by omega, rfl⟩
        obtain ⟨tm, htm, etm⟩ : ∃ tm : Nat, ((t : Int) % 4294967296) = (tm : Int) ∧ tm = t % 4294967296 := ⟨t % 4294967296, by omega, rfl⟩
        have R := step_add (xs := xs) (ys := ys) (off := 0) (ys0 := List.replicate n1 0) HOL.out hok HV.out HBK.out HK.out et etd etm (by simp; have := EN.out; omega)
        rw [Nat.zero_add] at R
        have HR := Lib.hid R
        have hkn : k < n1 := by omega
        clear R et etd etm
        go_wp2_with (go_at_call 74; refine (limbAt_any _ ys _ _ HSr.out (by omega)).mono ?_; rintro e w' ⟨rfl, rfl⟩; rw [Int.toNat_natCast])
        obtain ⟨r1, r2, r3, r4, r5, r6⟩ := HR.out
        exact ⟨⟨k + 1, td, os ++ [tm], by omega, by go_num, rfl, r1, r2, r3, r4, r5, r6⟩, by simp [intOf]; omega⟩
      · obtain rfl : k = len := by omega
        have hos : splice (List.replicate n1 0) 0 (os ++ [q]) = os ++ [q] := splice_zeros_all (by rw [List.length_append, HOL.out, EN.out]; rfl)
        have hb2 : Blk (wr.setCell ⟨w.heap.size + 1 + 1 + 1, k, none⟩ (.int .u32 (q : Nat))) (w.heap.size + 1 + 1 + 1) 68 .u32 (os ++ [q]) := by
          have := HBK.out.set (0 + os.length) q
          rw [splice_set (by simp; have := EN.out; have := HOL.out; omega), hos, HOL.out, Nat.zero_add] at this
          exact this
        have hsl := Sl.of_blk hb2
        rw [List.length_append, HOL.out, show k + [q].length = n1 from EN.out.symm] at hsl
        have hval : val (os ++ [q]) = val xs + val ys := by
          rw [val_snoc, HOL.out, HV.out, List.take_of_length_le (by have := HLX.out; omega), List.take_of_length_le (by have := HLY.out; omega)]
        have hoks : Ok (os ++ [q]) := hok.append (Ok.cons (by omega) Ok.nil)
        have hlen2 : (os ++ [q]).length ≤ 1000000000000 := by rw [List.length_append, HOL.out]; simp; omega
        have hk3 : Keep (· = w.heap.size + 1 + 1 + 1) W (wr.setCell ⟨w.heap.size + 1 + 1 + 1, k, none⟩ (.int .u32 (q : Nat))) := HK.out.setCell rfl _
        have hr3 := (hk3.block (w.heap.size + 1 + 1) (by omega) (by omega)).trans HRW.out
        have hb3 := HBW.out.trans (hk3.below (B := w.heap.size) (by have := HBW.out.size; omega) (fun k e => by omega))
        have HV2 := Lib.hid hval
        have HSL := Lib.hid hsl
        have HR3 := Lib.hid hr3
        have HB3 := Lib.hid hb3
        have hkn : k < n1 := by have := EN.out; omega
        clear hval hsl hr3 hb3 hk3 hb2 hos
        go_wp2_with fail
        refine (wrap_any _ _ _ HSL.out hoks hlen2).mono ?_
        rintro e w2 ⟨v', rfl, hn2, hb2⟩
        obtain ⟨ad2, len2, cap2, rfl, hr2⟩ := hn2.shape
        have hk2 := (hb2.block (w.heap.size + 1 + 1) (by have := HSL.out.lt rfl; omega)).trans HR3.out
        have hc := cell_of hk2 0
        have hf := free_of hk2 0
        simp only [List.getElem?_toArray, List.getElem?_cons_zero] at hc
        have HR := Lib.hid (fin_nat (bel_on HB3.out hb2) hk2 (by decide) hr2 (by omega) 0)
        clear hr2 hb2 hk2 hn2
        go_wp2
        refine bodyPost_ret (v := .agg #[.slice ad2 len2 cap2]) (by simp [results, Tryd.results30, go_sem, World.cell?_setCell_same _ _ _ hc]) rfl ⟨_, rfl, ?_⟩
        have := HR.out
        rw [HV2.out] at this
        exact this

end Go.Proofs.YtpchnejdbmoicaaDoor
