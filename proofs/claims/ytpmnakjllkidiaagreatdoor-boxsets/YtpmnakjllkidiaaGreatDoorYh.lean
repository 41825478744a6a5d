/- Contracts of nat's shiftDown, Shr. -/
import Derived.Test.YtpmnakjllkidiaaGreatDoorYg
namespace Go.Proofs.YtpmnakjllkidiaaGreatDoor
open Go.RowKit Cin
theorem shiftDown_read {t : TypeId} {w : World} {v : Value} {xs ys : List Nat} {b off len cap : Nat} (h : Sl t .u32 w v xs) (hB : Blk w b t .u32 ys)
    (hne : (∀ b' o' n' c', v = .slice (some ⟨b', o', none⟩) n' c' → b' ≠ b) ∨ ∃ n' c', v = .slice (some ⟨b, off, none⟩) n' c') (hlen : xs.length ≤ len) (hcl : len ≤ cap) (hoff : off + cap ≤ ys.length)
    (k : Nat) (os : List Nat) (wr : World) (hol : os.length = k) (hk : k ≤ xs.length) (hblk : Blk wr b t .u32 (splice ys off os)) (hkeep : Keep (· = b) w wr) :
    ∃ zs, Sl t .u32 wr v zs ∧ zs.length = xs.length ∧ ∀ j, k ≤ j → lim zs j = lim xs j := by
  rcases hne with hne | ⟨n', c', rfl⟩
  · exact ⟨xs, h.keep hkeep hne, rfl, fun _ _ => rfl⟩
  · rcases h with ⟨e, _⟩ | ⟨b1, o1, c1, cur, e, hb1, hc1, hl1, hx1⟩
    · cases e
    · cases e
      unfold Blk at hB
      rw [hB] at hb1
      simp only [Option.some.injEq, Obj.cells.injEq, and_true] at hb1
      subst hb1
      rw [ints_size] at hc1
      refine ⟨((splice ys off os).drop off).take xs.length, Sl.of_part hblk (by rw [splice_length (by omega)]; exact hc1) hl1, ?_, ?_⟩
      · rw [List.length_take, List.length_drop, splice_length (by omega)]; omega
      · intro j hj
        rcases Nat.lt_or_ge j xs.length with hjx | hjx
        · have e1 := hx1 j hjx
          rw [ints_get (by omega)] at e1
          simp only [Option.some.injEq, Value.int.injEq, true_and] at e1
          rw [lim_take hjx, lim_drop]
          unfold splice
          rw [lim_append_right (by simp; omega), lim_drop]
          have e2 : off + os.length + (off + j - (ys.take off ++ os).length) = off + j := by simp; omega
          rw [e2]; omega
        · rw [lim_ge (by rw [List.length_take]; omega), lim_ge hjx]
theorem shiftDown_step {t : TypeId} {w wr : World} {xs ys zs os : List Nat} {b off k s tm : Nat} (ho : Ok xs) (hs : s < 32) (hol : os.length = k) (hok : Ok os) (hv : val os = val xs / 2 ^ s % pw k)
    (hblk : Blk wr b t .u32 (splice ys off os)) (hkeep : Keep (· = b) w wr) (hzs : ∀ j, k ≤ j → lim zs j = lim xs j) (etm : tm = (lim zs k + lim zs (k + 1) * 4294967296) / 2 ^ s % 4294967296) (hlt : off + k < ys.length) (nq : Nat) :
    (os ++ [tm]).length = k + 1 ∧ Ok (os ++ [tm]) ∧ val (os ++ [tm]) = val xs / 2 ^ s % pw (k + 1) ∧
          Blk ((wr.drewN nq).setCell ⟨b, off + k, none⟩ (.int .u32 (tm : Nat))) b t .u32 (splice ys off (os ++ [tm])) ∧ Keep (· = b) w ((wr.drewN nq).setCell ⟨b, off + k, none⟩ (.int .u32 (tm : Nat))) := by
  have hb : Blk (wr.drewN nq) b t .u32 (splice ys off os) := hblk
  have hkk : Keep (· = b) w (wr.drewN nq) := ⟨hkeep.os, hkeep.tape, hkeep.output, hkeep.size, hkeep.block⟩
  have htm : tm < 4294967296 := by rw [etm]; exact Nat.mod_lt _ (by decide)
  have e1 := val_snoc os tm
  have e2 := mod_pw_succ (val xs / 2 ^ s) k
  have e3 := limb_shift ho k s hs
  rw [hol, hv] at e1
  rw [← hzs k (Nat.le_refl _), ← hzs (k + 1) (Nat.le_succ _), ← etm] at e3
  refine ⟨by rw [List.length_append, hol]; rfl, hok.append (Ok.cons htm Ok.nil), by rw [e1, e2, e3], ?_, hkk.setCell rfl _⟩
  have := hb.set (off + k) tm
  rw [← hol, splice_set (by omega), hol] at this
  exact this
set_option maxHeartbeats 1000000 in
theorem shiftDown_any (b off len cap : Nat) (ys : List Nat) (v : Value) (xs : List Nat) (s : Nat) (w : World) (hs : s < 32) (h : Sl 161 .u32 w v xs) (ho : Ok xs) (hB : Blk w b 161 .u32 ys)
    (hne : (∀ b' o' n' c', v = .slice (some ⟨b', o', none⟩) n' c' → b' ≠ b) ∨ ∃ n' c', v = .slice (some ⟨b, off, none⟩) n' c') (hlen : xs.length ≤ len) (hcl : len ≤ cap) (hoff : off + cap ≤ ys.length) (hn : xs.length ≤ 1000000000000) :
    Calls Tryz.prog 192 #[.slice (some ⟨b, off, none⟩) len cap, v, .int .i64 s] w fun e w' => e = .returned (.tuple #[]) ∧
      ∃ os, os.length = xs.length ∧ Ok os ∧ val os = val xs / 2 ^ s ∧ Blk w' b 161 .u32 (splice ys off os) ∧ Keep (· = b) w w' := by
  have hfin : val xs / 2 ^ s % pw xs.length = val xs / 2 ^ s := Nat.mod_eq_of_lt (Nat.lt_of_le_of_lt (Nat.div_le_self _ _) (val_lt ho))
  have HR := Lib.hid (shiftDown_read h hB hne hlen hcl hoff)
  have HF := Lib.hid hfin
  have HB := Lib.hid hB
  obtain ⟨ad, xcap, rfl, hcap, had⟩ := h.shape
  clear h had hne hB hfin
  generalize hln : xs.length = n at *
  have HLN := Lib.hid hln
  clear hln
  go_enter Tryz.func192, Tryz.ntmps192
  go_wp2_with fail
  go_loopw [6, 7, 10] (fun _ _ i wr => ∃ (k : Nat) (os : List Nat), k ≤ n ∧ i = .int .i64 k ∧ os.length = k ∧ Ok os ∧ val os = val xs / 2 ^ s % pw k ∧
      Blk wr b 161 .u32 (splice ys off os) ∧ Keep (· = b) w wr) (fun _ _ i _ => n - (intOf i).toNat)
  case atStart => exact ⟨0, [], Nat.zero_le _, rfl, rfl, Ok.nil, by rw [pw_zero, Nat.mod_one]; rfl, by rw [splice_nil]; exact HB.out, Keep.refl _ _⟩
  case round =>
    obtain ⟨k, os, hk, rfl, hol, hok, hv, hblk, hkeep⟩ := hrel
    obtain ⟨zs, hsl, hzl, hzs⟩ := HR.out k os wr hol (by have := HLN.out; omega) hblk hkeep
    have HOL := Lib.hid hol
    have HV := Lib.hid hv
    have HBK := Lib.hid hblk
    have HK := Lib.hid hkeep
    have HZS := Lib.hid hzs
    have hzl' : zs.length = n := by have := HLN.out; omega
    clear hol hv hkeep hzl
    by_cases hlt : k < n
    · have hcell2 := hblk.cell (i := off + k) (by rw [splice_length (by have := HOL.out; omega)]; omega)
      have hf := hblk.free (off + k)
      obtain ⟨bx, offx, rfl, hcell, hblt⟩ := hsl.cell (i := k) (by omega)
      have l0 : lim zs k < 4294967296 := by rw [hzs k (Nat.le_refl _)]; exact lim_lt ho _
      have l1 : lim zs (k + 1) < 4294967296 := by rw [hzs _ (by omega)]; exact lim_lt ho _
      have hor : bits BinOp.or IntKind.u64 ((lim zs k : Nat) : Int) (((lim zs (k + 1) : Nat) : Int) * 4294967296) = ((lim zs k + lim zs (k + 1) * 4294967296 : Nat) : Int) := by
        have := or_u64' (x := lim zs (k + 1)) (y := lim zs k) (s := 32) (by omega) (by omega) (by omega)
        simpa using this
      obtain ⟨t, ht⟩ : ∃ t : Nat, t = lim zs k + lim zs (k + 1) * 4294967296 := ⟨_, rfl⟩
      rw [← ht] at hor
      obtain ⟨tm, htm, etm⟩ : ∃ tm : Nat, ((t : Int) / 2 ^ s % 4294967296) = (tm : Int) ∧ tm = t / 2 ^ s % 4294967296 := ⟨t / 2 ^ s % 4294967296, by simp, rfl⟩
      rw [ht] at etm
      have ETM := Lib.hid etm
      have w1 : IntKind.i64.wrap ((k : Int) + 1) = (k : Int) + 1 := IntWalk.i64_in _ (by omega)
      clear ht etm hblk hzs
      have hkl : k < len := by omega
      go_wp2_with fail
      go_quiet ((go_at_call 195; exact limbAt_quiet hsl _ (by omega)))
      go_wp2_with fail
      have R := shiftDown_step ho hs HOL.out hok HV.out HBK.out HK.out HZS.out ETM.out (by omega) nq
      exact ⟨⟨k + 1, os ++ [tm], by omega, by go_num, R⟩, by simp [intOf]; omega⟩
    · obtain rfl : k = n := by omega
      clear hblk hzs
      go_wp2
      go_end0
      exact ⟨rfl, os, HOL.out, hok, by rw [HV.out, HF.out], HBK.out, HK.out⟩
set_option maxRecDepth 100000 in
set_option maxHeartbeats 1000000 in
theorem shr_any (v : Value) (x : Nat) (m : Int) (L : Nat) (w : World) (h : NatV 161 w v x) (hx : x < pw L) (hL : L ≤ 100000000) :
    Calls Tryz.prog 214 #[v, .int .i64 m] w fun e w' => ∃ v', e = .returned v' ∧ NatV 161 w' v' (x / 2 ^ cut m) ∧ Below w.heap.size w w' := by
  have hk := cut_le m
  generalize hkk : cut m = k at *
  have HKK := Lib.hid hkk
  clear hkk
  obtain ⟨ad, len, cap, rfl, xs, hs, ho, hnm, rfl⟩ := h.shape
  obtain ⟨i0, hi0, hz0, hz1, hz2⟩ := info_parts info_u32
  have hlx := hs.len
  have hl : len ≤ 100000000 := by have := norm_len hnm hx; omega
  obtain ⟨i, hi, ei⟩ : ∃ i : Nat, (k : Int) / 32 = (i : Int) ∧ i = k / 32 := ⟨k / 32, by omega, rfl⟩
  obtain ⟨s, hs', es⟩ : ∃ s : Nat, (k : Int) % 32 = (s : Int) ∧ s = k % 32 := ⟨k % 32, by omega, rfl⟩
  have hib : i ≤ 32768 := by omega
  have hsb : s < 32 := by omega
  have ek : 2 ^ k = pw i * 2 ^ s := by rw [ei, es]; exact pow2_split32 k
  have hlc : len ≤ cap := by obtain ⟨_, _, e, hc, _⟩ := hs.shape; cases e; omega
  clear ei es hx h hnm
  rcases Nat.lt_or_ge i len with hil | hil
  · obtain ⟨b, off, rfl, _, hblt⟩ := hs.cell (i := i) (by omega)
    obtain ⟨n, hn, en⟩ : ∃ n : Nat, (len : Int) - (i : Int) = (n : Int) ∧ n = len - i := ⟨len - i, by omega, rfl⟩
    have hnb : n ≤ 100000000 := by omega
    have hci : ¬ (cap = i) := by omega
    have hval : val (xs.drop i) / 2 ^ s = val xs / 2 ^ k := by rw [ek, ← Nat.div_div_eq_div_mul, val_div_pw ho]
    have hdl : (xs.drop i).length = n := by rw [List.length_drop]; omega
    have hsd := hs.dropS (i := i) (by omega)
    have HSD := Lib.hid hsd
    have HDL := Lib.hid hdl
    have HV := Lib.hid hval
    have EN := Lib.hid en
    have H := Lib.hid hs
    have hdec : decide (len ≤ i) = false := by rw [decide_eq_false_iff_not]; omega
    clear hsd hdl hval en ek hs hlx
    go_enter Tryz.func214, Tryz.ntmps214
    go_wp2_with fail
    refine (cutShift_any _ _).mono ?_
    rintro e w1 ⟨rfl, rfl⟩
    rw [HKK.out]
    go_wp2_with (at_make; refine wpList_make_ints _ rfl _ _ 37 rfl 161 i0 .u32 Tryz.underlying37 hi0 hz0 hz1 .i64 .i64 _ _ n n rfl rfl (by omega) (by omega) (Nat.le_refl _) (by rw [hz2]; omega) (by omega) ?_)
    go_wp2_with fail
    have hbk := Blk.new ((w.alloc (Obj.cells #[Value.slice (some ⟨b, off, none⟩) len cap] 39)).alloc (Obj.cells #[Value.slice none 0 0] 39)) 161 .u32 (List.replicate n 0)
    simp only [World.size_alloc] at hbk
    refine (shiftDown_any (w.heap.size + 1 + 1) 0 n n (List.replicate n 0) _ (xs.drop i) s _ hsb (((HSD.out.alloc _).alloc _).alloc _) (ho.drop i) hbk (.inl ?_) (by rw [HDL.out]; exact Nat.le_refl _) (Nat.le_refl _) (by rw [List.length_replicate]; omega) (by rw [HDL.out]; omega)).mono ?_
    · intro b' o' n' c' e; cases e; omega
    rintro e w1 ⟨rfl, os, r1, r2, r3, r4, r5⟩
    rw [HDL.out] at r1
    have hk1 := (r5.block (w.heap.size + 1) (by simp) (by omega)).trans (nb31 _ _ _ _)
    have hbel1 : Below w.heap.size w w1 := (bel_alloc3 w _ _ _).trans (r5.below (by simp; omega) (fun k e => by omega))
    have hspl : splice (List.replicate n 0) 0 os = os := by unfold splice; rw [List.drop_eq_nil_of_le (by simp; omega)]; simp
    rw [hspl] at r4
    have hsl := Sl.of_blk r4
    rw [r1] at hsl
    have HS := Lib.hid hsl
    have HK1 := Lib.hid hk1
    have HB1 := Lib.hid hbel1
    have HR1 := Lib.hid r1
    have HR3 := Lib.hid r3
    clear hspl hsl hk1 hbel1 r1 r3 r4 r5 hbk
    go_wp2_with fail
    refine (wrap_any _ _ _ HS.out r2 (by rw [HR1.out]; omega)).mono ?_
    rintro e w2 ⟨v', rfl, hn2, hb2⟩
    obtain ⟨ad2, len2, cap2, rfl, hr2⟩ := hn2.shape
    have hk2 := (hb2.block (w.heap.size + 1) (by have := HB1.out.size; have := HS.out.lt rfl; omega)).trans HK1.out
    have hc := cell_of hk2 0
    have hf := free_of hk2 0
    simp only [List.getElem?_toArray, List.getElem?_cons_zero] at hc
    have HR := Lib.hid (fin_nat (bel_on HB1.out hb2) hk2 (by decide) hr2 (by omega) 0)
    clear hr2 hb2 hk2 hn2
    go_wp2
    refine bodyPost_ret (v := .agg #[.slice ad2 len2 cap2]) (by simp [results, Tryz.results214, go_sem, World.cell?_setCell_same _ _ _ hc]) rfl ⟨_, rfl, ?_⟩
    have := HR.out
    rw [HR3.out, HV.out] at this
    exact this
  · have hz : val xs / 2 ^ k = 0 := by
      apply Nat.div_eq_of_lt
      have h1 := val_lt ho
      have h2 := pw_le (a := xs.length) (b := i) (by omega)
      have h3 : pw i * 1 ≤ pw i * 2 ^ s := Nat.mul_le_mul_left _ (pow2_pos s)
      omega
    rw [hz]
    have hdec : decide (len ≤ i) = true := by rw [decide_eq_true_iff]; omega
    clear hz ek hs hlx
    go_enter Tryz.func214, Tryz.ntmps214
    go_wp2_with fail
    refine (cutShift_any _ _).mono ?_
    rintro e w1 ⟨rfl, rfl⟩
    rw [HKK.out]
    go_wp2_with fail
    refine bodyPost_ret (v := .agg #[.slice none 0 0]) (by simp [results, Tryz.results214, go_sem]) rfl ⟨_, rfl, NatV.zero _ _, bel_alloc2 _ _ _⟩
end Go.Proofs.YtpmnakjllkidiaaGreatDoor

namespace Go.Proofs.YtpmnakjllkidiaaGreatDoor
open Go.RowKit Cin
def cmpI (a b : Nat) : Int := if a < b then -1 else if b < a then 1 else 0
theorem order_quiet2 {w : World} {c n : Nat} (b : Bool) :
    Calls Tryz.prog 143 #[.bool b] (w.drewN (c + n)) fun e w'' => e = .returned (.int .i64 (if b then -1 else 1)) ∧ ∃ m, w'' = w.drewN (c + m) :=
  (order_any b (w.drewN (c + n))).mono fun _ _ hh => ⟨hh.1, n, hh.2.symm⟩
set_option maxRecDepth 100000 in
set_option maxHeartbeats 1000000 in
theorem cmp_any (v u : Value) (x y : Nat) (L : Nat) (w : World) (h : NatV 161 w v x) (h' : NatV 161 w u y) (hx : x < pw L) (hy : y < pw L) (hL : L ≤ 100000000) :
    Calls Tryz.prog 108 #[v, u] w fun e w' => e = .returned (.int .i64 (cmpI x y)) ∧ Below w.heap.size w w' := by
  obtain ⟨ad, len, cap, rfl, xs, hs, ho, hnm, rfl⟩ := h.shape
  obtain ⟨ad', len', cap', rfl, ys, hs', ho', hnm', rfl⟩ := h'.shape
  have hlx := hs.len
  have hly := hs'.len
  have hl : len ≤ 100000000 := by have := norm_len hnm hx; omega
  have hl' : len' ≤ 100000000 := by have := norm_len hnm' hy; omega
  clear hx hy h h'
  by_cases hll : len = len'
  · subst hll
    have hcmp : ((len : Int) != (len : Int)) = false := by simp
    have hlt : ∀ k, k < len → (∀ j, k < j → j < len → lim xs j = lim ys j) → lim xs k < lim ys k → cmpI (val xs) (val ys) = -1 := fun k hk hj hlt => by
      have := val_lt_of_top ho (by omega) (i := k) (by omega) (fun j h1 h2 => hj j h1 (by omega)) hlt
      unfold cmpI; rw [if_pos this]
    have hgt : ∀ k, k < len → (∀ j, k < j → j < len → lim xs j = lim ys j) → lim ys k < lim xs k → cmpI (val xs) (val ys) = 1 := fun k hk hj hlt => by
      have := val_lt_of_top ho' (by omega) (i := k) (by omega) (fun j h1 h2 => (hj j h1 (by omega)).symm) hlt
      unfold cmpI; rw [if_neg (by omega), if_pos this]
    have heq : (∀ j, j < len → lim xs j = lim ys j) → cmpI (val xs) (val ys) = 0 := fun hj => by
      have : xs = ys := ext_lim (by omega) (fun i hi => hj i (by omega))
      rw [this]; unfold cmpI; rw [if_neg (by omega), if_neg (by omega)]
    have HLT := Lib.hid hlt
    have HGT := Lib.hid hgt
    have HEQ := Lib.hid heq
    have H := Lib.hid hs
    have H' := Lib.hid hs'
    have HLX := Lib.hid hlx
    have HLY := Lib.hid hly
    clear hlt hgt heq hs hs' hlx hly hnm hnm'
    go_enter Tryz.func108, Tryz.ntmps108
    go_wp2_with fail
    have hbW := bel_alloc2 w (Obj.cells #[Value.slice ad len cap] 39) (Obj.cells #[Value.slice ad' len cap'] 39)
    have hca := cell_of (new_block2 w (Obj.cells #[Value.slice ad len cap] 39) (Obj.cells #[Value.slice ad' len cap'] 39)) 0
    have hcb := cell_of (nb21 w (Obj.cells #[Value.slice ad len cap] 39) (Obj.cells #[Value.slice ad' len cap'] 39)) 0
    simp only [List.getElem?_toArray, List.getElem?_cons_zero] at hca hcb
    have hsa := (H.out.alloc (Obj.cells #[Value.slice ad len cap] 39)).alloc (Obj.cells #[Value.slice ad' len cap'] 39)
    have hsb := (H'.out.alloc (Obj.cells #[Value.slice ad len cap] 39)).alloc (Obj.cells #[Value.slice ad' len cap'] 39)
    generalize (w.alloc (Obj.cells #[Value.slice ad len cap] 39)).alloc (Obj.cells #[Value.slice ad' len cap'] 39) = W at *
    have HBW := Lib.hid hbW
    have HSA := Lib.hid hsa
    have HSB := Lib.hid hsb
    clear hbW hsa hsb
    go_loopw [5] (fun i wr => ∃ nq, wr = W.drewN nq ∧ ((i = .int .i64 (-1) ∧ ∀ j, j < len → lim xs j = lim ys j) ∨ ∃ k : Nat, k < len ∧ i = .int .i64 k ∧ ∀ j, k < j → j < len → lim xs j = lim ys j)) (fun i _ => (intOf i + 1).toNat)
    case atStart =>
      refine ⟨0, rfl, ?_⟩
      rcases Nat.eq_zero_or_pos len with h0 | h0
      · subst h0; exact .inl ⟨rfl, fun j hj => absurd hj (Nat.not_lt_zero _)⟩
      · exact .inr ⟨len - 1, by omega, congrArg (Value.int IntKind.i64) (by omega), fun j h1 h2 => by omega⟩
    case round =>
      obtain ⟨nq, rfl, h | ⟨k, hk, rfl, hj⟩⟩ := hrel
      · obtain ⟨rfl, hj⟩ := h
        have HJ := Lib.hid hj
        clear hj
        go_wp2
        go_ret
        exact ⟨ret_int (HEQ.out HJ.out).symm, bel_drewN HBW.out _⟩
      · have HJ := Lib.hid hj
        clear hj
        obtain ⟨b, off, rfl, hcell, hblt⟩ := HSA.out.cell (i := k) (by have := HLX.out; omega)
        obtain ⟨b', off', rfl, hcell', hblt'⟩ := HSB.out.cell (i := k) (by have := HLY.out; omega)
        by_cases hne : lim xs k = lim ys k
        · have hnb : (((lim xs k : Nat) : Int) != ((lim ys k : Nat) : Int)) = false := by simp [hne]
          have HNE := Lib.hid hne
          clear hne
          go_wp2_with fail
          go_quiet (fail)
          go_wp2_with fail
          refine ⟨⟨_, rfl, ?_⟩, by simp only [intOf]; omega⟩
          have hstep : ∀ j, k ≤ j → j < len → lim xs j = lim ys j := fun j h1 h2 => by
            rcases Nat.eq_or_lt_of_le h1 with rfl | h1
            · exact HNE.out
            · exact HJ.out j h1 h2
          rcases Nat.eq_zero_or_pos k with h0 | h0
          · subst h0; exact .inl ⟨rfl, fun j hj => hstep j (Nat.zero_le _) hj⟩
          · exact .inr ⟨k - 1, by omega, congrArg (Value.int IntKind.i64) (by omega), fun j h1 h2 => hstep j (by omega) h2⟩
        · have hnb : (((lim xs k : Nat) : Int) != ((lim ys k : Nat) : Int)) = true := by simp; omega
          rcases Nat.lt_or_gt_of_ne hne with hlt | hlt
          · have hdec : decide (lim xs k < lim ys k) = true := by simpa using hlt
            go_wp2_with fail
            go_quiet (fail)
            go_wp2_with fail
            go_quiet ((go_at_call 143; exact order_quiet2 _))
            go_wp2_with fail
            go_ret
            exact ⟨ret_int (HLT.out k hk HJ.out hlt).symm, by first | exact bel_drewN HBW.out _ | exact bel_drewN (bel_drewN (bel_drewN HBW.out _) _) _⟩
          · have hdec : decide (lim xs k < lim ys k) = false := by simp; omega
            go_wp2_with fail
            go_quiet (fail)
            go_wp2_with fail
            go_quiet ((go_at_call 143; exact order_quiet2 _))
            go_wp2_with fail
            go_ret
            exact ⟨ret_int (HGT.out k hk HJ.out hlt).symm, by first | exact bel_drewN HBW.out _ | exact bel_drewN (bel_drewN (bel_drewN HBW.out _) _) _⟩
  · have hcmp : ((len : Int) != (len' : Int)) = true := by simp; omega
    rcases Nat.lt_or_gt_of_ne hll with hlt | hlt
    · have he : cmpI (val xs) (val ys) = -1 := by
        have := val_lt_of_len ho hnm' (by omega)
        unfold cmpI; rw [if_pos this]
      have HE := Lib.hid he
      have hdec : decide (len < len') = true := by simpa using hlt
      clear he hs hs' hlx hly hnm hnm' hll
      go_enter Tryz.func108, Tryz.ntmps108
      go_wp2_with (go_at_call 143; refine (order_any _ _).mono ?_; rintro e w' ⟨rfl, rfl⟩)
      go_ret
      exact ⟨ret_int HE.out.symm, bel_alloc2 _ _ _⟩
    · have he : cmpI (val xs) (val ys) = 1 := by
        have := val_lt_of_len ho' hnm (by omega)
        unfold cmpI; rw [if_neg (by omega), if_pos this]
      have HE := Lib.hid he
      have hdec : decide (len < len') = false := by simp; omega
      clear he hs hs' hlx hly hnm hnm' hll
      go_enter Tryz.func108, Tryz.ntmps108
      go_wp2_with (go_at_call 143; refine (order_any _ _).mono ?_; rintro e w' ⟨rfl, rfl⟩)
      go_ret
      exact ⟨ret_int HE.out.symm, bel_alloc2 _ _ _⟩
end Go.Proofs.YtpmnakjllkidiaaGreatDoor

namespace Go.Proofs.YtpmnakjllkidiaaGreatDoor
open Go.RowKit Cin
theorem step_add {t0 : TypeId} {w wr : World} {xs ys os ys0 : List Nat} {b off k q t td tm : Nat} (hol : os.length = k) (hok : Ok os) (hv : val os + pw k * q = val (xs.take k) + val (ys.take k))
    (hblk : Blk wr b t0 .u32 (splice ys0 off os)) (hkeep : Keep (· = b) w wr) (et : t = q + (lim xs k + lim ys k)) (etd : td = t / 4294967296) (etm : tm = t % 4294967296) (hlt : off + k < ys0.length)
    (hq : q ≤ 1 := by omega) (hx : lim xs k < 4294967296 := by assumption) (hy : lim ys k < 4294967296 := by assumption) :
    td ≤ 1 ∧ (os ++ [tm]).length = k + 1 ∧ Ok (os ++ [tm]) ∧ val (os ++ [tm]) + pw (k + 1) * td = val (xs.take (k + 1)) + val (ys.take (k + 1)) ∧
      Blk (wr.setCell ⟨b, off + k, none⟩ (.int .u32 (tm : Nat))) b t0 .u32 (splice ys0 off (os ++ [tm])) ∧ Keep (· = b) w (wr.setCell ⟨b, off + k, none⟩ (.int .u32 (tm : Nat))) := by
  have htm : tm < 4294967296 := by omega
  refine ⟨by omega, by rw [List.length_append, hol]; rfl, hok.append (Ok.cons htm Ok.nil), ?_, ?_, hkeep.setCell rfl _⟩
  · rw [val_snoc, hol, val_take_step xs, val_take_step ys, pw_succ]
    have e1 : t = tm + 4294967296 * td := by omega
    have e2 : pw k * t = pw k * tm + 4294967296 * pw k * td := by rw [e1, Nat.mul_add, Nat.mul_comm 4294967296 (pw k), Nat.mul_assoc]
    have e3 : pw k * t = pw k * q + (pw k * lim xs k + pw k * lim ys k) := by rw [et, Nat.mul_add, Nat.mul_add]
    omega
  · have := hblk.set (off + k) tm
    rw [← hol, splice_set (by omega), hol] at this
    exact this
set_option maxRecDepth 100000 in
set_option maxHeartbeats 1000000 in
theorem add_any (v u : Value) (x y : Nat) (L : Nat) (w : World) (h : NatV 161 w v x) (h' : NatV 161 w u y) (hx : x < pw L) (hy : y < pw L) (hL : L ≤ 100000000) :
    Calls Tryz.prog 185 #[v, u] w fun e w' => ∃ v', e = .returned v' ∧ NatV 161 w' v' (x + y) ∧ Below w.heap.size w w' := by
  obtain ⟨ad, len, cap, rfl, xs, hs, ho, hnm, rfl⟩ := h.shape
  obtain ⟨ad', len', cap', rfl, ys, hs', ho', hnm', rfl⟩ := h'.shape
  obtain ⟨i0, hi0, hz0, hz1, hz2⟩ := info_parts info_u32
  have hlx := hs.len
  have hly := hs'.len
  have hl : len ≤ 100000000 := by have := norm_len hnm hx; omega
  have hl' : len' ≤ 100000000 := by have := norm_len hnm' hy; omega
  have H := Lib.hid hs
  have H' := Lib.hid hs'
  have HLX := Lib.hid hlx
  have HLY := Lib.hid hly
  have HD := Lib.hid (show ∀ b' o' n' c', Value.slice ad len cap = .slice (some ⟨b', o', none⟩) n' c' → ¬ (b' = w.heap.size + 1 + 1 + 1) from fun b' o' n' c' e => by have := hs.lt e; omega)
  have HD' := Lib.hid (show ∀ b' o' n' c', Value.slice ad' len' cap' = .slice (some ⟨b', o', none⟩) n' c' → ¬ (b' = w.heap.size + 1 + 1 + 1) from fun b' o' n' c' e => by have := hs'.lt e; omega)
  clear hx hy h h' hs hs' hlx hly hnm hnm'
  by_cases hll : len < len'
  · have hdec : decide (len < len') = true := by rw [decide_eq_true_iff]; exact hll
    have hln : len' ≤ 100000000 := by omega
    obtain ⟨n1, hn1, en1⟩ : ∃ n1 : Nat, (len' : Int) + 1 = (n1 : Int) ∧ n1 = len' + 1 := ⟨len' + 1, by omega, rfl⟩
    have EN := Lib.hid en1
    have hnb : n1 ≤ 100000001 := by omega
    have hle : len ≤ len' := by omega
    clear en1 hll
    go_enter Tryz.func185, Tryz.ntmps185
    go_wp2_with fail
    go_quiet (fail)
    go_wp2_with (at_make; refine wpList_make_ints _ rfl _ _ 37 rfl 161 i0 .u32 Tryz.underlying37 hi0 hz0 hz1 .i64 .i64 _ _ n1 n1 rfl rfl (by omega) (by omega) (Nat.le_refl _) (by rw [hz2]; omega) (by omega) ?_)
    have hbW : Below w.heap.size w (((((w.alloc (Obj.cells #[Value.slice ad len cap] 39)).alloc (Obj.cells #[Value.slice ad' len' cap'] 39)).alloc (Obj.cells #[Value.slice none 0 0] 39)).drewN nq).alloc (Obj.cells (ints IntKind.u32 (List.replicate n1 0)) 161)) :=
      (bel_drewN (bel_alloc3 _ _ _ _) _).alloc (by simp; omega) _
    have hrW : (((((w.alloc (Obj.cells #[Value.slice ad len cap] 39)).alloc (Obj.cells #[Value.slice ad' len' cap'] 39)).alloc (Obj.cells #[Value.slice none 0 0] 39)).drewN nq).alloc (Obj.cells (ints IntKind.u32 (List.replicate n1 0)) 161)).heap[w.heap.size + 1 + 1]? = some (.cells #[.slice none 0 0] 39 (0, 0)) := nb42 w _ _ _ _
    have hkW : Blk (((((w.alloc (Obj.cells #[Value.slice ad len cap] 39)).alloc (Obj.cells #[Value.slice ad' len' cap'] 39)).alloc (Obj.cells #[Value.slice none 0 0] 39)).drewN nq).alloc (Obj.cells (ints IntKind.u32 (List.replicate n1 0)) 161)) (w.heap.size + 1 + 1 + 1) 161 .u32 (List.replicate n1 0) := nb43 w _ _ _ _
    generalize (((((w.alloc (Obj.cells #[Value.slice ad len cap] 39)).alloc (Obj.cells #[Value.slice ad' len' cap'] 39)).alloc (Obj.cells #[Value.slice none 0 0] 39)).drewN nq).alloc (Obj.cells (ints IntKind.u32 (List.replicate n1 0)) 161)) = W at *
    have hszW := hkW.lt
    have HL := Lib.hid (H'.out.below hbW)
    have HS := Lib.hid (H.out.below hbW)
    have HBW := Lib.hid hbW
    have HRW := Lib.hid hrW
    have HKW := Lib.hid hkW
    clear hbW hrW hkW H H'
    go_loopw [8, 9, 10, 28] (fun c _ _ i wr => ∃ (k q : Nat) (os : List Nat), k ≤ len' ∧ i = .int .i64 k ∧ c = .int .u64 q ∧ q ≤ 1 ∧ os.length = k ∧ Ok os ∧ val os + pw k * q = val (ys.take k) + val (xs.take k) ∧
        Blk wr (w.heap.size + 1 + 1 + 1) 161 .u32 (splice (List.replicate n1 0) 0 os) ∧ Keep (· = w.heap.size + 1 + 1 + 1) W wr) (fun _ _ _ i _ => len' - (intOf i).toNat)
    case atStart => exact ⟨0, 0, [], Nat.zero_le _, rfl, rfl, by omega, rfl, Ok.nil, rfl, by rw [splice_nil]; exact HKW.out, Keep.refl _ _⟩
    case round =>
      obtain ⟨k, q, os, hk, rfl, rfl, hq, hol, hok, hv, hblk, hkeep⟩ := hrel
      have HOL := Lib.hid hol
      have HV := Lib.hid hv
      have hcell2 := hblk.cell (i := k) (by rw [splice_length (by simp; have := EN.out; omega)]; simp; have := EN.out; omega)
      have hf := hblk.free k
      have HBK := Lib.hid hblk
      have HK := Lib.hid hkeep
      have HSr := Lib.hid (HS.out.keep HK.out (HD.out))
      have HLr := Lib.hid (HL.out.keep HK.out (HD'.out))
      clear hol hv hblk hkeep
      by_cases hlt : k < len'
      · obtain ⟨bx, offx, rfl, hcell, hblt⟩ := HLr.out.cell (i := k) (by have := HLY.out; omega)
        have hlim : lim ys k < 4294967296 := lim_lt ho' _
        have hlim2 : lim xs k < 4294967296 := lim_lt ho _
        obtain ⟨t, ht, et⟩ : ∃ t : Nat, (q : Int) + (((lim ys k : Nat) : Int) + ((lim xs k : Nat) : Int)) = (t : Int) ∧ t = q + (lim ys k + lim xs k) := ⟨_, by omega, rfl⟩
        have htb : t ≤ 8589934591 := by omega
        obtain ⟨td, htd, etd⟩ : ∃ td : Nat, ((t : Int) / 4294967296) = (td : Int) ∧ td = t / 4294967296 := ⟨t / 4294967296, by omega, rfl⟩
        obtain ⟨tm, htm, etm⟩ : ∃ tm : Nat, ((t : Int) % 4294967296) = (tm : Int) ∧ tm = t % 4294967296 := ⟨t % 4294967296, by omega, rfl⟩
        have R := step_add (xs := ys) (ys := xs) (off := 0) (ys0 := List.replicate n1 0) HOL.out hok HV.out HBK.out HK.out et etd etm (by simp; have := EN.out; omega)
        rw [Nat.zero_add] at R
        have HR := Lib.hid R
        have hkn : k < n1 := by omega
        clear R et etd etm
        go_wp2_with (go_at_call 195; refine (limbAt_any _ xs _ _ HSr.out (by omega)).mono ?_; rintro e w' ⟨rfl, rfl⟩; rw [Int.toNat_natCast])
        obtain ⟨r1, r2, r3, r4, r5, r6⟩ := HR.out
        exact ⟨⟨k + 1, td, os ++ [tm], by omega, by go_num, rfl, r1, r2, r3, r4, r5, r6⟩, by simp [intOf]; omega⟩
      · obtain rfl : k = len' := by omega
        have hos : splice (List.replicate n1 0) 0 (os ++ [q]) = os ++ [q] := splice_zeros_all (by rw [List.length_append, HOL.out, EN.out]; rfl)
        have hb2 : Blk (wr.setCell ⟨w.heap.size + 1 + 1 + 1, k, none⟩ (.int .u32 (q : Nat))) (w.heap.size + 1 + 1 + 1) 161 .u32 (os ++ [q]) := by
          have := HBK.out.set (0 + os.length) q
          rw [splice_set (by simp; have := EN.out; have := HOL.out; omega), hos, HOL.out, Nat.zero_add] at this
          exact this
        have hsl := Sl.of_blk hb2
        rw [List.length_append, HOL.out, show k + [q].length = n1 from EN.out.symm] at hsl
        have hval : val (os ++ [q]) = val xs + val ys := by
          rw [val_snoc, HOL.out, HV.out, List.take_of_length_le (by have := HLY.out; omega), List.take_of_length_le (by have := HLX.out; omega), Nat.add_comm]
        have hoks : Ok (os ++ [q]) := hok.append (Ok.cons (by omega) Ok.nil)
        have hlen2 : (os ++ [q]).length ≤ 1000000000000 := by rw [List.length_append, HOL.out]; simp; omega
        have hk3 : Keep (· = w.heap.size + 1 + 1 + 1) W (wr.setCell ⟨w.heap.size + 1 + 1 + 1, k, none⟩ (.int .u32 (q : Nat))) := HK.out.setCell rfl _
        have hr3 := (hk3.block (w.heap.size + 1 + 1) (by omega) (by omega)).trans HRW.out
        have hb3 := HBW.out.trans (hk3.below (B := w.heap.size) (by have := HBW.out.size; omega) (fun k e => by omega))
        have HV2 := Lib.hid hval
        have HSL := Lib.hid hsl
        have HR3 := Lib.hid hr3
        have HB3 := Lib.hid hb3
        have hkn : k < n1 := by have := EN.out; omega
        clear hval hsl hr3 hb3 hk3 hb2 hos
        go_wp2_with fail
        refine (wrap_any _ _ _ HSL.out hoks hlen2).mono ?_
        rintro e w2 ⟨v', rfl, hn2, hb2⟩
        obtain ⟨ad2, len2, cap2, rfl, hr2⟩ := hn2.shape
        have hk2 := (hb2.block (w.heap.size + 1 + 1) (by have := HSL.out.lt rfl; omega)).trans HR3.out
        have hc := cell_of hk2 0
        have hf := free_of hk2 0
        simp only [List.getElem?_toArray, List.getElem?_cons_zero] at hc
        have HR := Lib.hid (fin_nat (bel_on HB3.out hb2) hk2 (by decide) hr2 (by omega) 0)
        clear hr2 hb2 hk2 hn2
        go_wp2
        refine bodyPost_ret (v := .agg #[.slice ad2 len2 cap2]) (by simp [results, Tryz.results185, go_sem, World.cell?_setCell_same _ _ _ hc]) rfl ⟨_, rfl, ?_⟩
        have := HR.out
        rw [HV2.out] at this
        exact this
  · have hdec : decide (len < len') = false := by rw [decide_eq_false_iff_not]; exact hll
    have hln : len ≤ 100000000 := by omega
    obtain ⟨n1, hn1, en1⟩ : ∃ n1 : Nat, (len : Int) + 1 = (n1 : Int) ∧ n1 = len + 1 := ⟨len + 1, by omega, rfl⟩
    have EN := Lib.hid en1
    have hnb : n1 ≤ 100000001 := by omega
    have hle : len' ≤ len := by omega
    clear en1 hll
    go_enter Tryz.func185, Tryz.ntmps185
    go_wp2_with fail
    go_quiet (fail)
    go_wp2_with (at_make; refine wpList_make_ints _ rfl _ _ 37 rfl 161 i0 .u32 Tryz.underlying37 hi0 hz0 hz1 .i64 .i64 _ _ n1 n1 rfl rfl (by omega) (by omega) (Nat.le_refl _) (by rw [hz2]; omega) (by omega) ?_)
    have hbW : Below w.heap.size w (((((w.alloc (Obj.cells #[Value.slice ad len cap] 39)).alloc (Obj.cells #[Value.slice ad' len' cap'] 39)).alloc (Obj.cells #[Value.slice none 0 0] 39)).drewN nq).alloc (Obj.cells (ints IntKind.u32 (List.replicate n1 0)) 161)) :=
      (bel_drewN (bel_alloc3 _ _ _ _) _).alloc (by simp; omega) _
    have hrW : (((((w.alloc (Obj.cells #[Value.slice ad len cap] 39)).alloc (Obj.cells #[Value.slice ad' len' cap'] 39)).alloc (Obj.cells #[Value.slice none 0 0] 39)).drewN nq).alloc (Obj.cells (ints IntKind.u32 (List.replicate n1 0)) 161)).heap[w.heap.size + 1 + 1]? = some (.cells #[.slice none 0 0] 39 (0, 0)) := nb42 w _ _ _ _
    have hkW : Blk (((((w.alloc (Obj.cells #[Value.slice ad len cap] 39)).alloc (Obj.cells #[Value.slice ad' len' cap'] 39)).alloc (Obj.cells #[Value.slice none 0 0] 39)).drewN nq).alloc (Obj.cells (ints IntKind.u32 (List.replicate n1 0)) 161)) (w.heap.size + 1 + 1 + 1) 161 .u32 (List.replicate n1 0) := nb43 w _ _ _ _
    generalize (((((w.alloc (Obj.cells #[Value.slice ad len cap] 39)).alloc (Obj.cells #[Value.slice ad' len' cap'] 39)).alloc (Obj.cells #[Value.slice none 0 0] 39)).drewN nq).alloc (Obj.cells (ints IntKind.u32 (List.replicate n1 0)) 161)) = W at *
    have hszW := hkW.lt
    have HL := Lib.hid (H.out.below hbW)
    have HS := Lib.hid (H'.out.below hbW)
    have HBW := Lib.hid hbW
    have HRW := Lib.hid hrW
    have HKW := Lib.hid hkW
    clear hbW hrW hkW H H'
    go_loopw [8, 9, 10, 28] (fun c _ _ i wr => ∃ (k q : Nat) (os : List Nat), k ≤ len ∧ i = .int .i64 k ∧ c = .int .u64 q ∧ q ≤ 1 ∧ os.length = k ∧ Ok os ∧ val os + pw k * q = val (xs.take k) + val (ys.take k) ∧
        Blk wr (w.heap.size + 1 + 1 + 1) 161 .u32 (splice (List.replicate n1 0) 0 os) ∧ Keep (· = w.heap.size + 1 + 1 + 1) W wr) (fun _ _ _ i _ => len - (intOf i).toNat)
    case atStart => exact ⟨0, 0, [], Nat.zero_le _, rfl, rfl, by omega, rfl, Ok.nil, rfl, by rw [splice_nil]; exact HKW.out, Keep.refl _ _⟩
    case round =>
      obtain ⟨k, q, os, hk, rfl, rfl, hq, hol, hok, hv, hblk, hkeep⟩ := hrel
      have HOL := Lib.hid hol
      have HV := Lib.hid hv
      have hcell2 := hblk.cell (i := k) (by rw [splice_length (by simp; have := EN.out; omega)]; simp; have := EN.out; omega)
      have hf := hblk.free k
      have HBK := Lib.hid hblk
      have HK := Lib.hid hkeep
      have HSr := Lib.hid (HS.out.keep HK.out (HD'.out))
      have HLr := Lib.hid (HL.out.keep HK.out (HD.out))
      clear hol hv hblk hkeep
      by_cases hlt : k < len
      · obtain ⟨bx, offx, rfl, hcell, hblt⟩ := HLr.out.cell (i := k) (by have := HLX.out; omega)
        have hlim : lim xs k < 4294967296 := lim_lt ho _
        have hlim2 : lim ys k < 4294967296 := lim_lt ho' _
        obtain ⟨t, ht, et⟩ : ∃ t : Nat, (q : Int) + (((lim xs k : Nat) : Int) + ((lim ys k : Nat) : Int)) = (t : Int) ∧ t = q + (lim xs k + lim ys k) := ⟨_, by omega, rfl⟩
        have htb : t ≤ 8589934591 := by omega
        obtain ⟨td, htd, etd⟩ : ∃ td : Nat, ((t : Int) / 4294967296) = (td : Int) ∧ td = t / 4294967296 := ⟨t / 4294967296, by omega, rfl⟩
        obtain ⟨tm, htm, etm⟩ : ∃ tm : Nat, ((t : Int) % 4294967296) = (tm : Int) ∧ tm = t % 4294967296 := ⟨t % 4294967296, by omega, rfl⟩
        have R := step_add (xs := xs) (ys := ys) (off := 0) (ys0 := List.replicate n1 0) HOL.out hok HV.out HBK.out HK.out et etd etm (by simp; have := EN.out; omega)
        rw [Nat.zero_add] at R
        have HR := Lib.hid R
        have hkn : k < n1 := by omega
        clear R et etd etm
        go_wp2_with (go_at_call 195; refine (limbAt_any _ ys _ _ HSr.out (by omega)).mono ?_; rintro e w' ⟨rfl, rfl⟩; rw [Int.toNat_natCast])
        obtain ⟨r1, r2, r3, r4, r5, r6⟩ := HR.out
        exact ⟨⟨k + 1, td, os ++ [tm], by omega, by go_num, rfl, r1, r2, r3, r4, r5, r6⟩, by simp [intOf]; omega⟩
      · obtain rfl : k = len := by omega
        have hos : splice (List.replicate n1 0) 0 (os ++ [q]) = os ++ [q] := splice_zeros_all (by rw [List.length_append, HOL.out, EN.out]; rfl)
        have hb2 : Blk (wr.setCell ⟨w.heap.size + 1 + 1 + 1, k, none⟩ (.int .u32 (q : Nat))) (w.heap.size + 1 + 1 + 1) 161 .u32 (os ++ [q]) := by
          have := HBK.out.set (0 + os.length) q
          rw [splice_set (by simp; have := EN.out; have := HOL.out; omega), hos, HOL.out, Nat.zero_add] at this
          exact this
        have hsl := Sl.of_blk hb2
        rw [List.length_append, HOL.out, show k + [q].length = n1 from EN.out.symm] at hsl
        have hval : val (os ++ [q]) = val xs + val ys := by
          rw [val_snoc, HOL.out, HV.out, List.take_of_length_le (by have := HLX.out; omega), List.take_of_length_le (by have := HLY.out; omega)]
        have hoks : Ok (os ++ [q]) := hok.append (Ok.cons (by omega) Ok.nil)
        have hlen2 : (os ++ [q]).length ≤ 1000000000000 := by rw [List.length_append, HOL.out]; simp; omega
        have hk3 : Keep (· = w.heap.size + 1 + 1 + 1) W (wr.setCell ⟨w.heap.size + 1 + 1 + 1, k, none⟩ (.int .u32 (q : Nat))) := HK.out.setCell rfl _
        have hr3 := (hk3.block (w.heap.size + 1 + 1) (by omega) (by omega)).trans HRW.out
        have hb3 := HBW.out.trans (hk3.below (B := w.heap.size) (by have := HBW.out.size; omega) (fun k e => by omega))
        have HV2 := Lib.hid hval
        have HSL := Lib.hid hsl
        have HR3 := Lib.hid hr3
        have HB3 := Lib.hid hb3
        have hkn : k < n1 := by have := EN.out; omega
        clear hval hsl hr3 hb3 hk3 hb2 hos
        go_wp2_with fail
        refine (wrap_any _ _ _ HSL.out hoks hlen2).mono ?_
        rintro e w2 ⟨v', rfl, hn2, hb2⟩
        obtain ⟨ad2, len2, cap2, rfl, hr2⟩ := hn2.shape
        have hk2 := (hb2.block (w.heap.size + 1 + 1) (by have := HSL.out.lt rfl; omega)).trans HR3.out
        have hc := cell_of hk2 0
        have hf := free_of hk2 0
        simp only [List.getElem?_toArray, List.getElem?_cons_zero] at hc
        have HR := Lib.hid (fin_nat (bel_on HB3.out hb2) hk2 (by decide) hr2 (by omega) 0)
        clear hr2 hb2 hk2 hn2
        go_wp2
        refine bodyPost_ret (v := .agg #[.slice ad2 len2 cap2]) (by simp [results, Tryz.results185, go_sem, World.cell?_setCell_same _ _ _ hc]) rfl ⟨_, rfl, ?_⟩
        have := HR.out
        rw [HV2.out] at this
        exact this
end Go.Proofs.YtpmnakjllkidiaaGreatDoor

namespace Go.Proofs.YtpmnakjllkidiaaGreatDoor
open Go.RowKit Cin
theorem step_mul {t0 : TypeId} {w wr : World} {ys ps ps' : List Nat} {b i k q x t td tm : Nat} (hlp : ps'.length = ps.length) (hok : Ok ps') (hv : val ps' + pw (i + k) * q = val ps + pw i * (x * val (ys.take k)))
    (hun : ∀ j, i + k ≤ j → lim ps' j = lim ps j) (hblk : Blk wr b t0 .u32 ps') (hkeep : Keep (· = b) w wr)
    (et : t = q + (x * lim ys k + lim ps' (i + k))) (etd : td = t / 4294967296) (etm : tm = t % 4294967296) (hlt : i + k < ps.length)
    (hq : q < 4294967296) (hx : x < 4294967296) (hy : lim ys k < 4294967296) (hp : lim ps' (i + k) < 4294967296) :
    td < 4294967296 ∧ (ps'.set (i + k) tm).length = ps.length ∧ Ok (ps'.set (i + k) tm) ∧ val (ps'.set (i + k) tm) + pw (i + (k + 1)) * td = val ps + pw i * (x * val (ys.take (k + 1))) ∧
      (∀ j, i + (k + 1) ≤ j → lim (ps'.set (i + k) tm) j = lim ps j) ∧
      Blk (wr.setCell ⟨b, i + k, none⟩ (.int .u32 (tm : Nat))) b t0 .u32 (ps'.set (i + k) tm) ∧ Keep (· = b) w (wr.setCell ⟨b, i + k, none⟩ (.int .u32 (tm : Nat))) := by
  have hxy : x * lim ys k ≤ 4294967295 * 4294967295 := Nat.mul_le_mul (by omega) (by omega)
  have htm : tm < 4294967296 := by omega
  refine ⟨by omega, by rw [List.length_set, hlp], hok.set _ _ htm, ?_, ?_, hblk.set _ _, hkeep.setCell rfl _⟩
  · have e0 := val_set (xs := ps') (i := i + k) (by omega) tm
    rw [val_take_step ys, ← Nat.add_assoc, pw_succ]
    have e1 : t = tm + 4294967296 * td := by omega
    have e2 : pw (i + k) * t = pw (i + k) * tm + 4294967296 * pw (i + k) * td := by rw [e1, Nat.mul_add, Nat.mul_comm 4294967296 (pw (i + k)), Nat.mul_assoc]
    have e3 : pw (i + k) * t = pw (i + k) * q + (pw (i + k) * (x * lim ys k) + pw (i + k) * lim ps' (i + k)) := by rw [et, Nat.mul_add, Nat.mul_add]
    have e4 : pw i * (x * (val (ys.take k) + pw k * lim ys k)) = pw i * (x * val (ys.take k)) + pw (i + k) * (x * lim ys k) := by
      rw [Nat.mul_add, Nat.mul_add, pw_add]; congr 1; ac_rfl
    omega
  · intro j hj
    rw [lim_set_other (by omega)]; exact hun j (by omega)
theorem row_mul {xs ys ps ps' : List Nat} {i m q : Nat} (hlp : ps'.length = ps.length) (hok : Ok ps') (hv0 : val ps = val (xs.take i) * val ys) (hz : ∀ j, i + m ≤ j → lim ps j = 0)
    (hv : val ps' + pw (i + m) * q = val ps + pw i * (lim xs i * val (ys.take m))) (hun : ∀ j, i + m ≤ j → lim ps' j = lim ps j) (hym : ys.length = m) (hlt : i + m < ps.length) (hq : q < 4294967296) :
    (ps'.set (i + m) q).length = ps.length ∧ Ok (ps'.set (i + m) q) ∧ val (ps'.set (i + m) q) = val (xs.take (i + 1)) * val ys ∧ ∀ j, i + 1 + m ≤ j → lim (ps'.set (i + m) q) j = 0 := by
  refine ⟨by rw [List.length_set, hlp], hok.set _ _ hq, ?_, fun j hj => ?_⟩
  · have e0 := val_set (xs := ps') (i := i + m) (by omega) q
    rw [hun _ (Nat.le_refl _), hz _ (Nat.le_refl _), Nat.mul_zero, Nat.add_zero] at e0
    rw [List.take_of_length_le (by omega)] at hv
    rw [e0, hv, hv0, val_take_step xs, Nat.add_mul, Nat.mul_assoc]
  · rw [lim_set_other (by omega), hun _ (by omega), hz _ (by omega)]
set_option maxRecDepth 100000 in
set_option maxHeartbeats 2000000 in
theorem mul_any (v u : Value) (x y : Nat) (L : Nat) (w : World) (h : NatV 161 w v x) (h' : NatV 161 w u y) (hx : x < pw L) (hy : y < pw L) (hL : L ≤ 100000000) :
    Calls Tryz.prog 131 #[v, u] w fun e w' => ∃ v', e = .returned v' ∧ NatV 161 w' v' (x * y) ∧ Below w.heap.size w w' := by
  obtain ⟨ad, n, cap, rfl, xs, hs, ho, hnm, rfl⟩ := h.shape
  obtain ⟨ad', m, cap', rfl, ys, hs', ho', hnm', rfl⟩ := h'.shape
  obtain ⟨i0, hi0, hz0, hz1, hz2⟩ := info_parts info_u32
  have hlx := hs.len
  have hly := hs'.len
  have hl : n ≤ 100000000 := by have := norm_len hnm hx; omega
  have hl' : m ≤ 100000000 := by have := norm_len hnm' hy; omega
  obtain ⟨s, hsn, es⟩ : ∃ s : Nat, (n : Int) + (m : Int) = (s : Int) ∧ s = n + m := ⟨n + m, by omega, rfl⟩
  have ES := Lib.hid es
  have hsb : s ≤ 200000000 := by omega
  have H := Lib.hid hs
  have H' := Lib.hid hs'
  have HLX := Lib.hid hlx
  have HLY := Lib.hid hly
  have HD := Lib.hid (show ∀ b' o' n' c', Value.slice ad n cap = .slice (some ⟨b', o', none⟩) n' c' → ¬ (b' = w.heap.size + 1 + 1 + 1) from fun b' o' n' c' e => by have := hs.lt e; omega)
  have HD' := Lib.hid (show ∀ b' o' n' c', Value.slice ad' m cap' = .slice (some ⟨b', o', none⟩) n' c' → ¬ (b' = w.heap.size + 1 + 1 + 1) from fun b' o' n' c' e => by have := hs'.lt e; omega)
  clear hx hy h h' hs hs' hlx hly hnm hnm' es
  go_enter Tryz.func131, Tryz.ntmps131
  go_wp2_with (at_make; refine wpList_make_ints _ rfl _ _ 37 rfl 161 i0 .u32 Tryz.underlying37 hi0 hz0 hz1 .i64 .i64 _ _ s s rfl rfl (by omega) (by omega) (Nat.le_refl _) (by rw [hz2]; omega) (by omega) ?_)
  have hbW := bel_alloc4 w (Obj.cells #[Value.slice ad n cap] 39) (Obj.cells #[Value.slice ad' m cap'] 39) (Obj.cells #[Value.slice none 0 0] 39) (Obj.cells (ints IntKind.u32 (List.replicate s 0)) 161)
  have hrW := nb42 w (Obj.cells #[Value.slice ad n cap] 39) (Obj.cells #[Value.slice ad' m cap'] 39) (Obj.cells #[Value.slice none 0 0] 39) (Obj.cells (ints IntKind.u32 (List.replicate s 0)) 161)
  have hbb := nb41 w (Obj.cells #[Value.slice ad n cap] 39) (Obj.cells #[Value.slice ad' m cap'] 39) (Obj.cells #[Value.slice none 0 0] 39) (Obj.cells (ints IntKind.u32 (List.replicate s 0)) 161)
  have hkW : Blk ((((w.alloc (Obj.cells #[Value.slice ad n cap] 39)).alloc (Obj.cells #[Value.slice ad' m cap'] 39)).alloc (Obj.cells #[Value.slice none 0 0] 39)).alloc (Obj.cells (ints IntKind.u32 (List.replicate s 0)) 161)) (w.heap.size + 1 + 1 + 1) 161 .u32 (List.replicate s 0) := nb43 w _ _ _ _
  generalize ((((w.alloc (Obj.cells #[Value.slice ad n cap] 39)).alloc (Obj.cells #[Value.slice ad' m cap'] 39)).alloc (Obj.cells #[Value.slice none 0 0] 39)).alloc (Obj.cells (ints IntKind.u32 (List.replicate s 0)) 161)) = W at *
  have hszW := hkW.lt
  have HL := Lib.hid (H.out.below hbW)
  have HS := Lib.hid (H'.out.below hbW)
  have HBW := Lib.hid hbW
  have HRW := Lib.hid hrW
  have HBB := Lib.hid hbb
  have HKW := Lib.hid hkW
  clear hbW hrW hkW hbb H H'
  generalize hB3 : w.heap.size + 1 + 1 + 1 = B3 at *
  have HB3 := Lib.hid hB3
  clear hB3
  go_loopw [6, 7, 8, 9, 10, 11, 23] (fun _ _ _ _ _ _ ix wr => ∃ (i : Nat) (ps : List Nat), i ≤ n ∧ ix = .int .i64 i ∧ ps.length = s ∧ Ok ps ∧ val ps = val (xs.take i) * val ys ∧ (∀ j, i + m ≤ j → lim ps j = 0) ∧
      Blk wr B3 161 .u32 ps ∧ Keep (· = B3) W wr) (fun _ _ _ _ _ _ ix _ => n - (intOf ix).toNat)
  case atStart => exact ⟨0, List.replicate s 0, Nat.zero_le _, rfl, by simp, Ok.replicate _, by rw [val_replicate, List.take_zero, val_nil, Nat.zero_mul], fun j _ => lim_replicate _ _, HKW.out, Keep.refl _ _⟩
  case round =>
    obtain ⟨i, ps, hi, rfl, hpl, hok, hv, hz, hblk, hkeep⟩ := hrel
    have HPL := Lib.hid hpl
    have HV := Lib.hid hv
    have HZ := Lib.hid hz
    have HBK := Lib.hid hblk
    have HK := Lib.hid hkeep
    have hcb := cell_of ((hkeep.block (w.heap.size + 1) (by have := HB3.out; omega) (by have := HB3.out; omega)).trans HBB.out) 0
    simp only [List.getElem?_toArray, List.getElem?_cons_zero] at hcb
    clear hpl hv hz hblk hkeep
    by_cases hlt : i < n
    · obtain ⟨bx, offx, rfl, hcell, hblt⟩ := (HL.out.keep HK.out HD.out).cell (i := i) (by have := HLX.out; omega)
      have hlim : lim xs i < 4294967296 := lim_lt ho _
      have hsi : ¬ (s = i) := by have := ES.out; omega
      have his : i ≤ s := by have := ES.out; omega
      go_wp2_with fail
      go_loopw [9, 10, 11, 34] (fun c _ _ kx wq => ∃ (k q : Nat) (ps' : List Nat), k ≤ m ∧ kx = .int .i64 k ∧ c = .int .u64 q ∧ q < 4294967296 ∧ ps'.length = ps.length ∧ Ok ps' ∧ val ps' + pw (i + k) * q = val ps + pw i * (lim xs i * val (ys.take k)) ∧
          (∀ j, i + k ≤ j → lim ps' j = lim ps j) ∧ Blk wq B3 161 .u32 ps' ∧ Keep (· = B3) W wq) (fun _ _ _ kx _ => m - (intOf kx).toNat)
      case atStart => exact ⟨0, 0, ps, Nat.zero_le _, rfl, rfl, by decide, rfl, hok, by rw [Nat.mul_zero, Nat.add_zero, List.take_zero, val_nil, Nat.mul_zero, Nat.mul_zero, Nat.add_zero], fun _ _ => rfl, HBK.out, HK.out⟩
      case round =>
        obtain ⟨k, q, ps', hk, rfl, rfl, hq, hpl', hok', hv', hun, hblk', hkeep'⟩ := hrel
        have hik : i + k < s := by have := ES.out; omega
        have hcell2 := hblk'.cell (i := i + k) (by rw [hpl', HPL.out]; exact hik)
        have hf := hblk'.free (i + k)
        have hp := lim_lt hok' (i + k)
        have HPL' := Lib.hid hpl'
        have HV' := Lib.hid hv'
        have HUN := Lib.hid hun
        have HBK' := Lib.hid hblk'
        have HK' := Lib.hid hkeep'
        have hcb' := cell_of ((hkeep'.block (w.heap.size + 1) (by have := HB3.out; omega) (by have := HB3.out; omega)).trans HBB.out) 0
        simp only [List.getElem?_toArray, List.getElem?_cons_zero] at hcb'
        clear hpl' hv' hun hblk' hkeep'
        by_cases hklt : k < m
        · obtain ⟨by_, offy, rfl, hcelly, hblty⟩ := (HS.out.keep HK'.out HD'.out).cell (i := k) (by have := HLY.out; omega)
          have hlimy : lim ys k < 4294967296 := lim_lt ho' _
          have hxy : lim xs i * lim ys k ≤ 4294967295 * 4294967295 := Nat.mul_le_mul (by omega) (by omega)
          obtain ⟨p, hpw, ep⟩ : ∃ p : Nat, IntKind.u64.wrap (((lim xs i : Nat) : Int) * ((lim ys k : Nat) : Int)) = (p : Int) ∧ p = lim xs i * lim ys k := ⟨lim xs i * lim ys k, by
            rw [IntKind.wrap_u64, show (((lim xs i : Nat) : Int) * ((lim ys k : Nat) : Int)) = ((lim xs i * lim ys k : Nat) : Int) by simp]; omega, rfl⟩
          rw [← ep] at hxy
          obtain ⟨t1, ht1, et1⟩ : ∃ t1 : Nat, IntKind.u64.wrap ((p : Int) + ((lim ps' (i + k) : Nat) : Int)) = (t1 : Int) ∧ t1 = p + lim ps' (i + k) := ⟨_, by rw [IntKind.wrap_u64]; omega, rfl⟩
          obtain ⟨t, ht, et⟩ : ∃ t : Nat, IntKind.u64.wrap ((q : Int) + (t1 : Int)) = (t : Int) ∧ t = q + t1 := ⟨_, by rw [IntKind.wrap_u64]; omega, rfl⟩
          have htb : t < 18446744073709551616 := by omega
          rw [et1, ep] at et
          obtain ⟨td, htd, etd⟩ : ∃ td : Nat, ((t : Int) / 4294967296) = (td : Int) ∧ td = t / 4294967296 := ⟨t / 4294967296, by omega, rfl⟩
          obtain ⟨tm, htm, etm⟩ : ∃ tm : Nat, ((t : Int) % 4294967296) = (tm : Int) ∧ tm = t % 4294967296 := ⟨t % 4294967296, by omega, rfl⟩
          have R := step_mul (ys := ys) HPL'.out hok' HV'.out HUN.out HBK'.out HK'.out et etd etm (by rw [HPL.out]; exact hik) hq hlim hlimy hp
          have HR := Lib.hid R
          have hksi : k < s - i := by omega
          have HTB := Lib.hid htb
          clear R et etd etm hxy ep et1 htb
          go_wp2_with fail
          obtain ⟨r1, r2, r3, r4, r5, r6, r7⟩ := HR.out
          exact ⟨⟨k + 1, td, ps'.set (i + k) tm, by omega, by go_num, rfl, r1, r2, r3, r4, r5, r6, r7⟩, by simp [intOf]; omega⟩
        · obtain rfl : k = m := by omega
          have R := row_mul (xs := xs) (ys := ys) HPL'.out hok' HV.out HZ.out HV'.out HUN.out HLY.out (by rw [HPL.out]; exact hik) hq
          have HR := Lib.hid R
          have hksi : k < s - i := by omega
          have HB4 := Lib.hid (HBK'.out.set (i + k) q)
          have HK4 := Lib.hid (show Keep (· = B3) W (wr.setCell ⟨B3, i + k, none⟩ (.int .u32 (q : Nat))) from HK'.out.setCell rfl _)
          clear R
          go_wp2_with fail
          obtain ⟨r1, r2, r3, r4⟩ := HR.out
          exact ⟨⟨i + 1, ps'.set (i + k) q, by omega, by go_num, by rw [r1, HPL.out], r2, r3, r4, HB4.out, HK4.out⟩, by simp [intOf]; omega⟩
    · obtain rfl : i = n := by omega
      have hval : val ps = val xs * val ys := by rw [HV.out, List.take_of_length_le (by have := HLX.out; omega)]
      have hsl := Sl.of_blk HBK.out
      rw [HPL.out] at hsl
      have hr3 := (HK.out.block (w.heap.size + 1 + 1) (by have := HB3.out; omega) (by have := HB3.out; omega)).trans HRW.out
      have hb3 := HBW.out.trans (HK.out.below (B := w.heap.size) (by have := HB3.out; omega) (fun k e => by have := HB3.out; omega))
      have hlen2 : ps.length ≤ 1000000000000 := by rw [HPL.out]; omega
      have HV2 := Lib.hid hval
      have HSL := Lib.hid hsl
      have HR3 := Lib.hid hr3
      have HB5 := Lib.hid hb3
      clear hval hsl hr3 hb3
      go_wp2_with fail
      refine (wrap_any _ _ _ HSL.out hok hlen2).mono ?_
      rintro e w2 ⟨v', rfl, hn2, hb2⟩
      obtain ⟨ad2, len2, cap2, rfl, hr2⟩ := hn2.shape
      have hk2 := (hb2.block (w.heap.size + 1 + 1) (by have := HSL.out.lt rfl; have := HB3.out; omega)).trans HR3.out
      have hc := cell_of hk2 0
      have hf := free_of hk2 0
      simp only [List.getElem?_toArray, List.getElem?_cons_zero] at hc
      have HR := Lib.hid (fin_nat (bel_on HB5.out hb2) hk2 (by decide) hr2 (by omega) 0)
      clear hr2 hb2 hk2 hn2
      go_wp2
      refine bodyPost_ret (v := .agg #[.slice ad2 len2 cap2]) (by simp [results, Tryz.results131, go_sem, World.cell?_setCell_same _ _ _ hc]) rfl ⟨_, rfl, ?_⟩
      have := HR.out
      rw [HV2.out] at this
      exact this
end Go.Proofs.YtpmnakjllkidiaaGreatDoor
