/- The contract of nat's Mul. -/
import Derived.Test.YtpchnejdbmoicaaDoorWA
namespace Go.Proofs.YtpchnejdbmoicaaDoor
open Go.RowKit Cin

/-- One word of one row. -/
theorem step_mul {t0 : TypeId} {w wr : World} {ys ps ps' : List Nat} {b i k q x t td tm : Nat} (hlp : ps'.length = ps.length) (hok : Ok ps') (hv : val ps' + pw (i + k) * q = val ps + pw i * (x * val (ys.take k)))
    (hun : ∀ j, i + k ≤ j → lim ps' j = lim ps j) (hblk : Blk wr b t0 .u32 ps') (hkeep : Keep (· = b) w wr)
    (et : t = q + (x * lim ys k + lim ps' (i + k))) (etd : td = t / 4294967296) (etm : tm = t % 4294967296) (hlt : i + k < ps.length)
    (hq : q < 4294967296) (hx : x < 4294967296) (hy : lim ys k < 4294967296) (hp : lim ps' (i + k) < 4294967296) :
    td < 4294967296 ∧ (ps'.set (i + k) tm).length = ps.length ∧ Ok (ps'.set (i + k) tm) ∧ val (ps'.set (i + k) tm) + pw (i + (k + 1)) * td = val ps + pw i * (x * val (ys.take (k + 1))) ∧
      (∀ j, i + (k + 1) ≤ j → lim (ps'.set (i + k) tm) j = lim ps j) ∧
      Blk (wr.setCell ⟨b, i + k, none⟩ (.int .u32 (tm : Nat))) b t0 .u32 (ps'.set (i + k) tm) ∧ Keep (· = b) w (wr.setCell ⟨b, i + k, none⟩ (.int .u32 (tm : Nat))) := by
  have hxy : x * lim ys k ≤ 4294967295 * 4294967295 := Nat.mul_le_mul (by omega) (by omega)
  have htm : tm < 4294967296 := by omega
  refine ⟨by omega, by rw [List.length_set, hlp], hok.set _ _ htm, ?_, ?_, hblk.set _ _, hkeep.setCell rfl _⟩
  · have e0 := val_set (xs := ps') (i := i + k) (by omega) tm
    rw [val_take_step ys, ← Nat.add_assoc, pw_succ]
    have e1 : t = tm + 4294967296 * td := by omega
    have e2 : pw (i + k) * t = pw (i + k) * tm + 4294967296 * pw (i + k) * td := by rw [e1, Nat.mul_add, Nat.mul_comm 4294967296 (pw (i + k)), Nat.mul_assoc]
    have e3 : pw (i + k) * t = pw (i + k) * q + (pw (i + k) * (x * lim ys k) + pw (i + k) * lim ps' (i + k)) := by rw [et, Nat.mul_add, Nat.mul_add]
    have e4 : pw i * (x * (val (ys.take k) + pw k * lim ys k)) = pw i * (x * val (ys.take k)) + pw (i + k) * (x * lim ys k) := by
      rw [Nat.mul_add, Nat.mul_add, pw_add]; congr 1; ac_rfl
    omega
  · intro j hj
    rw [lim_set_other (by omega)]; exact hun j (by omega)

/-- The last word of one row. -/
theorem row_mul {xs ys ps ps' : List Nat} {i m q : Nat} (hlp : ps'.length = ps.length) (hok : Ok ps') (hv0 : val ps = val (xs.take i) * val ys) (hz : ∀ j, i + m ≤ j → lim ps j = 0)
    (hv : val ps' + pw (i + m) * q = val ps + pw i * (lim xs i * val (ys.take m))) (hun : ∀ j, i + m ≤ j → lim ps' j = lim ps j) (hym : ys.length = m) (hlt : i + m < ps.length) (hq : q < 4294967296) :
    (ps'.set (i + m) q).length = ps.length ∧ Ok (ps'.set (i + m) q) ∧ val (ps'.set (i + m) q) = val (xs.take (i + 1)) * val ys ∧ ∀ j, i + 1 + m ≤ j → lim (ps'.set (i + m) q) j = 0 := by
  refine ⟨by rw [List.length_set, hlp], hok.set _ _ hq, ?_, fun j hj => ?_⟩
  · have e0 := val_set (xs := ps') (i := i + m) (by omega) q
    rw [hun _ (Nat.le_refl _), hz _ (Nat.le_refl _), Nat.mul_zero, Nat.add_zero] at e0
    rw [List.take_of_length_le (by omega)] at hv
    rw [e0, hv, hv0, val_take_step xs, Nat.add_mul, Nat.mul_assoc]
  · rw [lim_set_other (by omega), hun _ (by omega), hz _ (by omega)]

set_option maxRecDepth 100000 in
set_option maxHeartbeats 2000000 in
/-- Mul: a times b. -/
theorem mul_any (v u : Value) (x y : Nat) (L : Nat) (w : World) (h : NatV 68 w v x) (h' : NatV 68 w u y) (hx : x < pw L) (hy : y < pw L) (hL : L ≤ 100000000) :
    Calls Tryd.prog 31 #[v, u] w fun e w' => ∃ v', e = .returned v' ∧ NatV 68 w' v' (x * y) ∧ Below w.heap.size w w' := by
  obtain ⟨ad, n, cap, rfl, xs, hs, ho, hnm, rfl⟩ := h.shape
  obtain ⟨ad', m, cap', rfl, ys, hs', ho', hnm', rfl⟩ := h'.shape
  obtain ⟨i0, hi0, hz0, hz1, hz2⟩ := info_parts info_u32
  have hlx := hs.len
  have hly := hs'.len
  have hl : n ≤ 100000000 := by have := norm_len hnm hx; omega
  have hl' : m ≤ 100000000 := by have := norm_len hnm' hy; omega
  obtain ⟨s, hsn, es⟩ : ∃ s : Nat, (n : Int) + (m : Int) = (s : Int) ∧ s = n + m := ⟨n + m, by omega, rfl⟩
  have ES := Lib.hid es
  have hsb : s ≤ 200000000 := by omega
  have H := Lib.hid hs
  have H' := Lib.hid hs'
  have HLX := Lib.hid hlx
  have HLY := Lib.hid hly
  have HD := Lib.hid (show ∀ b' o' n' c', Value.slice ad n cap = .slice (some ⟨b', o', none⟩) n' c' → ¬ (b' = w.heap.size + 1 + 1 + 1) from fun b' o' n' c' e => by have := hs.lt e; omega)
  have HD' := Lib.hid (show ∀ b' o' n' c', Value.slice ad' m cap' = .slice (some ⟨b', o', none⟩) n' c' → ¬ (b' = w.heap.size + 1 + 1 + 1) from fun b' o' n' c' e => by have := hs'.lt e; omega)
  clear hx hy h h' hs hs' hlx hly hnm hnm' es
  go_enter Tryd.func31, Tryd.ntmps31
  go_wp2_with (at_make; refine wpList_make_ints _ rfl _ _ 23 rfl 68 i0 .u32 Tryd.underlying23 hi0 hz0 hz1 .i64 .i64 _ _ s s rfl rfl (by omega) (by omega) (Nat.le_refl _) (by rw [hz2]; omega) (by omega) ?_)
  have hbW := bel_alloc4 w (Obj.cells #[Value.slice ad n cap] 25) (Obj.cells #[Value.slice ad' m cap'] 25) (Obj.cells #[Value.slice none 0 0] 25) (Obj.cells (ints IntKind.u32 (List.replicate s 0)) 68)
  have hrW := nb42 w (Obj.cells #[Value.slice ad n cap] 25) (Obj.cells #[Value.slice ad' m cap'] 25) (Obj.cells #[Value.slice none 0 0] 25) (Obj.cells (ints IntKind.u32 (List.replicate s 0)) 68)
  have hbb := nb41 w (Obj.cells #[Value.slice ad n cap] 25) (Obj.cells #[Value.slice ad' m cap'] 25) (Obj.cells #[Value.slice none 0 0] 25) (Obj.cells (ints IntKind.u32 (List.replicate s 0)) 68)
  have hkW : Blk ((((w.alloc (Obj.cells #[Value.slice ad n cap] 25)).alloc (Obj.cells #[Value.slice ad' m cap'] 25)).alloc (Obj.cells #[Value.slice none 0 0] 25)).alloc (Obj.cells (ints IntKind.u32 (List.replicate s 0)) 68)) (w.heap.size + 1 + 1 + 1) 68 .u32 (List.replicate s 0) := nb43 w _ _ _ _
  generalize ((((w.alloc (Obj.cells #[Value.slice ad n cap] 25)).alloc (Obj.cells #[Value.slice ad' m cap'] 25)).alloc (Obj.cells #[Value.slice none 0 0] 25)).alloc (Obj.cells (ints IntKind.u32 (List.replicate s 0)) 68)) = W at *
  have hszW := hkW.lt
  have HL := Lib.hid (H.out.below hbW)
  have HS := Lib.hid (H'.out.below hbW)
  have HBW := Lib.hid hbW
  have HRW := Lib.hid hrW
  have HBB := Lib.hid hbb
  have HKW := Lib.hid hkW
  clear hbW hrW hkW hbb H H'
  generalize hB3 : w.heap.size + 1 + 1 + 1 = B3 at *
  have HB3 := Lib.hid hB3
  clear hB3
  go_loopw [6, 7, 8, 9, 10, 11, 23] (fun _ _ _ _ _ _ ix wr => ∃ (i : Nat) (ps : List Nat), i ≤ n ∧ ix = .int .i64 i ∧ ps.length = s ∧ Ok ps ∧ val ps = val (xs.take i) * val ys ∧ (∀ j, i + m ≤ j → lim ps j = 0) ∧
      Blk wr B3 68 .u32 ps ∧ Keep (· = B3) W wr) (fun _ _ _ _ _ _ ix _ => n - (intOf ix).toNat)
  case atStart => exact ⟨0, List.replicate s 0, Nat.zero_le _, rfl, by simp, Ok.replicate _, by rw [val_replicate, List.take_zero, val_nil, Nat.zero_mul], fun j _ => lim_replicate _ _, HKW.out, Keep.refl _ _⟩
  case round =>
    obtain ⟨i, ps, hi, rfl, hpl, hok, hv, hz, hblk, hkeep⟩ := hrel
    have HPL := Lib.hid hpl
    have HV := Lib.hid hv
    have HZ := Lib.hid hz
    have HBK := Lib.hid hblk
    have HK := Lib.hid hkeep
    have hcb := cell_of ((hkeep.block (w.heap.size + 1) (by have := HB3.out; omega) (by have := HB3.out; omega)).trans HBB.out) 0
    simp only [List.getElem?_toArray, List.getElem?_cons_zero] at hcb
    clear hpl hv hz hblk hkeep
    by_cases hlt : i < n
    · obtain ⟨bx, offx, rfl, hcell, hblt⟩ := (HL.out.keep HK.out HD.out).cell (i := i) (by have := HLX.out; omega)
      have hlim : lim xs i < 4294967296 := lim_lt ho _
      have hsi : ¬ (s = i) := by have := ES.out; omega
      have his : i ≤ s := by have := ES.out; omega
      go_wp2_with fail
      go_loopw [9, 10, 11, 34] (fun c _ _ kx wq => ∃ (k q : Nat) (ps' : List Nat), k ≤ m ∧ kx = .int .i64 k ∧ c = .int .u64 q ∧ q < 4294967296 ∧ ps'.length = ps.length ∧ Ok ps' ∧ val ps' + pw (i + k) * q = val ps + pw i * (lim xs i * val (ys.take k)) ∧
          (∀ j, i + k ≤ j → lim ps' j = lim ps j) ∧ Blk wq B3 68 .u32 ps' ∧ Keep (· = B3) W wq) (fun _ _ _ kx _ => m - (intOf kx).toNat)
      case atStart => exact ⟨0, 0, ps, Nat.zero_le _, rfl, rfl, by decide, rfl, hok, by rw [Nat.mul_zero, Nat.add_zero, List.take_zero, val_nil, Nat.mul_zero, Nat.mul_zero, Nat.add_zero], fun _ _ => rfl, HBK.out, HK.out⟩
      case round =>
        obtain ⟨k, q, ps', hk, rfl, rfl, hq, hpl', hok', hv', hun, hblk', hkeep'⟩ := hrel
        have hik : i + k < s := by have := ES.out; omega
        have hcell2 := hblk'.cell (i := i + k) (by rw [hpl', HPL.out]; exact hik)
        have hf := hblk'.free (i + k)
        have hp := lim_lt hok' (i + k)
        have HPL' := Lib.hid hpl'
        have HV' := Lib.hid hv'
        have HUN := Lib.hid hun
        have HBK' := Lib.hid hblk'
        have HK' := Lib.hid hkeep'
        have hcb' := cell_of ((hkeep'.block (w.heap.size + 1) (by have := HB3.out; omega) (by have := HB3.out; omega)).trans HBB.out) 0
        simp only [List.getElem?_toArray, List.getElem?_cons_zero] at hcb'
        clear hpl' hv' hun hblk' hkeep'
        by_cases hklt : k < m
        · obtain ⟨by_, offy, rfl, hcelly, hblty⟩ := (HS.out.keep HK'.out HD'.out).cell (i := k) (by have := HLY.out; omega)
          have hlimy : lim ys k < 4294967296 := lim_lt ho' _
          have hxy : lim xs i * lim ys k ≤ 4294967295 * 4294967295 := Nat.mul_le_mul (by omega) (by omega)
          obtain ⟨p, hpw, ep⟩ : ∃ p : Nat, IntKind.u64.wrap (((lim xs i : Nat) : Int) * ((lim ys k : Nat) : Int)) = (p : Int) ∧ p = lim xs i * lim ys k := ⟨lim xs i * lim ys k, by
            rw [IntKind.wrap_u64, show (((lim xs i : Nat) : Int) * ((lim ys k : Nat) : Int)) = ((lim xs i * lim ys k : Nat) : Int) by simp]; omega, rfl⟩
          rw [← ep] at hxy
          obtain ⟨t1, ht1, et1⟩ : ∃ t1 : Nat, IntKind.u64.wrap ((p : Int) + ((lim ps' (i + k) : Nat) : Int)) = (t1 : Int) ∧ t1 = p + lim ps' (i + k) := ⟨_, by rw [IntKind.wrap_u64]; omega, rfl⟩
          obtain ⟨t, ht, et⟩ : ∃ t : Nat, IntKind.u64.wrap ((q : Int) + (t1 : Int)) = (t : Int) ∧ t = q + t1 := ⟨_, by rw [IntKind.wrap_u64]; omega, rfl⟩
          have htb : t < 18446744073709551616 := by omega
          rw [et1, ep] at et
          obtain ⟨td, htd, etd⟩ : ∃ td : Nat, ((t : Int) / 4294967296) = (td : Int) ∧ td = t / 4294967296 := ⟨t / 4294967296, by omega, rfl⟩
          obtain ⟨tm, htm, etm⟩ : ∃ tm : Nat, ((t : Int) % 4294967296) = (tm : Int) ∧ tm = t % 4294967296 := ⟨t % 4294967296, by omega, rfl⟩
          have R := step_mul (ys := ys) HPL'.out hok' HV'.out HUN.out HBK'.out HK'.out et etd etm (by rw [HPL.out]; exact hik) hq hlim hlimy hp
          have HR := Lib.hid R
          have hksi : k < s - i := by omega
          have HTB := Lib.hid htb
          clear R et etd etm hxy ep et1 htb
          go_wp2_with fail
          obtain ⟨r1, r2, r3, r4, r5, r6, r7⟩ := HR.out
          exact ⟨⟨k + 1, td, ps'.set (i + k) tm, by omega, by go_num, rfl, r1, r2, r3, r4, r5, r6, r7⟩, by simp [intOf]; omega⟩
        · obtain rfl : k = m := by omega
          have R := row_mul (xs := xs) (ys := ys) HPL'.out hok' HV.out HZ.out HV'.out HUN.out HLY.out (by rw [HPL.out]; exact hik) hq
          have HR := Lib.hid R
          have hksi : k < s - i := by omega
          have HB4 := Lib.hid (HBK'.out.set (i + k) q)
          have HK4 := Lib.hid (show Keep (· = B3) W (wr.setCell ⟨B3, i + k, none⟩ (.int .u32 (q : Nat))) from HK'.out.setCell rfl _)
          clear R
          go_wp2_with fail
          obtain ⟨r1, r2, r3, r4⟩ := HR.out
          exact ⟨⟨i + 1, ps'.set (i + k) q, by omega, by go_num, by rw [r1, HPL.out], r2, r3, r4, HB4.out, HK4.out⟩, by simp [intOf]; omega⟩
    · obtain rfl : i = n := by omega
      have hval : val ps = val xs * val ys := by rw [HV.out, List.take_of_length_le (by have := HLX.out; omega)]
      have hsl := Sl.of_blk HBK.out
      rw [HPL.out] at hsl
      have hr3 := (HK.out.block (w.heap.size + 1 + 1) (by have := HB3.out; omega) (by have := HB3.out; omega)).trans HRW.out
      have hb3 := HBW.out.trans (HK.out.below (B := w.heap.size) (by have := HB3.out; omega) (fun k e => by have := HB3.out; omega))
      have hlen2 : ps.length ≤ 1000000000000 := by rw [HPL.out]; omega
      have HV2 := Lib.hid hval
      have HSL := Lib.hid hsl
      have HR3 := Lib.hid hr3
      have HB5 := Lib.hid hb3
      clear hval hsl hr3 hb3
      go_wp2_with fail
      refine (wrap_any _ _ _ HSL.out hok hlen2).mono ?_
      rintro e w2 ⟨v', rfl, hn2, hb2⟩
      obtain ⟨ad2, len2, cap2, rfl, hr2⟩ := hn2.shape
      have hk2 := (hb2.block (w.heap.size + 1 + 1) (by have := HSL.out.lt rfl; have := HB3.out; omega)).trans HR3.out
      have hc := cell_of hk2 0
      have hf := free_of hk2 0
      simp only [List.getElem?_toArray, List.getElem?_cons_zero] at hc
      have HR := Lib.hid (fin_nat (bel_on HB5.out hb2) hk2 (by decide) hr2 (by omega) 0)
      clear hr2 hb2 hk2 hn2
      go_wp2
      refine bodyPost_ret (v := .agg #[.slice ad2 len2 cap2]) (by simp [results, Tryd.results31, go_sem, World.cell?_setCell_same _ _ _ hc]) rfl ⟨_, rfl, ?_⟩
      have := HR.out
      rw [HV2.out] at this
      exact this

end Go.Proofs.YtpchnejdbmoicaaDoor
