/- The contract of the reference's MulNat. -/
import Derived.Test.YtfhilapjpabeeaaDoorWM
import Derived.Test.YtfhilapjpabeeaaDoorR1
namespace Go.Proofs.YtfhilapjpabeeaaDoor
open Go.RowKit Cin

theorem keep_drewN {S : Nat → Prop} {w w' : World} (h : Keep S w w') (n : Nat) : Keep S w (w'.drewN n) := ⟨h.os, h.tape, h.output, h.size, h.block⟩

set_option maxRecDepth 100000 in
set_option maxHeartbeats 2000000 in
/-- MulNat: a times b. -/
theorem refMul_any (v u : Value) (x y : Nat) (L : Nat) (w : World) (h : RefV 80 w v x) (h' : RefV 80 w u y) (hx : x < pw L) (hy : y < pw L) (hL : L ≤ 100000000) :
    Calls Tryd.prog 38 #[v, u] w fun e w' => ∃ v', e = .returned v' ∧ RefV 80 w' v' (x * y) ∧ Below w.heap.size w w' := by
  obtain ⟨ad, n, cap, xs, rfl, hs, ho, hnm, rfl, hlx, hcx⟩ := h.shape
  obtain ⟨ad', m, cap', ys, rfl, hs', ho', hnm', rfl, hly, hcy⟩ := h'.shape
  obtain ⟨i0, hi0, hz0, hz1, hz2⟩ := info_parts info_u32
  have hl : n ≤ 100000000 := by have := norm_len hnm hx; omega
  have hl' : m ≤ 100000000 := by have := norm_len hnm' hy; omega
  obtain ⟨nm, hnm0, enm⟩ : ∃ s : Nat, (n : Int) + (m : Int) = (s : Int) ∧ s = n + m := ⟨n + m, by omega, rfl⟩
  obtain ⟨s, hsn, es⟩ : ∃ s : Nat, (nm : Int) + 1 = (s : Int) ∧ s = n + m + 1 := ⟨n + m + 1, by omega, rfl⟩
  have ES := Lib.hid es
  have hsb : s ≤ 200000001 := by omega
  have hnb : nm ≤ 200000000 := by omega
  have H := Lib.hid hs
  have H' := Lib.hid hs'
  have HLX := Lib.hid hlx
  have HLY := Lib.hid hly
  have HD := Lib.hid (show ∀ b' o' n' c', Value.slice ad n cap = .slice (some ⟨b', o', none⟩) n' c' → ¬ (b' = w.heap.size) from fun b' o' n' c' e => by have := hs.lt e; omega)
  have HD' := Lib.hid (show ∀ b' o' n' c', Value.slice ad' m cap' = .slice (some ⟨b', o', none⟩) n' c' → ¬ (b' = w.heap.size) from fun b' o' n' c' e => by have := hs'.lt e; omega)
  clear hx hy h h' hs hs' hlx hly hnm hnm' es enm
  go_enter Tryd.func38, Tryd.ntmps38
  go_wp2_with (at_make; refine wpList_make_ints _ rfl _ _ 29 rfl 80 i0 .u32 Tryd.underlying29 hi0 hz0 hz1 .i64 .i64 _ _ s s rfl rfl (by omega) (by omega) (Nat.le_refl _) (by rw [hz2]; omega) (by omega) ?_)
  have hkW : Blk (w.alloc (Obj.cells (ints IntKind.u32 (List.replicate s 0)) 80)) w.heap.size 80 .u32 (List.replicate s 0) := Blk.new _ _ _ _
  have hbW := bel_alloc w (Obj.cells (ints IntKind.u32 (List.replicate s 0)) 80)
  generalize w.alloc (Obj.cells (ints IntKind.u32 (List.replicate s 0)) 80) = W at *
  have hszW := hkW.lt
  have HL := Lib.hid (H.out.below hbW)
  have HS := Lib.hid (H'.out.below hbW)
  have HBW := Lib.hid hbW
  have HKW := Lib.hid hkW
  have HWW := Lib.hid (Nat.le_refl w.heap.size)
  clear hbW hkW H H' hi0 hz0 hz1 hz2
  go_loopw [6] (fun ix wr => ∃ (i : Nat) (ps : List Nat), i ≤ n ∧ ix = .int .i64 i ∧ ps.length = s ∧ Ok ps ∧ val ps = val (xs.take i) * val ys ∧ (∀ j, i + m ≤ j → lim ps j = 0) ∧
      Blk wr w.heap.size 80 .u32 ps ∧ Keep (· = w.heap.size) W wr) (fun ix _ => n - (intOf ix).toNat)
  case atStart => exact ⟨0, List.replicate s 0, Nat.zero_le _, rfl, by simp, Ok.replicate _, by rw [val_replicate, List.take_zero, val_nil, Nat.zero_mul], fun j _ => lim_replicate _ _, HKW.out, Keep.refl _ _⟩
  case round =>
    obtain ⟨i, ps, hi, rfl, hpl, hok, hv, hz, hblk, hkeep⟩ := hrel
    have HPL := Lib.hid hpl
    have HV := Lib.hid hv
    have HZ := Lib.hid hz
    have HBK := Lib.hid hblk
    have HK := Lib.hid hkeep
    clear hpl hv hz hblk hkeep
    by_cases hlt : i < n
    · have hlim : lim xs i < 4294967296 := lim_lt ho _
      go_wp2_with fail
      go_loopw [7, 8] (fun c kx wq => ∃ (k q : Nat) (ps' : List Nat), k ≤ m ∧ kx = .int .i64 k ∧ c = .int .u64 q ∧ q < 4294967296 ∧ ps'.length = ps.length ∧ Ok ps' ∧ val ps' + pw (i + k) * q = val ps + pw i * (lim xs i * val (ys.take k)) ∧
          (∀ j, i + k ≤ j → lim ps' j = lim ps j) ∧ Blk wq w.heap.size 80 .u32 ps' ∧ Keep (· = w.heap.size) W wq) (fun _ kx _ => m - (intOf kx).toNat)
      case atStart => exact ⟨0, 0, ps, Nat.zero_le _, rfl, rfl, by decide, rfl, hok, by rw [Nat.mul_zero, Nat.add_zero, List.take_zero, val_nil, Nat.mul_zero, Nat.mul_zero, Nat.add_zero], fun _ _ => rfl, HBK.out, HK.out⟩
      case round =>
        obtain ⟨k, q, ps', hk, rfl, rfl, hq, hpl', hok', hv', hun, hblk', hkeep'⟩ := hrel
        obtain ⟨ik, eik, eik'⟩ : ∃ ik : Nat, (i : Int) + (k : Int) = (ik : Int) ∧ i + k = ik := ⟨i + k, by omega, rfl⟩
        have hik : ik < s := by have := ES.out; omega
        have wik : IntKind.i64.wrap (ik : Int) = (ik : Int) := IntWalk.i64_in _ (by omega)
        have hcell2 := hblk'.cell (i := ik) (by rw [hpl', HPL.out]; exact hik)
        have hf := hblk'.free ik
        have hp := lim_lt hok' ik
        have HPL' := Lib.hid hpl'
        have HV' := Lib.hid hv'
        have HUN := Lib.hid hun
        have HBK' := Lib.hid hblk'
        have HK' := Lib.hid hkeep'
        have EIK := Lib.hid eik'
        clear hpl' hv' hun hblk' hkeep' eik'
        by_cases hklt : k < m
        · obtain ⟨bx, offx, rfl, hcell, hblt⟩ := (HL.out.keep HK'.out HD.out).cell (i := i) (by have := HLX.out; omega)
          obtain ⟨by_, offy, rfl, hcelly, hblty⟩ := (HS.out.keep HK'.out HD'.out).cell (i := k) (by have := HLY.out; omega)
          have hlimy : lim ys k < 4294967296 := lim_lt ho' _
          have hxy : lim xs i * lim ys k ≤ 4294967295 * 4294967295 := Nat.mul_le_mul (by omega) (by omega)
          obtain ⟨p, hpw, ep⟩ : ∃ p : Nat, IntKind.u64.wrap (((lim xs i : Nat) : Int) * ((lim ys k : Nat) : Int)) = (p : Int) ∧ p = lim xs i * lim ys k := ⟨lim xs i * lim ys k, by
            rw [IntKind.wrap_u64, show (((lim xs i : Nat) : Int) * ((lim ys k : Nat) : Int)) = ((lim xs i * lim ys k : Nat) : Int) by simp]; omega, rfl⟩
          rw [← ep] at hxy
          obtain ⟨t1, ht1, et1⟩ : ∃ t1 : Nat, IntKind.u64.wrap ((p : Int) + ((lim ps' ik : Nat) : Int)) = (t1 : Int) ∧ t1 = p + lim ps' ik := ⟨_, by rw [IntKind.wrap_u64]; omega, rfl⟩
          obtain ⟨t, ht, et⟩ : ∃ t : Nat, IntKind.u64.wrap ((q : Int) + (t1 : Int)) = (t : Int) ∧ t = q + t1 := ⟨_, by rw [IntKind.wrap_u64]; omega, rfl⟩
          have htb : t < 18446744073709551616 := by omega
          rw [et1, ep] at et
          obtain ⟨td, htd, etd⟩ : ∃ td : Nat, ((t : Int) / 4294967296) = (td : Int) ∧ td = t / 4294967296 := ⟨t / 4294967296, by omega, rfl⟩
          obtain ⟨tm, htm, etm⟩ : ∃ tm : Nat, ((t : Int) % 4294967296) = (tm : Int) ∧ tm = t % 4294967296 := ⟨t % 4294967296, by omega, rfl⟩
          have hand : bits BinOp.and IntKind.u64 (t : Int) 4294967295 = (tm : Int) := by rw [and_mask32 htb, etm]
          have htmb : tm < 4294967296 := by omega
          have ET := Lib.hid et
          have ETD := Lib.hid etd
          have ETM := Lib.hid etm
          have hin : i < n := hlt
          clear et etd etm hxy ep et1 htb
          go_wp2_with fail
          go_quiet (fail)
          go_wp2_with fail
          have e0 := EIK.out
          subst e0
          obtain ⟨r1, r2, r3, r4, r5, r6, r7⟩ := step_mul (ys := ys) (wr := wr.drewN nq) HPL'.out hok' HV'.out HUN.out HBK'.out (keep_drewN HK'.out nq) ET.out ETD.out ETM.out (by rw [HPL.out]; exact hik) hq hlim hlimy hp
          exact ⟨⟨k + 1, td, ps'.set (i + k) tm, by omega, by go_num, rfl, r1, r2, r3, r4, r5, r6, r7⟩, by simp [intOf]; omega⟩
        · obtain rfl : k = m := by omega
          have HB4 := Lib.hid (HBK'.out.set ik q)
          have HK4 := Lib.hid (show Keep (· = w.heap.size) W (wr.setCell ⟨w.heap.size, ik, none⟩ (.int .u32 (q : Nat))) from HK'.out.setCell rfl _)
          go_wp2_with fail
          have e0 := EIK.out
          subst e0
          obtain ⟨r1, r2, r3, r4⟩ := row_mul (xs := xs) (ys := ys) HPL'.out hok' HV.out HZ.out HV'.out HUN.out HLY.out (by rw [HPL.out]; exact hik) hq
          exact ⟨⟨i + 1, ps'.set (i + k) q, by omega, by go_num, by rw [r1, HPL.out], r2, r3, r4, HB4.out, HK4.out⟩, by simp [intOf]; omega⟩
    · obtain rfl : i = n := by omega
      have hval : val ps = val xs * val ys := by rw [HV.out, List.take_of_length_le (by have := HLX.out; omega)]
      have hsl := Sl.of_blk HBK.out
      rw [HPL.out] at hsl
      have HSL := Lib.hid hsl
      have HV2 := Lib.hid hval
      have HB2 := Lib.hid (HBW.out.trans (HK.out.below (B := w.heap.size) (by omega) (fun j hj => by omega)))
      clear hsl hval
      go_wp2_with fail
      refine (rtrim_any _ ps _ HSL.out hok (by rw [HPL.out]; omega)).mono ?_
      rintro e w2 ⟨v', rfl, hr2, rfl⟩
      have HR2 := Lib.hid hr2
      clear hr2
      go_wp2_with fail
      go_ret
      exact ⟨_, rfl, by have := HR2.out; rw [HV2.out] at this; exact this, HB2.out⟩

end Go.Proofs.YtfhilapjpabeeaaDoor
