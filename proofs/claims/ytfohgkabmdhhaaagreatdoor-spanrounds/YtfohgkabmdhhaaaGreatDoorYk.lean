/- The contract of the reference's SubNat. -/
import Derived.Test.YtfohgkabmdhhaaaGreatDoorYd
import Derived.Test.YtfohgkabmdhhaaaGreatDoorYj
import Derived.Test.YtfohgkabmdhhaaaGreatDoorYf
namespace Go.Proofs.YtfohgkabmdhhaaaGreatDoor
open Go.RowKit Cin

set_option maxRecDepth 100000 in
set_option maxHeartbeats 1000000 in
/-- SubNat: a less b, which is not greater. -/
theorem refSub_any (v u : Value) (x y : Nat) (L : Nat) (w : World) (h : RefV 146 w v x) (h' : RefV 146 w u y) (hx : x < pw L) (hL : L ≤ 100000000) (hle : y ≤ x) :
    Calls Tryz.prog 129 #[v, u] w fun e w' => ∃ v', e = .returned v' ∧ RefV 146 w' v' (x - y) ∧ Below w.heap.size w w' := by
  obtain ⟨ad, len, cap, xs, rfl, hs, ho, hnm, rfl, hlx, hcx⟩ := h.shape
  obtain ⟨ad', len', cap', ys, rfl, hs', ho', hnm', rfl, hly, hcy⟩ := h'.shape
  obtain ⟨i0, hi0, hz0, hz1, hz2⟩ := info_parts info_u32
  have hl : len ≤ 100000000 := by have := norm_len hnm hx; omega
  have hl' : len' ≤ 100000000 := by have := norm_len hnm' (Nat.lt_of_le_of_lt hle hx); omega
  have hll : len' ≤ len := by
    rcases Nat.lt_or_ge len len' with h0 | h0
    · have := val_lt_of_len ho hnm' (by omega); omega
    · exact h0
  have H := Lib.hid hs
  have H' := Lib.hid hs'
  have HLX := Lib.hid hlx
  have HLY := Lib.hid hly
  have HLE := Lib.hid hle
  have HD := Lib.hid (show ∀ b' o' n' c', Value.slice ad len cap = .slice (some ⟨b', o', none⟩) n' c' → ¬ (b' = w.heap.size) from fun b' o' n' c' e => by have := hs.lt e; omega)
  have HD' := Lib.hid (show ∀ b' o' n' c', Value.slice ad' len' cap' = .slice (some ⟨b', o', none⟩) n' c' → ¬ (b' = w.heap.size) from fun b' o' n' c' e => by have := hs'.lt e; omega)
  clear hx h h' hs hs' hlx hly hnm hnm' hle
  go_enter Tryz.func129, Tryz.ntmps129
  go_wp2_with (at_make; refine wpList_make_ints _ rfl _ _ 37 rfl 146 i0 .u32 Tryz.underlying37 hi0 hz0 hz1 .i64 .i64 _ _ len len rfl rfl (by omega) (by omega) (Nat.le_refl _) (by rw [hz2]; omega) (by omega) ?_)
  have hkW : Blk (w.alloc (Obj.cells (ints IntKind.u32 (List.replicate len 0)) 146)) w.heap.size 146 .u32 (List.replicate len 0) := Blk.new _ _ _ _
  have hbW := bel_alloc w (Obj.cells (ints IntKind.u32 (List.replicate len 0)) 146)
  generalize w.alloc (Obj.cells (ints IntKind.u32 (List.replicate len 0)) 146) = W at *
  have hszW := hkW.lt
  have HSW := Lib.hid (H.out.below hbW)
  have HLW := Lib.hid (H'.out.below hbW)
  have HBW := Lib.hid hbW
  have HKW := Lib.hid hkW
  clear hbW hkW H H'
  go_loopw [6, 7] (fun c i wr => ∃ (k q : Nat) (os : List Nat), k ≤ len ∧ i = .int .i64 k ∧ c = .int .u64 q ∧ q ≤ 1 ∧ os.length = k ∧ Ok os ∧ val (xs.take k) + pw k * q = val os + val (ys.take k) ∧
      Blk wr w.heap.size 146 .u32 (splice (List.replicate len 0) 0 os) ∧ Keep (· = w.heap.size) W wr) (fun _ i _ => len - (intOf i).toNat)
  case atStart => exact ⟨0, 0, [], Nat.zero_le _, rfl, rfl, by omega, rfl, Ok.nil, rfl, by rw [splice_nil]; exact HKW.out, Keep.refl _ _⟩
  case round =>
    obtain ⟨k, q, os, hk, rfl, rfl, hq, hol, hok, hv, hblk, hkeep⟩ := hrel
    have HOL := Lib.hid hol
    have HV := Lib.hid hv
    have HBK := Lib.hid hblk
    have HK := Lib.hid hkeep
    have HSr := Lib.hid (HSW.out.keep HK.out HD.out)
    have HLr := Lib.hid (HLW.out.keep HK.out HD'.out)
    by_cases hlt : k < len
    · have hcell2 := hblk.cell (i := k) (by rw [splice_length (by simp; omega)]; simp; omega)
      have hf := hblk.free k
      have hlim : lim xs k < 4294967296 := lim_lt ho _
      have hlim2 : lim ys k < 4294967296 := lim_lt ho' _
      clear hol hv hblk hkeep
      obtain ⟨bx, offx, rfl, hcell, hblt⟩ := HSr.out.cell (i := k) (by have := HLX.out; omega)
      by_cases h2 : k < len'
      · have d2 : decide (k < len') = true := decide_eq_true h2
        obtain ⟨by_, offy, rfl, hcelly, hblty⟩ := HLr.out.cell (i := k) (by have := HLY.out; omega)
        obtain ⟨X, eX, eX'⟩ : ∃ X : Nat, (q : Int) + ((lim ys k : Nat) : Int) = (X : Int) ∧ X = q + lim ys k := ⟨_, by omega, rfl⟩
        have hXb : X ≤ 4294967296 := by omega
        by_cases h3 : lim xs k < X
        · have d3 : decide (lim xs k < X) = true := decide_eq_true h3
          obtain ⟨Y, eY, eY'⟩ : ∃ Y : Nat, ((lim xs k : Nat) : Int) + 4294967296 = (Y : Int) ∧ Y = lim xs k + 4294967296 := ⟨_, by omega, rfl⟩
          obtain ⟨tm, htm, htmb⟩ : ∃ tm : Nat, (Y : Int) - (X : Int) = (tm : Int) ∧ tm < 4294967296 := ⟨Y - X, by omega, by omega⟩
          have hYb : Y ≤ 8589934591 := by omega
          have R := step_sub (xs := xs) (ys := ys) (ys0 := List.replicate len 0) (t := -(q : Int) + ((lim xs k : Int) - (lim ys k : Int))) (td := 1) (tm := tm) HOL.out hok HV.out HBK.out HK.out rfl (by omega) (by omega) (by simp; omega) hq hlim hlim2
          have HR := Lib.hid R
          clear R h3 hi0 hz0 hz1 hz2 eX' eY'
          go_wp2_with fail
          obtain ⟨r1, r2, r3, r4, r5, r6⟩ := HR.out
          exact ⟨⟨k + 1, 1, os ++ [tm], by omega, by go_num, rfl, r1, r2, r3, r4, r5, r6⟩, by simp [intOf]; omega⟩
        · have d3 : decide (lim xs k < X) = false := decide_eq_false h3
          obtain ⟨tm, htm, htmb⟩ : ∃ tm : Nat, ((lim xs k : Nat) : Int) - (X : Int) = (tm : Int) ∧ tm < 4294967296 := ⟨lim xs k - X, by omega, by omega⟩
          have R := step_sub (xs := xs) (ys := ys) (ys0 := List.replicate len 0) (t := -(q : Int) + ((lim xs k : Int) - (lim ys k : Int))) (td := 0) (tm := tm) HOL.out hok HV.out HBK.out HK.out rfl (by omega) (by omega) (by simp; omega) hq hlim hlim2
          have HR := Lib.hid R
          clear R h3 hi0 hz0 hz1 hz2 eX'
          go_wp2_with fail
          obtain ⟨r1, r2, r3, r4, r5, r6⟩ := HR.out
          exact ⟨⟨k + 1, 0, os ++ [tm], by omega, by go_num, rfl, r1, r2, r3, r4, r5, r6⟩, by simp [intOf]; omega⟩
      · have d2 : decide (k < len') = false := decide_eq_false h2
        have z2 : lim ys k = 0 := lim_ge (by have := HLY.out; omega)
        obtain ⟨X, eX, eX'⟩ : ∃ X : Nat, X = q ∧ X = q + lim ys k := ⟨q, rfl, by omega⟩
        subst eX
        have hXb : X ≤ 4294967296 := by omega
        by_cases h3 : lim xs k < X
        · have d3 : decide (lim xs k < X) = true := decide_eq_true h3
          obtain ⟨Y, eY, eY'⟩ : ∃ Y : Nat, ((lim xs k : Nat) : Int) + 4294967296 = (Y : Int) ∧ Y = lim xs k + 4294967296 := ⟨_, by omega, rfl⟩
          obtain ⟨tm, htm, htmb⟩ : ∃ tm : Nat, (Y : Int) - (X : Int) = (tm : Int) ∧ tm < 4294967296 := ⟨Y - X, by omega, by omega⟩
          have hYb : Y ≤ 8589934591 := by omega
          have R := step_sub (xs := xs) (ys := ys) (ys0 := List.replicate len 0) (t := -(X : Int) + ((lim xs k : Int) - (lim ys k : Int))) (td := 1) (tm := tm) HOL.out hok HV.out HBK.out HK.out rfl (by omega) (by omega) (by simp; omega) hq hlim hlim2
          have HR := Lib.hid R
          clear R h3 hi0 hz0 hz1 hz2 eX' eY' z2 h2
          go_wp2_with fail
          obtain ⟨r1, r2, r3, r4, r5, r6⟩ := HR.out
          exact ⟨⟨k + 1, 1, os ++ [tm], by omega, by go_num, rfl, r1, r2, r3, r4, r5, r6⟩, by simp [intOf]; omega⟩
        · have d3 : decide (lim xs k < X) = false := decide_eq_false h3
          obtain ⟨tm, htm, htmb⟩ : ∃ tm : Nat, ((lim xs k : Nat) : Int) - (X : Int) = (tm : Int) ∧ tm < 4294967296 := ⟨lim xs k - X, by omega, by omega⟩
          have R := step_sub (xs := xs) (ys := ys) (ys0 := List.replicate len 0) (t := -(X : Int) + ((lim xs k : Int) - (lim ys k : Int))) (td := 0) (tm := tm) HOL.out hok HV.out HBK.out HK.out rfl (by omega) (by omega) (by simp; omega) hq hlim hlim2
          have HR := Lib.hid R
          clear R h3 hi0 hz0 hz1 hz2 eX' z2 h2
          go_wp2_with fail
          obtain ⟨r1, r2, r3, r4, r5, r6⟩ := HR.out
          exact ⟨⟨k + 1, 0, os ++ [tm], by omega, by go_num, rfl, r1, r2, r3, r4, r5, r6⟩, by simp [intOf]; omega⟩
    · obtain rfl : k = len := by omega
      have hos : splice (List.replicate k 0) 0 os = os := splice_zeros_all HOL.out
      have hb2 := HBK.out
      rw [hos] at hb2
      have hsl := Sl.of_blk hb2
      rw [HOL.out] at hsl
      have hval : val os = val xs - val ys := end_sub HOL.out hok HV.out HLX.out (by have := HLY.out; omega) HLE.out
      have HSL := Lib.hid hsl
      have HV2 := Lib.hid hval
      have HB2 := Lib.hid (HBW.out.trans (HK.out.below (B := w.heap.size) (by omega) (fun j hj => by omega)))
      clear hos hb2 hsl hval hblk hkeep hol hv
      go_wp2_with fail
      refine (rtrim_any _ os _ HSL.out hok (by rw [HOL.out]; omega)).mono ?_
      rintro e w2 ⟨v', rfl, hr2, rfl⟩
      have HR2 := Lib.hid hr2
      clear hr2
      go_wp2_with fail
      go_ret
      exact ⟨_, rfl, by have := HR2.out; rw [HV2.out] at this; exact this, HB2.out⟩

end Go.Proofs.YtfohgkabmdhhaaaGreatDoor
/- The contract of the reference's MulNat. -/
namespace Go.Proofs.YtfohgkabmdhhaaaGreatDoor
open Go.RowKit Cin

theorem keep_drewN {S : Nat → Prop} {w w' : World} (h : Keep S w w') (n : Nat) : Keep S w (w'.drewN n) := ⟨h.os, h.tape, h.output, h.size, h.block⟩

set_option maxRecDepth 100000 in
set_option maxHeartbeats 2000000 in
/-- MulNat: a times b. -/
theorem refMul_any (v u : Value) (x y : Nat) (L : Nat) (w : World) (h : RefV 146 w v x) (h' : RefV 146 w u y) (hx : x < pw L) (hy : y < pw L) (hL : L ≤ 100000000) :
    Calls Tryz.prog 115 #[v, u] w fun e w' => ∃ v', e = .returned v' ∧ RefV 146 w' v' (x * y) ∧ Below w.heap.size w w' := by
  obtain ⟨ad, n, cap, xs, rfl, hs, ho, hnm, rfl, hlx, hcx⟩ := h.shape
  obtain ⟨ad', m, cap', ys, rfl, hs', ho', hnm', rfl, hly, hcy⟩ := h'.shape
  obtain ⟨i0, hi0, hz0, hz1, hz2⟩ := info_parts info_u32
  have hl : n ≤ 100000000 := by have := norm_len hnm hx; omega
  have hl' : m ≤ 100000000 := by have := norm_len hnm' hy; omega
  obtain ⟨nm, hnm0, enm⟩ : ∃ s : Nat, (n : Int) + (m : Int) = (s : Int) ∧ s = n + m := ⟨n + m, by omega, rfl⟩
  obtain ⟨s, hsn, es⟩ : ∃ s : Nat, (nm : Int) + 1 = (s : Int) ∧ s = n + m + 1 := ⟨n + m + 1, by omega, rfl⟩
  have ES := Lib.hid es
  have hsb : s ≤ 200000001 := by omega
  have hnb : nm ≤ 200000000 := by omega
  have H := Lib.hid hs
  have H' := Lib.hid hs'
  have HLX := Lib.hid hlx
  have HLY := Lib.hid hly
  have HD := Lib.hid (show ∀ b' o' n' c', Value.slice ad n cap = .slice (some ⟨b', o', none⟩) n' c' → ¬ (b' = w.heap.size) from fun b' o' n' c' e => by have := hs.lt e; omega)
  have HD' := Lib.hid (show ∀ b' o' n' c', Value.slice ad' m cap' = .slice (some ⟨b', o', none⟩) n' c' → ¬ (b' = w.heap.size) from fun b' o' n' c' e => by have := hs'.lt e; omega)
  clear hx hy h h' hs hs' hlx hly hnm hnm' es enm
  go_enter Tryz.func115, Tryz.ntmps115
  go_wp2_with (at_make; refine wpList_make_ints _ rfl _ _ 37 rfl 146 i0 .u32 Tryz.underlying37 hi0 hz0 hz1 .i64 .i64 _ _ s s rfl rfl (by omega) (by omega) (Nat.le_refl _) (by rw [hz2]; omega) (by omega) ?_)
  have hkW : Blk (w.alloc (Obj.cells (ints IntKind.u32 (List.replicate s 0)) 146)) w.heap.size 146 .u32 (List.replicate s 0) := Blk.new _ _ _ _
  have hbW := bel_alloc w (Obj.cells (ints IntKind.u32 (List.replicate s 0)) 146)
  generalize w.alloc (Obj.cells (ints IntKind.u32 (List.replicate s 0)) 146) = W at *
  have hszW := hkW.lt
  have HL := Lib.hid (H.out.below hbW)
  have HS := Lib.hid (H'.out.below hbW)
  have HBW := Lib.hid hbW
  have HKW := Lib.hid hkW
  have HWW := Lib.hid (Nat.le_refl w.heap.size)
  clear hbW hkW H H' hi0 hz0 hz1 hz2
  go_loopw [6] (fun ix wr => ∃ (i : Nat) (ps : List Nat), i ≤ n ∧ ix = .int .i64 i ∧ ps.length = s ∧ Ok ps ∧ val ps = val (xs.take i) * val ys ∧ (∀ j, i + m ≤ j → lim ps j = 0) ∧
      Blk wr w.heap.size 146 .u32 ps ∧ Keep (· = w.heap.size) W wr) (fun ix _ => n - (intOf ix).toNat)
  case atStart => exact ⟨0, List.replicate s 0, Nat.zero_le _, rfl, by simp, Ok.replicate _, by rw [val_replicate, List.take_zero, val_nil, Nat.zero_mul], fun j _ => lim_replicate _ _, HKW.out, Keep.refl _ _⟩
  case round =>
    obtain ⟨i, ps, hi, rfl, hpl, hok, hv, hz, hblk, hkeep⟩ := hrel
    have HPL := Lib.hid hpl
    have HV := Lib.hid hv
    have HZ := Lib.hid hz
    have HBK := Lib.hid hblk
    have HK := Lib.hid hkeep
    clear hpl hv hz hblk hkeep
    by_cases hlt : i < n
    · have hlim : lim xs i < 4294967296 := lim_lt ho _
      go_wp2_with fail
      go_loopw [7, 8] (fun c kx wq => ∃ (k q : Nat) (ps' : List Nat), k ≤ m ∧ kx = .int .i64 k ∧ c = .int .u64 q ∧ q < 4294967296 ∧ ps'.length = ps.length ∧ Ok ps' ∧ val ps' + pw (i + k) * q = val ps + pw i * (lim xs i * val (ys.take k)) ∧
          (∀ j, i + k ≤ j → lim ps' j = lim ps j) ∧ Blk wq w.heap.size 146 .u32 ps' ∧ Keep (· = w.heap.size) W wq) (fun _ kx _ => m - (intOf kx).toNat)
      case atStart => exact ⟨0, 0, ps, Nat.zero_le _, rfl, rfl, by decide, rfl, hok, by rw [Nat.mul_zero, Nat.add_zero, List.take_zero, val_nil, Nat.mul_zero, Nat.mul_zero, Nat.add_zero], fun _ _ => rfl, HBK.out, HK.out⟩
      case round =>
        obtain ⟨k, q, ps', hk, rfl, rfl, hq, hpl', hok', hv', hun, hblk', hkeep'⟩ := hrel
        obtain ⟨ik, eik, eik'⟩ : ∃ ik : Nat, (i : Int) + (k : Int) = (ik : Int) ∧ i + k = ik := ⟨i + k, by omega, rfl⟩
        have hik : ik < s := by have := ES.out; omega
        have wik : IntKind.i64.wrap (ik : Int) = (ik : Int) := IntWalk.i64_in _ (by omega)
        have hcell2 := hblk'.cell (i := ik) (by rw [hpl', HPL.out]; exact hik)
        have hf := hblk'.free ik
        have hp := lim_lt hok' ik
        have HPL' := Lib.hid hpl'
        have HV' := Lib.hid hv'
        have HUN := Lib.hid hun
        have HBK' := Lib.hid hblk'
        have HK' := Lib.hid hkeep'
        have EIK := Lib.hid eik'
        clear hpl' hv' hun hblk' hkeep' eik'
        by_cases hklt : k < m
        · obtain ⟨bx, offx, rfl, hcell, hblt⟩ := (HL.out.keep HK'.out HD.out).cell (i := i) (by have := HLX.out; omega)
          obtain ⟨by_, offy, rfl, hcelly, hblty⟩ := (HS.out.keep HK'.out HD'.out).cell (i := k) (by have := HLY.out; omega)
          have hlimy : lim ys k < 4294967296 := lim_lt ho' _
          have hxy : lim xs i * lim ys k ≤ 4294967295 * 4294967295 := Nat.mul_le_mul (by omega) (by omega)
          obtain ⟨p, hpw, ep⟩ : ∃ p : Nat, IntKind.u64.wrap (((lim xs i : Nat) : Int) * ((lim ys k : Nat) : Int)) = (p : Int) ∧ p = lim xs i * lim ys k := ⟨lim xs i * lim ys k, by
            rw [IntKind.wrap_u64, show (((lim xs i : Nat) : Int) * ((lim ys k : Nat) : Int)) = ((lim xs i * lim ys k : Nat) : Int) by simp]; omega, rfl⟩
          rw [← ep] at hxy
          obtain ⟨t1, ht1, et1⟩ : ∃ t1 : Nat, IntKind.u64.wrap ((p : Int) + ((lim ps' ik : Nat) : Int)) = (t1 : Int) ∧ t1 = p + lim ps' ik := ⟨_, by rw [IntKind.wrap_u64]; omega, rfl⟩
          obtain ⟨t, ht, et⟩ : ∃ t : Nat, IntKind.u64.wrap ((q : Int) + (t1 : Int)) = (t : Int) ∧ t = q + t1 := ⟨_, by rw [IntKind.wrap_u64]; omega, rfl⟩
          have htb : t < 18446744073709551616 := by omega
          rw [et1, ep] at et
          obtain ⟨td, htd, etd⟩ : ∃ td : Nat, ((t : Int) / 4294967296) = (td : Int) ∧ td = t / 4294967296 := ⟨t / 4294967296, by omega, rfl⟩
          obtain ⟨tm, htm, etm⟩ : ∃ tm : Nat, ((t : Int) % 4294967296) = (tm : Int) ∧ tm = t % 4294967296 := ⟨t % 4294967296, by omega, rfl⟩
          have hand : bits BinOp.and IntKind.u64 (t : Int) 4294967295 = (tm : Int) := by rw [and_mask32 htb, etm]
          have htmb : tm < 4294967296 := by omega
          have ET := Lib.hid et
          have ETD := Lib.hid etd
          have ETM := Lib.hid etm
          have hin : i < n := hlt
          clear et etd etm hxy ep et1 htb
          go_wp2_with fail
          go_quiet (fail)
          go_wp2_with fail
          have e0 := EIK.out
          subst e0
          obtain ⟨r1, r2, r3, r4, r5, r6, r7⟩ := step_mul (ys := ys) (wr := wr.drewN nq) HPL'.out hok' HV'.out HUN.out HBK'.out (keep_drewN HK'.out nq) ET.out ETD.out ETM.out (by rw [HPL.out]; exact hik) hq hlim hlimy hp
          exact ⟨⟨k + 1, td, ps'.set (i + k) tm, by omega, by go_num, rfl, r1, r2, r3, r4, r5, r6, r7⟩, by simp [intOf]; omega⟩
        · obtain rfl : k = m := by omega
          have HB4 := Lib.hid (HBK'.out.set ik q)
          have HK4 := Lib.hid (show Keep (· = w.heap.size) W (wr.setCell ⟨w.heap.size, ik, none⟩ (.int .u32 (q : Nat))) from HK'.out.setCell rfl _)
          go_wp2_with fail
          have e0 := EIK.out
          subst e0
          obtain ⟨r1, r2, r3, r4⟩ := row_mul (xs := xs) (ys := ys) HPL'.out hok' HV.out HZ.out HV'.out HUN.out HLY.out (by rw [HPL.out]; exact hik) hq
          exact ⟨⟨i + 1, ps'.set (i + k) q, by omega, by go_num, by rw [r1, HPL.out], r2, r3, r4, HB4.out, HK4.out⟩, by simp [intOf]; omega⟩
    · obtain rfl : i = n := by omega
      have hval : val ps = val xs * val ys := by rw [HV.out, List.take_of_length_le (by have := HLX.out; omega)]
      have hsl := Sl.of_blk HBK.out
      rw [HPL.out] at hsl
      have HSL := Lib.hid hsl
      have HV2 := Lib.hid hval
      have HB2 := Lib.hid (HBW.out.trans (HK.out.below (B := w.heap.size) (by omega) (fun j hj => by omega)))
      clear hsl hval
      go_wp2_with fail
      refine (rtrim_any _ ps _ HSL.out hok (by rw [HPL.out]; omega)).mono ?_
      rintro e w2 ⟨v', rfl, hr2, rfl⟩
      have HR2 := Lib.hid hr2
      clear hr2
      go_wp2_with fail
      go_ret
      exact ⟨_, rfl, by have := HR2.out; rw [HV2.out] at this; exact this, HB2.out⟩

end Go.Proofs.YtfohgkabmdhhaaaGreatDoor
/- What the laws ask of texts and of the document's numbers, with how great they are. -/
namespace Go.Proofs.YtfohgkabmdhhaaaGreatDoor
open Go.RowKit Cin

/-- The document's number n, and how great it is. -/
def RefB (w : World) (v : Value) (n k : Nat) : Prop := RefV 146 w v n ∧ n < pw k
theorem RefB.below {w w' : World} {v : Value} {n k : Nat} (h : RefB w v n k) (hb : Below w.heap.size w w') : RefB w' v n k := ⟨h.1.below hb, h.2⟩
theorem drewN_below (w : World) (n : Nat) : Below w.heap.size w (w.drewN n) := bel_drewN (Below.refl _ _) n

theorem raddB (v u : Value) (x y a b : Nat) (w : World) (h : RefB w v x a) (h' : RefB w u y b) (ha : a ≤ 10000000) (hb : b ≤ 10000000) :
    Calls Tryz.prog 128 #[v, u] w fun e w' => ∃ v', e = .returned v' ∧ RefB w' v' (x + y) (a + b + 1) ∧ Below w.heap.size w w' :=
  (refAdd_any v u x y (a + b) w h.1 h'.1 (lt_pw_mono h.2 (by omega)) (lt_pw_mono h'.2 (by omega)) (by omega)).mono fun _ _ ⟨v', e, hn, hw⟩ => ⟨v', e, ⟨hn, by have := pw_big a b; have := h.2; have := h'.2; omega⟩, hw⟩

theorem rmulB (v u : Value) (x y a b : Nat) (w : World) (h : RefB w v x a) (h' : RefB w u y b) (ha : a ≤ 10000000) (hb : b ≤ 10000000) :
    Calls Tryz.prog 115 #[v, u] w fun e w' => ∃ v', e = .returned v' ∧ RefB w' v' (x * y) (a + b) ∧ Below w.heap.size w w' :=
  (refMul_any v u x y (a + b) w h.1 h'.1 (lt_pw_mono h.2 (by omega)) (lt_pw_mono h'.2 (by omega)) (by omega)).mono fun _ _ ⟨v', e, hn, hw⟩ => ⟨v', e, ⟨hn, lt_pw_mul h.2 h'.2⟩, hw⟩

theorem rsubB (v u : Value) (x y a b : Nat) (w : World) (h : RefB w v x a) (h' : RefB w u y b) (ha : a ≤ 10000000) (hb : b ≤ 10000000) (hle : y ≤ x) :
    Calls Tryz.prog 129 #[v, u] w fun e w' => ∃ v', e = .returned v' ∧ RefB w' v' (x - y) a ∧ Below w.heap.size w w' :=
  (refSub_any v u x y (a + b) w h.1 h'.1 (lt_pw_mono h.2 (by omega)) (by omega) hle).mono fun _ _ ⟨v', e, hn, hw⟩ => ⟨v', e, ⟨hn, by have := h.2; omega⟩, hw⟩

theorem rcmpB (v u : Value) (x y a b : Nat) (w : World) (h : RefB w v x a) (h' : RefB w u y b) (ha : a ≤ 10000000) (hb : b ≤ 10000000) :
    Calls Tryz.prog 111 #[v, u] w fun e w' => e = .returned (.int .i64 (cmpI x y)) ∧ Below w.heap.size w w' :=
  (refCmp_any v u x y (a + b) w h.1 h'.1 (lt_pw_mono h.2 (by omega)) (lt_pw_mono h'.2 (by omega)) (by omega)).mono fun _ _ ⟨e, n, hw⟩ => ⟨e, by rw [hw]; exact drewN_below _ _⟩

theorem rtextB (v : Value) (n k : Nat) (w : World) (h : RefB w v n k) (hk : k ≤ 1000000) :
    Calls Tryz.prog 121 #[v] w fun e w' => e = .returned (.string (decS n)) ∧ Below w.heap.size w w' := refText_any v n k w h.1 h.2 hk

theorem decS_zero : decS 0 = ⟨#[48]⟩ := by unfold decS; rw [dec_small (by decide)]; rfl

end Go.Proofs.YtfohgkabmdhhaaaGreatDoor
/- Contracts of the document's whole numbers. -/
namespace Go.Proofs.YtfohgkabmdhhaaaGreatDoor
open Go.RowKit Cin

theorem refB_part {w : World} {ad : Option Addr} {len cap k : Nat} {b : Bool} {z : Int} (h : IntB 146 w (.agg #[.bool b, .slice ad len cap]) z k) : RefB w (.slice ad len cap) z.natAbs k := by
  obtain ⟨⟨s, e, r⟩, hk⟩ := h
  injection e with e
  injection e with e
  simp only [List.cons.injEq, and_true] at e
  obtain ⟨_, rfl⟩ := e
  exact ⟨r, hk⟩
theorem refB_len {w : World} {ad : Option Addr} {len cap n k : Nat} (h : RefB w (.slice ad len cap) n k) : len = 0 ↔ n = 0 := by
  obtain ⟨⟨xs, hs, ho, hnm, rfl⟩, _⟩ := h
  have hl := hs.len
  constructor
  · intro e
    rw [List.length_eq_zero_iff.1 (hl.trans e)]; rfl
  · intro e
    rw [norm_val_zero hnm e] at hl
    exact hl.symm

set_option maxHeartbeats 800000 in
/-- IntFrom: with a sign. -/
theorem rfrom_any (b : Bool) (v : Value) (n k : Nat) (w : World) (h : RefB w v n k) :
    Calls Tryz.prog 114 #[.bool b, v] w fun e w' => ∃ v', e = .returned v' ∧ IntB 146 w' v' (sg b n) k ∧ Below w.heap.size w w' := by
  obtain ⟨ad, len, cap, xs, rfl, _⟩ := h.1.shape
  have hl := refB_len h
  have H := Lib.hid h
  clear h
  cases b
  · clear hl
    go_enter Tryz.func114, Tryz.ntmps114
    go_wp2_with fail
    refine bodyPost_ret (v := .agg #[.bool false, .slice ad len cap]) (by simp [results, Tryz.results114, go_sem]) rfl ⟨_, rfl, intB_of (b := false) (H.out.1.below (bel_alloc _ _)) H.out.2 rfl, bel_alloc _ _⟩
  · by_cases h0 : n = 0
    · have hz : len = 0 := hl.2 h0
      subst hz
      have HI := Lib.hid (fun W (h : RefV 146 W (.slice ad 0 cap) n) => intB_of (b := true) (bb := false) h H.out.2 (by rw [decide_eq_true h0]; rfl))
      clear hl h0
      go_enter Tryz.func114, Tryz.ntmps114
      go_wp2_with fail
      refine bodyPost_ret (v := .agg #[.bool false, .slice ad 0 cap]) (by simp [results, Tryz.results114, go_sem]) rfl ⟨_, rfl, HI.out _ (H.out.1.below (bel_alloc _ _)), bel_alloc _ _⟩
    · have hz : 0 < len := Nat.pos_of_ne_zero fun e => h0 (hl.1 e)
      have HI := Lib.hid (fun W (h : RefV 146 W (.slice ad len cap) n) => intB_of (b := true) (bb := true) h H.out.2 (by rw [decide_eq_false h0]; rfl))
      clear hl h0
      go_enter Tryz.func114, Tryz.ntmps114
      go_wp2_with fail
      refine bodyPost_ret (v := .agg #[.bool true, .slice ad len cap]) (by first | (simp [results, Tryz.results114, go_sem]; done) | simp [results, Tryz.results114, go_sem, hz]) rfl ⟨_, rfl, HI.out _ (H.out.1.below (bel_alloc _ _)), bel_alloc _ _⟩

set_option maxHeartbeats 800000 in
/-- Sign: -1, 0, 1. -/
theorem rsign_any (v : Value) (z : Int) (k : Nat) (w : World) (h : IntB 146 w v z k) :
    Calls Tryz.prog 81 #[v] w fun e w' => e = .returned (.int .i64 (sgnZ z)) ∧ Below w.heap.size w w' := by
  obtain ⟨ad, len, cap, rfl, hr⟩ := h.shape
  have hl := refB_len (refB_part h)
  clear h hr
  by_cases h0 : z = 0
  · have hz : len = 0 := hl.2 (by omega)
    subst hz h0
    clear hl
    go_enter Tryz.func81, Tryz.ntmps81
    go_wp2_with fail
    go_ret
    exact ⟨rfl, bel_alloc _ _⟩
  · have hz : ((len : Int) == 0) = false := beq_eq_false_iff_ne.2 (by have := fun e => h0 (Int.natAbs_eq_zero.1 (hl.1 e)); omega)
    clear hl
    by_cases hn : z < 0
    · rw [decide_eq_true hn, show sgnZ z = -1 by unfold sgnZ; rw [if_pos hn]]
      go_enter Tryz.func81, Tryz.ntmps81
      go_wp2_with fail
      go_ret
      exact ⟨rfl, bel_alloc _ _⟩
    · rw [decide_eq_false hn, show sgnZ z = 1 by unfold sgnZ; rw [if_neg hn, if_pos (by omega)]]
      go_enter Tryz.func81, Tryz.ntmps81
      go_wp2_with fail
      go_ret
      exact ⟨rfl, bel_alloc _ _⟩

set_option maxHeartbeats 800000 in
/-- NegInt. -/
theorem rneg_any (v : Value) (z : Int) (k : Nat) (w : World) (h : IntB 146 w v z k) :
    Calls Tryz.prog 132 #[v] w fun e w' => ∃ v', e = .returned v' ∧ IntB 146 w' v' (-z) k ∧ Below w.heap.size w w' := by
  obtain ⟨bz, ad, len, cap, rfl, hr⟩ := h.shape2
  have H := Lib.hid (refB_part h)
  have HY := Lib.hid (show sg (!bz) z.natAbs = -z by rw [hr.out]; exact sg_not z)
  clear h hr
  go_enter Tryz.func132, Tryz.ntmps132
  go_wp2_with fail
  refine (rfrom_any (!bz) _ z.natAbs k _ (H.out.below (bel_alloc2 _ _ _))).mono ?_
  rintro e w1 ⟨v1, rfl, hn1, hb1⟩
  rw [HY.out] at hn1
  obtain ⟨bbR, adR, lenR, capR, rfl, hrR⟩ := hn1.shape2
  have hslR := (Slot.of (n := 2) ((heldN2 (w := w)).below hb1).2.1 rfl)
  obtain ⟨xR, yR, hxR, hyR, hfxR, hfyR⟩ := hslR.two
  have HRR := Lib.hid (fin_int hn1 hslR (by decide) (bel_on (bel_alloc2 _ _ _) hb1) (by omega))
  clear hrR hslR hn1 hb1
  go_wp2
  refine bodyPost_ret (v := .agg #[.bool bbR, .slice adR lenR capR]) (by simp [results, Tryz.results132, go_sem, HRR.out.2.2.1, HRR.out.2.2.2]) rfl (⟨_, rfl, HRR.out.1, HRR.out.2.1⟩)

set_option maxRecDepth 100000 in
set_option maxHeartbeats 1600000 in
/-- MulInt. -/
theorem rimul_any (v u : Value) (x y : Int) (k j : Nat) (w : World) (h : IntB 146 w v x k) (h' : IntB 146 w u y j) (hk : k ≤ 5000000) (hj : j ≤ 5000000) :
    Calls Tryz.prog 68 #[v, u] w fun e w' => ∃ v', e = .returned v' ∧ IntB 146 w' v' (x * y) (k + j) ∧ Below w.heap.size w w' := by
  obtain ⟨ad, len, cap, rfl, hr⟩ := h.shape
  obtain ⟨ad', len', cap', rfl, hr'⟩ := h'.shape
  have H := Lib.hid (refB_part h)
  have H' := Lib.hid (refB_part h')
  clear h hr h' hr'
  generalize hbx : decide (x < 0) = bx
  generalize hby : decide (y < 0) = bz
  have HSG := Lib.hid (show sg (!(bx == bz)) (x.natAbs * y.natAbs) = x * y by rw [← hbx, ← hby]; exact sg_mul x y)
  clear hbx hby
  go_enter Tryz.func68, Tryz.ntmps68
  go_wp2_with fail
  have hh := heldN3 (w := w) (c0 := #[Value.bool bx, Value.slice ad len cap]) (t0 := 39) (c1 := #[Value.bool bz, Value.slice ad' len' cap']) (t1 := 39) (c2 := #[Value.bool false, Value.slice none 0 0]) (t2 := 39)
  have hbX := bel_alloc3 w (Obj.cells #[Value.bool bx, Value.slice ad len cap] 39) (Obj.cells #[Value.bool bz, Value.slice ad' len' cap'] 39) (Obj.cells #[Value.bool false, Value.slice none 0 0] 39)
  generalize ((w.alloc (Obj.cells #[Value.bool bx, Value.slice ad len cap] 39)).alloc (Obj.cells #[Value.bool bz, Value.slice ad' len' cap'] 39)).alloc (Obj.cells #[Value.bool false, Value.slice none 0 0] 39) = X at *
  have hc0 := cell0 hh.1
  have hc1 := cell1 hh.1
  have hd0 := cell0 hh.2.1
  have hd1 := cell1 hh.2.1
  have HSL := Lib.hid (Slot.of (n := 2) hh.2.2.1 rfl)
  have HBX := Lib.hid hbX
  clear hh hbX
  refine wp_region_sched (fun w' => w'.cell? ⟨w.heap.size, 0, none⟩ = some (.bool bx) ∧ w'.cell? ⟨w.heap.size, 1, none⟩ = some (.slice ad len cap) ∧ w'.cell? ⟨w.heap.size + 1, 0, none⟩ = some (.bool bz) ∧ w'.cell? ⟨w.heap.size + 1, 1, none⟩ = some (.slice ad' len' cap') ∧ Slot w' (w.heap.size + 1 + 1) 39 2 ∧ Below w.heap.size w w') [(0, true), (1, true), (2, true), (3, true), (4, true), (5, true), (6, true), (7, true), (8, true), (9, false), (10, false), (11, false)] (by kernel_rfl) (by kernel_rfl) ?_ (fun hHeld => ?_)
  · (try dsimp only)
    exact ⟨hc0, hc1, hd0, hd1, HSL.out.drew, HBX.out.drew⟩
  try dsimp only at hHeld
  repeat (refine wpSched_at (by simp only [List.getElem?_toArray, List.getElem?_cons_zero, List.getElem?_cons_succ]; rfl) ?_; (first | (apply wpAt_take rfl; (intro wx hSx; (try dsimp only at hSx); go_simp; (try with_reducible rfl)); simp only [Act.put, List.setIfInBounds_toArray, List.set_cons_zero, List.set_cons_succ]) | (refine wpAt_skip rfl ?_; simp only [Act.put, List.setIfInBounds_toArray, List.set_cons_zero, List.set_cons_succ]) | (refine wpAt_pass rfl hHeld ?_; simp only [Act.put, List.setIfInBounds_toArray, List.set_cons_zero, List.set_cons_succ]) | (refine wpAt_eff rfl (fun K hK => ?_); ((obtain ⟨x0, y0, hx0, hy0, hfx0, hfy0⟩ := hHeld.2.2.2.2.1.two); (try simp only [cell_drew, frozen_drew] at hx0 hy0 hfx0 hfy0)); go_simp; (first | (go_at_call 115; (with_reducible refine (rmulB (.slice ad len cap) (.slice ad' len' cap') x.natAbs y.natAbs k j _ ?_ ?_ (by omega) (by omega)).mono ?_); (exact H.out.below hHeld.2.2.2.2.2); (exact H'.out.below hHeld.2.2.2.2.2); rintro e w' ⟨vf, rfl, hn, hb⟩; (try replace NF := Lib.hid (NF.out.below hb)); have NF := Lib.hid hn; have hS := And.intro trivial (And.intro (cell_below hHeld.1 hb) (And.intro (cell_below hHeld.2.1 hb) (And.intro (cell_below hHeld.2.2.1 hb) (And.intro (cell_below hHeld.2.2.2.1 hb) (And.intro (hHeld.2.2.2.2.1.below hb) (bel_on hHeld.2.2.2.2.2 hb)))))); clear hb hHeld hn) | (go_at_call 114; (with_reducible refine (rfrom_any (!(bx == bz)) vf (x.natAbs * y.natAbs) (k + j) _ ?_).mono ?_); (exact NF.out); rintro e w' ⟨vs, rfl, hn, hb⟩; (try replace NF := Lib.hid (NF.out.below hb)); have NS := Lib.hid hn; (rw [HSG.out] at NS); obtain ⟨bbR, adR, lenR, capR, rfl, hrR⟩ := NS.out.shape2; have hS := And.intro trivial (And.intro (cell_below hHeld.1 hb) (And.intro (cell_below hHeld.2.1 hb) (And.intro (cell_below hHeld.2.2.1 hb) (And.intro (cell_below hHeld.2.2.2.1 hb) (And.intro (hHeld.2.2.2.2.1.below hb) (bel_on hHeld.2.2.2.2.2 hb)))))); clear hb hHeld hn) | (try simp only [cell_drew, slot_drew, below_drew] at hHeld)); (refine hK.out _ _ ?_ (fun hHeld => ?_)); ((try dsimp only); ((try simp only [cell_drew, slot_drew, below_drew]); refine ⟨?_, ?_, ?_, ?_, ?_, ?_⟩; (first | exact hS.2.1 | with_reducible exact cell_set hHeld.1 (by omega) | with_reducible exact cell_set (cell_set hHeld.1 (by omega)) (by omega)); (first | exact hS.2.2.1 | with_reducible exact cell_set hHeld.2.1 (by omega) | with_reducible exact cell_set (cell_set hHeld.2.1 (by omega)) (by omega)); (first | exact hS.2.2.2.1 | with_reducible exact cell_set hHeld.2.2.1 (by omega) | with_reducible exact cell_set (cell_set hHeld.2.2.1 (by omega)) (by omega)); (first | exact hS.2.2.2.2.1 | with_reducible exact cell_set hHeld.2.2.2.1 (by omega) | with_reducible exact cell_set (cell_set hHeld.2.2.2.1 (by omega)) (by omega)); (first | exact hS.2.2.2.2.2.1 | with_reducible exact hHeld.2.2.2.2.1.set _ _ _ | with_reducible exact (hHeld.2.2.2.2.1.set _ _ _).set _ _ _); (first | exact hS.2.2.2.2.2.2 | with_reducible exact bel_set1 hHeld.2.2.2.2.2 (by omega) | with_reducible exact bel_set2 hHeld.2.2.2.2.2 (by omega) (by omega)))); clear hK K; (try clear hS); (try clear hfx0 hx0 x0); (try clear hfy0 hy0 y0); (try clear hfx1 hx1 x1); (try clear hfy1 hy1 y1); (try dsimp only at hHeld))))
  refine wpSched_nil ?_
  rename_i hOld
  have HRR := Lib.hid (fin_int NS.out hOld.2.2.2.2.1 (by decide) hOld.2.2.2.2.2 (by omega))
  clear hOld hHeld 
  go_wp2_with fail
  refine bodyPost_ret (v := .agg #[.bool bbR, .slice adR lenR capR]) (by simp [results, Tryz.results68, go_sem, HRR.out.2.2.1, HRR.out.2.2.2]) rfl (⟨_, rfl, HRR.out.1.mono (by omega), HRR.out.2.1⟩)

theorem sg_same2 {x y : Int} (h : decide (x < 0) = decide (y < 0)) : sg (decide (x < 0)) (x.natAbs + y.natAbs) = x + y := by
  have := sg_same (n := y.natAbs) h
  rw [sg_of] at this
  rw [h]; exact this
theorem sg_left2 {x y : Int} (h : decide (x < 0) = !decide (y < 0)) (hl : y.natAbs ≤ x.natAbs) : sg (decide (x < 0)) (x.natAbs - y.natAbs) = x + y := by
  have := sg_left h hl
  rw [sg_of] at this
  rw [h]; exact this
theorem sg_right2 {x y : Int} (h : decide (x < 0) = !decide (y < 0)) (hl : x.natAbs < y.natAbs) : sg (decide (y < 0)) (y.natAbs - x.natAbs) = x + y := by
  have := sg_right h hl
  rwa [sg_of] at this

set_option maxRecDepth 100000 in
set_option maxHeartbeats 3200000 in
/-- AddInt. -/
theorem riadd_any (v u : Value) (x y : Int) (k j : Nat) (w : World) (h : IntB 146 w v x k) (h' : IntB 146 w u y j) (hk : k ≤ 4000000) (hj : j ≤ 4000000) :
    Calls Tryz.prog 118 #[v, u] w fun e w' => ∃ v', e = .returned v' ∧ IntB 146 w' v' (x + y) (k + j + 1) ∧ Below w.heap.size w w' := by
  obtain ⟨ad, len, cap, rfl, hr⟩ := h.shape
  obtain ⟨ad', len', cap', rfl, hr'⟩ := h'.shape
  have H := Lib.hid (refB_part h)
  have H' := Lib.hid (refB_part h')
  clear h hr h' hr'
  generalize hbx : decide (x < 0) = bx
  generalize hby : decide (y < 0) = bz
  by_cases hs : (bx == bz) = true
  · have HSG := Lib.hid (show sg bx (x.natAbs + y.natAbs) = x + y by rw [← hbx]; exact sg_same2 (by rw [hbx, hby]; simpa using hs))
    clear hbx hby
    go_enter Tryz.func118, Tryz.ntmps118
    go_wp2_with fail
    have hh := heldN3 (w := w) (c0 := #[Value.bool bx, Value.slice ad len cap]) (t0 := 39) (c1 := #[Value.bool bz, Value.slice ad' len' cap']) (t1 := 39) (c2 := #[Value.bool false, Value.slice none 0 0]) (t2 := 39)
    have hbX := bel_alloc3 w (Obj.cells #[Value.bool bx, Value.slice ad len cap] 39) (Obj.cells #[Value.bool bz, Value.slice ad' len' cap'] 39) (Obj.cells #[Value.bool false, Value.slice none 0 0] 39)
    generalize ((w.alloc (Obj.cells #[Value.bool bx, Value.slice ad len cap] 39)).alloc (Obj.cells #[Value.bool bz, Value.slice ad' len' cap'] 39)).alloc (Obj.cells #[Value.bool false, Value.slice none 0 0] 39) = X at *
    have hc0 := cell0 hh.1
    have hc1 := cell1 hh.1
    have hd0 := cell0 hh.2.1
    have hd1 := cell1 hh.2.1
    have HSL := Lib.hid (Slot.of (n := 2) hh.2.2.1 rfl)
    have HBX := Lib.hid hbX
    clear hh hbX
    refine wp_region_sched (fun w' => w'.cell? ⟨w.heap.size, 0, none⟩ = some (.bool bx) ∧ w'.cell? ⟨w.heap.size, 1, none⟩ = some (.slice ad len cap) ∧ w'.cell? ⟨w.heap.size + 1, 0, none⟩ = some (.bool bz) ∧ w'.cell? ⟨w.heap.size + 1, 1, none⟩ = some (.slice ad' len' cap') ∧ Slot w' (w.heap.size + 1 + 1) 39 2 ∧ Below w.heap.size w w') [(0, true), (1, true), (2, true), (3, true), (4, true), (5, true), (6, false), (7, false), (8, false)] (by kernel_rfl) (by kernel_rfl) ?_ (fun hHeld => ?_)
    · (try dsimp only)
      exact ⟨hc0, hc1, hd0, hd1, HSL.out.drew, HBX.out.drew⟩
    try dsimp only at hHeld
    repeat (refine wpSched_at (by simp only [List.getElem?_toArray, List.getElem?_cons_zero, List.getElem?_cons_succ]; rfl) ?_; (first | (apply wpAt_take rfl; (intro wx hSx; (try dsimp only at hSx); go_simp; (try with_reducible rfl)); simp only [Act.put, List.setIfInBounds_toArray, List.set_cons_zero, List.set_cons_succ]) | (refine wpAt_skip rfl ?_; simp only [Act.put, List.setIfInBounds_toArray, List.set_cons_zero, List.set_cons_succ]) | (refine wpAt_pass rfl hHeld ?_; simp only [Act.put, List.setIfInBounds_toArray, List.set_cons_zero, List.set_cons_succ]) | (refine wpAt_eff rfl (fun K hK => ?_); ((obtain ⟨x0, y0, hx0, hy0, hfx0, hfy0⟩ := hHeld.2.2.2.2.1.two); (try simp only [cell_drew, frozen_drew] at hx0 hy0 hfx0 hfy0)); go_simp; (first | (go_at_call 128; (with_reducible refine (raddB (.slice ad len cap) (.slice ad' len' cap') x.natAbs y.natAbs k j _ ?_ ?_ (by omega) (by omega)).mono ?_); (exact H.out.below hHeld.2.2.2.2.2); (exact H'.out.below hHeld.2.2.2.2.2); rintro e w' ⟨vf, rfl, hn, hb⟩; (try replace NF := Lib.hid (NF.out.below hb)); have NF := Lib.hid hn; have hS := And.intro trivial (And.intro (cell_below hHeld.1 hb) (And.intro (cell_below hHeld.2.1 hb) (And.intro (cell_below hHeld.2.2.1 hb) (And.intro (cell_below hHeld.2.2.2.1 hb) (And.intro (hHeld.2.2.2.2.1.below hb) (bel_on hHeld.2.2.2.2.2 hb)))))); clear hb hHeld hn) | (go_at_call 114; (with_reducible refine (rfrom_any bx vf (x.natAbs + y.natAbs) (k + j + 1) _ ?_).mono ?_); (exact NF.out); rintro e w' ⟨vs, rfl, hn, hb⟩; (try replace NF := Lib.hid (NF.out.below hb)); have NS := Lib.hid hn; (rw [HSG.out] at NS); obtain ⟨bbR, adR, lenR, capR, rfl, hrR⟩ := NS.out.shape2; have hS := And.intro trivial (And.intro (cell_below hHeld.1 hb) (And.intro (cell_below hHeld.2.1 hb) (And.intro (cell_below hHeld.2.2.1 hb) (And.intro (cell_below hHeld.2.2.2.1 hb) (And.intro (hHeld.2.2.2.2.1.below hb) (bel_on hHeld.2.2.2.2.2 hb)))))); clear hb hHeld hn) | (try simp only [cell_drew, slot_drew, below_drew] at hHeld)); (refine hK.out _ _ ?_ (fun hHeld => ?_)); ((try dsimp only); ((try simp only [cell_drew, slot_drew, below_drew]); refine ⟨?_, ?_, ?_, ?_, ?_, ?_⟩; (first | exact hS.2.1 | with_reducible exact cell_set hHeld.1 (by omega) | with_reducible exact cell_set (cell_set hHeld.1 (by omega)) (by omega)); (first | exact hS.2.2.1 | with_reducible exact cell_set hHeld.2.1 (by omega) | with_reducible exact cell_set (cell_set hHeld.2.1 (by omega)) (by omega)); (first | exact hS.2.2.2.1 | with_reducible exact cell_set hHeld.2.2.1 (by omega) | with_reducible exact cell_set (cell_set hHeld.2.2.1 (by omega)) (by omega)); (first | exact hS.2.2.2.2.1 | with_reducible exact cell_set hHeld.2.2.2.1 (by omega) | with_reducible exact cell_set (cell_set hHeld.2.2.2.1 (by omega)) (by omega)); (first | exact hS.2.2.2.2.2.1 | with_reducible exact hHeld.2.2.2.2.1.set _ _ _ | with_reducible exact (hHeld.2.2.2.2.1.set _ _ _).set _ _ _); (first | exact hS.2.2.2.2.2.2 | with_reducible exact bel_set1 hHeld.2.2.2.2.2 (by omega) | with_reducible exact bel_set2 hHeld.2.2.2.2.2 (by omega) (by omega)))); clear hK K; (try clear hS); (try clear hfx0 hx0 x0); (try clear hfy0 hy0 y0); (try clear hfx1 hx1 x1); (try clear hfy1 hy1 y1); (try dsimp only at hHeld))))
    refine wpSched_nil ?_
    rename_i hOld
    have HRR := Lib.hid (fin_int NS.out hOld.2.2.2.2.1 (by decide) hOld.2.2.2.2.2 (by omega))
    clear hOld hHeld 
    go_wp2_with fail
    refine bodyPost_ret (v := .agg #[.bool bbR, .slice adR lenR capR]) (by simp [results, Tryz.results118, go_sem, HRR.out.2.2.1, HRR.out.2.2.2]) rfl (⟨_, rfl, HRR.out.1.mono (by omega), HRR.out.2.1⟩)
  · have hs' : (bx == bz) = false := by simpa using hs
    have hnb : decide (x < 0) = !decide (y < 0) := by rw [hbx, hby]; exact eq_not_of_ne hs'
    by_cases hl : y.natAbs ≤ x.natAbs
    · have HSG := Lib.hid (show sg bx (x.natAbs - y.natAbs) = x + y by rw [← hbx]; exact sg_left2 hnb hl)
      obtain ⟨C, hC, hC0⟩ : ∃ C : Int, cmpI x.natAbs y.natAbs = C ∧ decide (0 ≤ C) = true := by
        refine ⟨_, rfl, ?_⟩
        unfold cmpI
        rw [if_neg (by omega)]
        split <;> rfl
      clear hbx hby hnb hs
      go_enter Tryz.func118, Tryz.ntmps118
      go_wp2_with fail
      have hh := heldN3 (w := w) (c0 := #[Value.bool bx, Value.slice ad len cap]) (t0 := 39) (c1 := #[Value.bool bz, Value.slice ad' len' cap']) (t1 := 39) (c2 := #[Value.bool false, Value.slice none 0 0]) (t2 := 39)
      have hbX := bel_alloc3 w (Obj.cells #[Value.bool bx, Value.slice ad len cap] 39) (Obj.cells #[Value.bool bz, Value.slice ad' len' cap'] 39) (Obj.cells #[Value.bool false, Value.slice none 0 0] 39)
      generalize ((w.alloc (Obj.cells #[Value.bool bx, Value.slice ad len cap] 39)).alloc (Obj.cells #[Value.bool bz, Value.slice ad' len' cap'] 39)).alloc (Obj.cells #[Value.bool false, Value.slice none 0 0] 39) = X at *
      have hc0 := cell0 hh.1
      have hc1 := cell1 hh.1
      have hd0 := cell0 hh.2.1
      have hd1 := cell1 hh.2.1
      have HSL := Lib.hid (Slot.of (n := 2) hh.2.2.1 rfl)
      have HBX := Lib.hid hbX
      clear hh hbX
      refine (rcmpB (.slice ad len cap) (.slice ad' len' cap') x.natAbs y.natAbs k j _ (H.out.below HBX.out) (H'.out.below HBX.out) (by omega) (by omega)).mono ?_
      rintro e w1 ⟨rfl, hb1⟩
      rw [hC]
      replace hc0 := cell_below hc0 hb1
      replace hc1 := cell_below hc1 hb1
      replace hd0 := cell_below hd0 hb1
      replace hd1 := cell_below hd1 hb1
      replace HSL := Lib.hid (HSL.out.below hb1)
      replace HBX := Lib.hid (bel_on HBX.out hb1)
      clear hb1
      go_wp2_with fail
      clear hC0 hC
      refine wp_region_sched (fun w' => w'.cell? ⟨w.heap.size, 0, none⟩ = some (.bool bx) ∧ w'.cell? ⟨w.heap.size, 1, none⟩ = some (.slice ad len cap) ∧ w'.cell? ⟨w.heap.size + 1, 0, none⟩ = some (.bool bz) ∧ w'.cell? ⟨w.heap.size + 1, 1, none⟩ = some (.slice ad' len' cap') ∧ Slot w' (w.heap.size + 1 + 1) 39 2 ∧ Below w.heap.size w w') [(0, true), (1, true), (2, true), (3, true), (4, true), (5, true), (6, false), (7, false), (8, false)] (by kernel_rfl) (by kernel_rfl) ?_ (fun hHeld => ?_)
      · (try dsimp only)
        exact ⟨hc0, hc1, hd0, hd1, HSL.out.drew, HBX.out.drew⟩
      try dsimp only at hHeld
      repeat (refine wpSched_at (by simp only [List.getElem?_toArray, List.getElem?_cons_zero, List.getElem?_cons_succ]; rfl) ?_; (first | (apply wpAt_take rfl; (intro wx hSx; (try dsimp only at hSx); go_simp; (try with_reducible rfl)); simp only [Act.put, List.setIfInBounds_toArray, List.set_cons_zero, List.set_cons_succ]) | (refine wpAt_skip rfl ?_; simp only [Act.put, List.setIfInBounds_toArray, List.set_cons_zero, List.set_cons_succ]) | (refine wpAt_pass rfl hHeld ?_; simp only [Act.put, List.setIfInBounds_toArray, List.set_cons_zero, List.set_cons_succ]) | (refine wpAt_eff rfl (fun K hK => ?_); ((obtain ⟨x0, y0, hx0, hy0, hfx0, hfy0⟩ := hHeld.2.2.2.2.1.two); (try simp only [cell_drew, frozen_drew] at hx0 hy0 hfx0 hfy0)); go_simp; (first | (go_at_call 129; (with_reducible refine (rsubB (.slice ad len cap) (.slice ad' len' cap') x.natAbs y.natAbs k j _ ?_ ?_ (by omega) (by omega) hl).mono ?_); (exact H.out.below hHeld.2.2.2.2.2); (exact H'.out.below hHeld.2.2.2.2.2); rintro e w' ⟨vf, rfl, hn, hb⟩; (try replace NF := Lib.hid (NF.out.below hb)); have NF := Lib.hid hn; have hS := And.intro trivial (And.intro (cell_below hHeld.1 hb) (And.intro (cell_below hHeld.2.1 hb) (And.intro (cell_below hHeld.2.2.1 hb) (And.intro (cell_below hHeld.2.2.2.1 hb) (And.intro (hHeld.2.2.2.2.1.below hb) (bel_on hHeld.2.2.2.2.2 hb)))))); clear hb hHeld hn) | (go_at_call 114; (with_reducible refine (rfrom_any bx vf (x.natAbs - y.natAbs) (k) _ ?_).mono ?_); (exact NF.out); rintro e w' ⟨vs, rfl, hn, hb⟩; (try replace NF := Lib.hid (NF.out.below hb)); have NS := Lib.hid hn; (rw [HSG.out] at NS); obtain ⟨bbR, adR, lenR, capR, rfl, hrR⟩ := NS.out.shape2; have hS := And.intro trivial (And.intro (cell_below hHeld.1 hb) (And.intro (cell_below hHeld.2.1 hb) (And.intro (cell_below hHeld.2.2.1 hb) (And.intro (cell_below hHeld.2.2.2.1 hb) (And.intro (hHeld.2.2.2.2.1.below hb) (bel_on hHeld.2.2.2.2.2 hb)))))); clear hb hHeld hn) | (try simp only [cell_drew, slot_drew, below_drew] at hHeld)); (refine hK.out _ _ ?_ (fun hHeld => ?_)); ((try dsimp only); ((try simp only [cell_drew, slot_drew, below_drew]); refine ⟨?_, ?_, ?_, ?_, ?_, ?_⟩; (first | exact hS.2.1 | with_reducible exact cell_set hHeld.1 (by omega) | with_reducible exact cell_set (cell_set hHeld.1 (by omega)) (by omega)); (first | exact hS.2.2.1 | with_reducible exact cell_set hHeld.2.1 (by omega) | with_reducible exact cell_set (cell_set hHeld.2.1 (by omega)) (by omega)); (first | exact hS.2.2.2.1 | with_reducible exact cell_set hHeld.2.2.1 (by omega) | with_reducible exact cell_set (cell_set hHeld.2.2.1 (by omega)) (by omega)); (first | exact hS.2.2.2.2.1 | with_reducible exact cell_set hHeld.2.2.2.1 (by omega) | with_reducible exact cell_set (cell_set hHeld.2.2.2.1 (by omega)) (by omega)); (first | exact hS.2.2.2.2.2.1 | with_reducible exact hHeld.2.2.2.2.1.set _ _ _ | with_reducible exact (hHeld.2.2.2.2.1.set _ _ _).set _ _ _); (first | exact hS.2.2.2.2.2.2 | with_reducible exact bel_set1 hHeld.2.2.2.2.2 (by omega) | with_reducible exact bel_set2 hHeld.2.2.2.2.2 (by omega) (by omega)))); clear hK K; (try clear hS); (try clear hfx0 hx0 x0); (try clear hfy0 hy0 y0); (try clear hfx1 hx1 x1); (try clear hfy1 hy1 y1); (try dsimp only at hHeld))))
      refine wpSched_nil ?_
      rename_i hOld
      have HRR := Lib.hid (fin_int NS.out hOld.2.2.2.2.1 (by decide) hOld.2.2.2.2.2 (by omega))
      clear hOld hHeld 
      go_wp2_with fail
      refine bodyPost_ret (v := .agg #[.bool bbR, .slice adR lenR capR]) (by simp [results, Tryz.results118, go_sem, HRR.out.2.2.1, HRR.out.2.2.2]) rfl (⟨_, rfl, HRR.out.1.mono (by omega), HRR.out.2.1⟩)
    · have hl' : x.natAbs < y.natAbs := by omega
      have HSG := Lib.hid (show sg bz (y.natAbs - x.natAbs) = x + y by rw [← hby]; exact sg_right2 hnb hl')
      have hC : cmpI x.natAbs y.natAbs = -1 := by unfold cmpI; rw [if_pos hl']
      have hle : x.natAbs ≤ y.natAbs := by omega
      clear hbx hby hnb hs hl
      go_enter Tryz.func118, Tryz.ntmps118
      go_wp2_with fail
      have hh := heldN3 (w := w) (c0 := #[Value.bool bx, Value.slice ad len cap]) (t0 := 39) (c1 := #[Value.bool bz, Value.slice ad' len' cap']) (t1 := 39) (c2 := #[Value.bool false, Value.slice none 0 0]) (t2 := 39)
      have hbX := bel_alloc3 w (Obj.cells #[Value.bool bx, Value.slice ad len cap] 39) (Obj.cells #[Value.bool bz, Value.slice ad' len' cap'] 39) (Obj.cells #[Value.bool false, Value.slice none 0 0] 39)
      generalize ((w.alloc (Obj.cells #[Value.bool bx, Value.slice ad len cap] 39)).alloc (Obj.cells #[Value.bool bz, Value.slice ad' len' cap'] 39)).alloc (Obj.cells #[Value.bool false, Value.slice none 0 0] 39) = X at *
      have hc0 := cell0 hh.1
      have hc1 := cell1 hh.1
      have hd0 := cell0 hh.2.1
      have hd1 := cell1 hh.2.1
      have HSL := Lib.hid (Slot.of (n := 2) hh.2.2.1 rfl)
      have HBX := Lib.hid hbX
      clear hh hbX
      refine (rcmpB (.slice ad len cap) (.slice ad' len' cap') x.natAbs y.natAbs k j _ (H.out.below HBX.out) (H'.out.below HBX.out) (by omega) (by omega)).mono ?_
      rintro e w1 ⟨rfl, hb1⟩
      rw [hC]
      replace hc0 := cell_below hc0 hb1
      replace hc1 := cell_below hc1 hb1
      replace hd0 := cell_below hd0 hb1
      replace hd1 := cell_below hd1 hb1
      replace HSL := Lib.hid (HSL.out.below hb1)
      replace HBX := Lib.hid (bel_on HBX.out hb1)
      clear hb1
      go_wp2_with fail
      clear hC
      refine wp_region_sched (fun w' => w'.cell? ⟨w.heap.size, 0, none⟩ = some (.bool bx) ∧ w'.cell? ⟨w.heap.size, 1, none⟩ = some (.slice ad len cap) ∧ w'.cell? ⟨w.heap.size + 1, 0, none⟩ = some (.bool bz) ∧ w'.cell? ⟨w.heap.size + 1, 1, none⟩ = some (.slice ad' len' cap') ∧ Slot w' (w.heap.size + 1 + 1) 39 2 ∧ Below w.heap.size w w') [(0, true), (1, true), (2, true), (3, true), (4, true), (5, true), (6, false), (7, false), (8, false)] (by kernel_rfl) (by kernel_rfl) ?_ (fun hHeld => ?_)
      · (try dsimp only)
        exact ⟨hc0, hc1, hd0, hd1, HSL.out.drew, HBX.out.drew⟩
      try dsimp only at hHeld
      repeat (refine wpSched_at (by simp only [List.getElem?_toArray, List.getElem?_cons_zero, List.getElem?_cons_succ]; rfl) ?_; (first | (apply wpAt_take rfl; (intro wx hSx; (try dsimp only at hSx); go_simp; (try with_reducible rfl)); simp only [Act.put, List.setIfInBounds_toArray, List.set_cons_zero, List.set_cons_succ]) | (refine wpAt_skip rfl ?_; simp only [Act.put, List.setIfInBounds_toArray, List.set_cons_zero, List.set_cons_succ]) | (refine wpAt_pass rfl hHeld ?_; simp only [Act.put, List.setIfInBounds_toArray, List.set_cons_zero, List.set_cons_succ]) | (refine wpAt_eff rfl (fun K hK => ?_); ((obtain ⟨x0, y0, hx0, hy0, hfx0, hfy0⟩ := hHeld.2.2.2.2.1.two); (try simp only [cell_drew, frozen_drew] at hx0 hy0 hfx0 hfy0)); go_simp; (first | (go_at_call 129; (with_reducible refine (rsubB (.slice ad' len' cap') (.slice ad len cap) y.natAbs x.natAbs j k _ ?_ ?_ (by omega) (by omega) hle).mono ?_); (exact H'.out.below hHeld.2.2.2.2.2); (exact H.out.below hHeld.2.2.2.2.2); rintro e w' ⟨vf, rfl, hn, hb⟩; (try replace NF := Lib.hid (NF.out.below hb)); have NF := Lib.hid hn; have hS := And.intro trivial (And.intro (cell_below hHeld.1 hb) (And.intro (cell_below hHeld.2.1 hb) (And.intro (cell_below hHeld.2.2.1 hb) (And.intro (cell_below hHeld.2.2.2.1 hb) (And.intro (hHeld.2.2.2.2.1.below hb) (bel_on hHeld.2.2.2.2.2 hb)))))); clear hb hHeld hn) | (go_at_call 114; (with_reducible refine (rfrom_any bz vf (y.natAbs - x.natAbs) (j) _ ?_).mono ?_); (exact NF.out); rintro e w' ⟨vs, rfl, hn, hb⟩; (try replace NF := Lib.hid (NF.out.below hb)); have NS := Lib.hid hn; (rw [HSG.out] at NS); obtain ⟨bbR, adR, lenR, capR, rfl, hrR⟩ := NS.out.shape2; have hS := And.intro trivial (And.intro (cell_below hHeld.1 hb) (And.intro (cell_below hHeld.2.1 hb) (And.intro (cell_below hHeld.2.2.1 hb) (And.intro (cell_below hHeld.2.2.2.1 hb) (And.intro (hHeld.2.2.2.2.1.below hb) (bel_on hHeld.2.2.2.2.2 hb)))))); clear hb hHeld hn) | (try simp only [cell_drew, slot_drew, below_drew] at hHeld)); (refine hK.out _ _ ?_ (fun hHeld => ?_)); ((try dsimp only); ((try simp only [cell_drew, slot_drew, below_drew]); refine ⟨?_, ?_, ?_, ?_, ?_, ?_⟩; (first | exact hS.2.1 | with_reducible exact cell_set hHeld.1 (by omega) | with_reducible exact cell_set (cell_set hHeld.1 (by omega)) (by omega)); (first | exact hS.2.2.1 | with_reducible exact cell_set hHeld.2.1 (by omega) | with_reducible exact cell_set (cell_set hHeld.2.1 (by omega)) (by omega)); (first | exact hS.2.2.2.1 | with_reducible exact cell_set hHeld.2.2.1 (by omega) | with_reducible exact cell_set (cell_set hHeld.2.2.1 (by omega)) (by omega)); (first | exact hS.2.2.2.2.1 | with_reducible exact cell_set hHeld.2.2.2.1 (by omega) | with_reducible exact cell_set (cell_set hHeld.2.2.2.1 (by omega)) (by omega)); (first | exact hS.2.2.2.2.2.1 | with_reducible exact hHeld.2.2.2.2.1.set _ _ _ | with_reducible exact (hHeld.2.2.2.2.1.set _ _ _).set _ _ _); (first | exact hS.2.2.2.2.2.2 | with_reducible exact bel_set1 hHeld.2.2.2.2.2 (by omega) | with_reducible exact bel_set2 hHeld.2.2.2.2.2 (by omega) (by omega)))); clear hK K; (try clear hS); (try clear hfx0 hx0 x0); (try clear hfy0 hy0 y0); (try clear hfx1 hx1 x1); (try clear hfy1 hy1 y1); (try dsimp only at hHeld))))
      refine wpSched_nil ?_
      rename_i hOld
      have HRR := Lib.hid (fin_int NS.out hOld.2.2.2.2.1 (by decide) hOld.2.2.2.2.2 (by omega))
      clear hOld hHeld 
      go_wp2_with fail
      refine bodyPost_ret (v := .agg #[.bool bbR, .slice adR lenR capR]) (by simp [results, Tryz.results118, go_sem, HRR.out.2.2.1, HRR.out.2.2.2]) rfl (⟨_, rfl, HRR.out.1.mono (by omega), HRR.out.2.1⟩)

set_option maxRecDepth 100000 in
set_option maxHeartbeats 1600000 in
/-- SubInt. -/
theorem risub_any (v u : Value) (x y : Int) (k j : Nat) (w : World) (h : IntB 146 w v x k) (h' : IntB 146 w u y j) (hk : k ≤ 4000000) (hj : j ≤ 4000000) :
    Calls Tryz.prog 113 #[v, u] w fun e w' => ∃ v', e = .returned v' ∧ IntB 146 w' v' (x - y) (k + j + 1) ∧ Below w.heap.size w w' := by
  obtain ⟨bx, ad, len, cap, rfl, hr⟩ := h.shape2
  obtain ⟨bz, ad', len', cap', rfl, hr'⟩ := h'.shape2
  have H := Lib.hid h
  have H' := Lib.hid h'
  clear h hr h' hr'
  go_enter Tryz.func113, Tryz.ntmps113
  go_wp2_with fail
  have hh := heldN3 (w := w) (c0 := #[Value.bool bx, Value.slice ad len cap]) (t0 := 39) (c1 := #[Value.bool bz, Value.slice ad' len' cap']) (t1 := 39) (c2 := #[Value.bool false, Value.slice none 0 0]) (t2 := 39)
  have hbX := bel_alloc3 w (Obj.cells #[Value.bool bx, Value.slice ad len cap] 39) (Obj.cells #[Value.bool bz, Value.slice ad' len' cap'] 39) (Obj.cells #[Value.bool false, Value.slice none 0 0] 39)
  generalize ((w.alloc (Obj.cells #[Value.bool bx, Value.slice ad len cap] 39)).alloc (Obj.cells #[Value.bool bz, Value.slice ad' len' cap'] 39)).alloc (Obj.cells #[Value.bool false, Value.slice none 0 0] 39) = X at *
  have hc0 := cell0 hh.1
  have hc1 := cell1 hh.1
  have hd0 := cell0 hh.2.1
  have hd1 := cell1 hh.2.1
  have HSL := Lib.hid (Slot.of (n := 2) hh.2.2.1 rfl)
  have HBX := Lib.hid hbX
  clear hh hbX
  refine wp_region_sched (fun w' => w'.cell? ⟨w.heap.size, 0, none⟩ = some (.bool bx) ∧ w'.cell? ⟨w.heap.size, 1, none⟩ = some (.slice ad len cap) ∧ w'.cell? ⟨w.heap.size + 1, 0, none⟩ = some (.bool bz) ∧ w'.cell? ⟨w.heap.size + 1, 1, none⟩ = some (.slice ad' len' cap') ∧ Slot w' (w.heap.size + 1 + 1) 39 2 ∧ Below w.heap.size w w') [(0, true), (1, true), (2, false), (3, false), (4, false)] (by kernel_rfl) (by kernel_rfl) ?_ (fun hHeld => ?_)
  · (try dsimp only)
    exact ⟨hc0, hc1, hd0, hd1, HSL.out.drew, HBX.out.drew⟩
  try dsimp only at hHeld
  repeat (refine wpSched_at (by simp only [List.getElem?_toArray, List.getElem?_cons_zero, List.getElem?_cons_succ]; rfl) ?_; (first | (apply wpAt_take rfl; (intro wx hSx; (try dsimp only at hSx); go_simp; (try with_reducible rfl)); simp only [Act.put, List.setIfInBounds_toArray, List.set_cons_zero, List.set_cons_succ]) | (refine wpAt_skip rfl ?_; simp only [Act.put, List.setIfInBounds_toArray, List.set_cons_zero, List.set_cons_succ]) | (refine wpAt_pass rfl hHeld ?_; simp only [Act.put, List.setIfInBounds_toArray, List.set_cons_zero, List.set_cons_succ]) | (refine wpAt_eff rfl (fun K hK => ?_); ((obtain ⟨x0, y0, hx0, hy0, hfx0, hfy0⟩ := hHeld.2.2.2.2.1.two); (try simp only [cell_drew, frozen_drew] at hx0 hy0 hfx0 hfy0)); go_simp; (first | (go_at_call 132; (with_reducible refine (rneg_any (.agg #[.bool bz, .slice ad' len' cap']) y j _ ?_).mono ?_); (exact H'.out.below hHeld.2.2.2.2.2); rintro e w' ⟨vf, rfl, hn, hb⟩; (try replace NF := Lib.hid (NF.out.below hb)); have NF := Lib.hid hn; have hS := And.intro trivial (And.intro (cell_below hHeld.1 hb) (And.intro (cell_below hHeld.2.1 hb) (And.intro (cell_below hHeld.2.2.1 hb) (And.intro (cell_below hHeld.2.2.2.1 hb) (And.intro (hHeld.2.2.2.2.1.below hb) (bel_on hHeld.2.2.2.2.2 hb)))))); clear hb hHeld hn) | (go_at_call 118; (with_reducible refine (riadd_any (.agg #[.bool bx, .slice ad len cap]) vf x (-y) k j _ ?_ ?_ hk hj).mono ?_); (exact H.out.below hHeld.2.2.2.2.2); (exact NF.out); rintro e w' ⟨vs, rfl, hn, hb⟩; (try replace NF := Lib.hid (NF.out.below hb)); have NS := Lib.hid hn; (rw [← Int.sub_eq_add_neg] at NS); obtain ⟨bbR, adR, lenR, capR, rfl, hrR⟩ := NS.out.shape2; have hS := And.intro trivial (And.intro (cell_below hHeld.1 hb) (And.intro (cell_below hHeld.2.1 hb) (And.intro (cell_below hHeld.2.2.1 hb) (And.intro (cell_below hHeld.2.2.2.1 hb) (And.intro (hHeld.2.2.2.2.1.below hb) (bel_on hHeld.2.2.2.2.2 hb)))))); clear hb hHeld hn) | (try simp only [cell_drew, slot_drew, below_drew] at hHeld)); (refine hK.out _ _ ?_ (fun hHeld => ?_)); ((try dsimp only); ((try simp only [cell_drew, slot_drew, below_drew]); refine ⟨?_, ?_, ?_, ?_, ?_, ?_⟩; (first | exact hS.2.1 | with_reducible exact cell_set hHeld.1 (by omega) | with_reducible exact cell_set (cell_set hHeld.1 (by omega)) (by omega)); (first | exact hS.2.2.1 | with_reducible exact cell_set hHeld.2.1 (by omega) | with_reducible exact cell_set (cell_set hHeld.2.1 (by omega)) (by omega)); (first | exact hS.2.2.2.1 | with_reducible exact cell_set hHeld.2.2.1 (by omega) | with_reducible exact cell_set (cell_set hHeld.2.2.1 (by omega)) (by omega)); (first | exact hS.2.2.2.2.1 | with_reducible exact cell_set hHeld.2.2.2.1 (by omega) | with_reducible exact cell_set (cell_set hHeld.2.2.2.1 (by omega)) (by omega)); (first | exact hS.2.2.2.2.2.1 | with_reducible exact hHeld.2.2.2.2.1.set _ _ _ | with_reducible exact (hHeld.2.2.2.2.1.set _ _ _).set _ _ _); (first | exact hS.2.2.2.2.2.2 | with_reducible exact bel_set1 hHeld.2.2.2.2.2 (by omega) | with_reducible exact bel_set2 hHeld.2.2.2.2.2 (by omega) (by omega)))); clear hK K; (try clear hS); (try clear hfx0 hx0 x0); (try clear hfy0 hy0 y0); (try clear hfx1 hx1 x1); (try clear hfy1 hy1 y1); (try dsimp only at hHeld))))
  refine wpSched_nil ?_
  rename_i hOld
  have HRR := Lib.hid (fin_int NS.out hOld.2.2.2.2.1 (by decide) hOld.2.2.2.2.2 (by omega))
  clear hOld hHeld 
  go_wp2_with fail
  refine bodyPost_ret (v := .agg #[.bool bbR, .slice adR lenR capR]) (by simp [results, Tryz.results113, go_sem, HRR.out.2.2.1, HRR.out.2.2.2]) rfl (⟨_, rfl, HRR.out.1, HRR.out.2.1⟩)

set_option maxHeartbeats 800000 in
/-- CmpInt. -/
theorem ricmp_any (v u : Value) (x y : Int) (k j : Nat) (w : World) (h : IntB 146 w v x k) (h' : IntB 146 w u y j) (hk : k ≤ 4000000) (hj : j ≤ 4000000) :
    Calls Tryz.prog 67 #[v, u] w fun e w' => e = .returned (.int .i64 (cmpZ x y)) ∧ Below w.heap.size w w' := by
  obtain ⟨bx, ad, len, cap, rfl, hr⟩ := h.shape2
  obtain ⟨bz, ad', len', cap', rfl, hr'⟩ := h'.shape2
  have H := Lib.hid h
  have H' := Lib.hid h'
  clear h hr h' hr'
  go_enter Tryz.func67, Tryz.ntmps67
  go_wp2_with fail
  refine (risub_any _ _ x y k j _ (H.out.below (bel_alloc2 _ _ _)) (H'.out.below (bel_alloc2 _ _ _)) hk hj).mono ?_
  rintro e w1 ⟨v1, rfl, hn1, hb1⟩
  have HN1 := Lib.hid hn1
  have HB1 := Lib.hid (bel_on (bel_alloc2 _ _ _) hb1)
  clear hn1 hb1
  go_wp2_with fail
  refine (rsign_any v1 (x - y) _ _ HN1.out).mono ?_
  rintro e w2 ⟨rfl, hb2⟩
  have HB2 := Lib.hid (bel_on HB1.out hb2)
  clear hb2
  go_wp2
  go_ret
  refine ⟨ret_int ?_, HB2.out⟩
  unfold sgnZ cmpZ
  split <;> split <;> (try split) <;> (try split) <;> omega

set_option maxHeartbeats 800000 in
/-- IntText. -/
theorem ritext_any (v : Value) (z : Int) (k : Nat) (w : World) (h : IntB 146 w v z k) (hk : k ≤ 1000000) :
    Calls Tryz.prog 120 #[v] w fun e w' => e = .returned (.string (intS z)) ∧ Below w.heap.size w w' := by
  obtain ⟨ad, len, cap, rfl, hr⟩ := h.shape
  have H := Lib.hid (refB_part h)
  have hlen : (decS z.natAbs).size ≤ 10 * k + 1 := dec_len_pw h.2
  clear h hr
  by_cases h0 : z < 0
  · rw [decide_eq_true h0, intS_neg h0]
    go_enter Tryz.func120, Tryz.ntmps120
    go_wp2_with fail
    refine (rtextB _ z.natAbs k _ (H.out.below (bel_alloc _ _)) hk).mono ?_
    rintro e w1 ⟨rfl, hb⟩
    have HB := Lib.hid (bel_on (bel_alloc _ _) hb)
    clear hb
    go_wp2
    go_ret
    exact ⟨rfl, HB.out⟩
  · rw [decide_eq_false h0, intS_pos h0]
    go_enter Tryz.func120, Tryz.ntmps120
    go_wp2_with fail
    refine (rtextB _ z.natAbs k _ (H.out.below (bel_alloc _ _)) hk).mono ?_
    rintro e w1 ⟨rfl, hb⟩
    have HB := Lib.hid (bel_on (bel_alloc _ _) hb)
    clear hb
    go_wp2
    go_ret
    exact ⟨rfl, HB.out⟩

set_option maxHeartbeats 800000 in
/-- Text. -/
theorem itext_any (v : Value) (z : Int) (k : Nat) (w : World) (h : IntB 146 w v z k) (hk : k ≤ 1000000) (hT : Tabs w) :
    Calls Tryz.prog 116 #[v] w fun e w' => e = .returned (.string (intS z)) ∧ Below w.heap.size w w' := by
  obtain ⟨ad, len, cap, rfl, hr⟩ := h.shape
  have H := Lib.hid h.part.1
  have HT := Lib.hid hT
  have hlen : (decS z.natAbs).size ≤ 10 * k + 1 := dec_len_pw h.2
  clear h hr hT
  by_cases h0 : z < 0
  · rw [decide_eq_true h0, intS_neg h0]
    go_enter Tryz.func116, Tryz.ntmps116
    go_wp2_with fail
    refine (text_any _ z.natAbs k _ (H.out.below (bel_alloc _ _)) hk (HT.out.below (bel_alloc _ _))).mono ?_
    rintro e w1 ⟨rfl, hb⟩
    have HB := Lib.hid (bel_on (bel_alloc _ _) hb)
    clear hb
    go_wp2
    go_ret
    exact ⟨rfl, HB.out⟩
  · rw [decide_eq_false h0, intS_pos h0]
    go_enter Tryz.func116, Tryz.ntmps116
    go_wp2_with fail
    refine (text_any _ z.natAbs k _ (H.out.below (bel_alloc _ _)) hk (HT.out.below (bel_alloc _ _))).mono ?_
    rintro e w1 ⟨rfl, hb⟩
    have HB := Lib.hid (bel_on (bel_alloc _ _) hb)
    clear hb
    go_wp2
    go_ret
    exact ⟨rfl, HB.out⟩

end Go.Proofs.YtfohgkabmdhhaaaGreatDoor
