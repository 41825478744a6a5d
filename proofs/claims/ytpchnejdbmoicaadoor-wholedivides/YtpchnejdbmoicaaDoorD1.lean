/- Contracts of nat's takeTimes, giveBack, guessLimb. -/
import Derived.Test.YtpchnejdbmoicaaDoorW6
import Derived.Test.YtpchnejdbmoicaaDoorKnu
namespace Go.Proofs.YtpchnejdbmoicaaDoor
open Go.RowKit Cin

set_option maxRecDepth 100000 in
set_option maxHeartbeats 2000000 in
/-- takeTimes: by, q times, taken away from part, which lies in the block b. -/
theorem takeTimes_any (b off cap : Nat) (zs ps : List Nat) (v : Value) (ys : List Nat) (q : Nat) (w : World) (h : Sl 68 .u32 w v ys) (oy : Ok ys) (hB : Blk w b 68 .u32 zs) (hps : (zs.drop off).take (ys.length + 1) = ps) (oz : Ok zs)
    (hne : ∀ b' o' n' c', v = .slice (some ⟨b', o', none⟩) n' c' → b' ≠ b) (hcap : ys.length + 1 ≤ cap) (hoff : off + cap ≤ zs.length) (hq : q < 4294967296) (hn : ys.length ≤ 100000000) :
    Calls Tryd.prog 92 #[.slice (some ⟨b, off, none⟩) (ys.length + 1) cap, v, .int .u32 q] w fun e w' => ∃ (over : Bool) (os : List Nat), e = .returned (.bool over) ∧ os.length = ys.length + 1 ∧ Ok os ∧
      val os + q * val ys = val ps + (if over then pw (ys.length + 1) else 0) ∧ Blk w' b 68 .u32 (splice zs off os) ∧ Keep (· = b) w w' := by
  obtain ⟨ad, xcap, rfl, hxc, _⟩ := h.shape
  have hpl : ps.length = ys.length + 1 := by rw [← hps, List.length_take, List.length_drop]; omega
  have hpz : ∀ j, j < ys.length + 1 → lim ps j = lim zs (off + j) := fun j hj => by rw [← hps, lim_take hj, lim_drop]
  have op : Ok ps := by rw [← hps]; exact (oz.drop off).take _
  have H := Lib.hid h
  have HB := Lib.hid hB
  have HNE := Lib.hid hne
  have HPZ := Lib.hid hpz
  have HPL := Lib.hid hpl
  clear h hB hne hps hpz hpl
  generalize hln : ys.length = n at *
  have HLN := Lib.hid hln
  clear hln
  go_enter Tryd.func92, Tryd.ntmps92
  go_wp2_with fail
  go_loopw [7, 8, 9, 10, 14] (fun c _ _ _ ix wr => ∃ (k owed : Nat) (os : List Nat), k ≤ n ∧ ix = .int .i64 k ∧ c = .int .u64 owed ∧ owed ≤ q ∧ os.length = k ∧ Ok os ∧ val os + q * val (ys.take k) = val (ps.take k) + pw k * owed ∧
      Blk wr b 68 .u32 (splice zs off os) ∧ Keep (· = b) w wr) (fun _ _ _ _ ix _ => n - (intOf ix).toNat)
  case atStart => exact ⟨0, 0, [], Nat.zero_le _, rfl, rfl, Nat.zero_le _, rfl, Ok.nil, by simp [val], by rw [splice_nil]; exact HB.out, Keep.refl _ _⟩
  case round =>
    obtain ⟨k, owed, os, hk, rfl, rfl, how, hol, hok, hv, hblk, hkeep⟩ := hrel
    have hcell2 := hblk.cell (i := off + k) (by rw [splice_length (by omega)]; omega)
    have hsp : lim (splice zs off os) (off + k) = lim ps k := by
      rw [HPZ.out k (by omega)]
      unfold splice
      rw [lim_append_right (by simp; omega), lim_drop]
      congr 1
      simp; omega
    rw [hsp] at hcell2
    have hf := hblk.free (off + k)
    have hplim : lim ps k < 4294967296 := lim_lt op _
    by_cases hlt : k < n
    · obtain ⟨bx, offx, rfl, hcell, hblt⟩ := (H.out.keep hkeep (fun b' o' n' c' e => HNE.out b' o' n' c' e)).cell (i := k) (by have := HLN.out; omega)
      have hlim : lim ys k < 4294967296 := lim_lt oy _
      have hxb : q * lim ys k ≤ 4294967295 * 4294967295 := Nat.mul_le_mul (by omega) (by omega)
      obtain ⟨p, hpw, ep⟩ : ∃ p : Nat, IntKind.u64.wrap ((q : Int) * ((lim ys k : Nat) : Int)) = (p : Int) ∧ p = q * lim ys k := ⟨q * lim ys k, by
        rw [IntKind.wrap_u64, show ((q : Int) * ((lim ys k : Nat) : Int)) = ((q * lim ys k : Nat) : Int) by simp]; omega, rfl⟩
      rw [← ep] at hxb
      obtain ⟨t, ht, et⟩ : ∃ t : Nat, IntKind.u64.wrap ((owed : Int) + (p : Int)) = (t : Int) ∧ t = owed + p := ⟨_, by rw [IntKind.wrap_u64]; omega, rfl⟩
      obtain ⟨lo, hlo, elo⟩ : ∃ lo : Nat, ((t : Int) % 4294967296) = (lo : Int) ∧ lo = t % 4294967296 := ⟨t % 4294967296, by omega, rfl⟩
      obtain ⟨th, hth, eth⟩ : ∃ th : Nat, ((t : Int) / 4294967296) = (th : Int) ∧ th = t / 4294967296 := ⟨t / 4294967296, by omega, rfl⟩
      obtain ⟨bo, dw, d, hdw, hd1, hd2, hdb, ed, hbo1, hbo2, hdw2⟩ : ∃ bo dw d : Nat, IntKind.u64.wrap (((lim ps k : Nat) : Int) - (lo : Int)) = (dw : Int) ∧ ((dw : Int) % 4294967296) = (d : Int) ∧ ((dw : Int) / 9223372036854775808) = (bo : Int) ∧ d < 4294967296 ∧ lim ps k + 4294967296 * bo = d + lo ∧ bo ≤ 1 ∧ (lo = 0 → bo = 0) ∧ dw < 18446744073709551616 := by
        rcases Nat.lt_or_ge (lim ps k) lo with h1 | h1
        · exact ⟨1, 18446744073709551616 + lim ps k - lo, 4294967296 + lim ps k - lo, by rw [IntKind.wrap_u64]; omega, by omega, by omega, by omega, by omega, by omega, by omega, by omega⟩
        · exact ⟨0, lim ps k - lo, lim ps k - lo, by rw [IntKind.wrap_u64]; omega, by omega, by omega, by omega, by omega, by omega, by omega, by omega⟩
      have R := take_step hol hok hv how hlim (by rw [et, ep]) elo ed hdb hbo1 hbo2
      rw [← eth] at R
      have hb2 := hblk.set (off + k) d
      rw [← hol, splice_set (by omega), hol] at hb2
      have HR := Lib.hid R
      have HB2 := Lib.hid hb2
      have HK2 := Lib.hid (hkeep.setCell (a := ⟨b, off + k, none⟩) rfl (.int .u32 (d : Nat)))
      have hthb : th < 4294967296 := by omega
      have htb : t < 18446744073709551616 := by omega
      have hlob : lo < 4294967296 := by omega
      have hkn : (k : Int) < (n : Int) + 1 := by omega
      clear R hb2 hv hblk hkeep hol hsp et ep elo eth ed hxb hok
      go_wp2_with fail
      obtain ⟨r1, r2, r3, r4⟩ := HR.out
      exact ⟨⟨k + 1, th + bo, os ++ [d], by omega, by go_num, by simp, r4, r1, r2, r3, HB2.out, HK2.out⟩, by simp [intOf]; omega⟩
    · obtain rfl : k = n := by omega
      have howb : owed < 4294967296 := by omega
      have hyt : ys.take k = ys := List.take_of_length_le (by have := HLN.out; omega)
      rw [hyt] at hv
      have hpt : val ps = val (ps.take k) + pw k * lim ps k := by
        have h1 := val_take_succ (xs := ps) (i := k) (by have := HPL.out; omega)
        rwa [List.take_of_length_le (by have := HPL.out; omega)] at h1
      rcases Nat.lt_or_ge (lim ps k) owed with h1 | h1
      · obtain ⟨dw, hdw, hdwb⟩ : ∃ dw : Nat, IntKind.u64.wrap (((lim ps k : Nat) : Int) - (owed : Int)) = (dw : Int) ∧ dw = 18446744073709551616 + lim ps k - owed := ⟨_, by rw [IntKind.wrap_u64]; omega, rfl⟩
        obtain ⟨d, hd, hdd⟩ : ∃ d : Nat, ((dw : Int) % 4294967296) = (d : Int) ∧ d = 4294967296 + lim ps k - owed := ⟨4294967296 + lim ps k - owed, by omega, rfl⟩
        have hsh : ((dw : Int) / 9223372036854775808) = 1 := by omega
        have hb2 := hblk.set (off + k) d
        rw [← hol, splice_set (by omega), hol] at hb2
        have HB2 := Lib.hid hb2
        have HK2 := Lib.hid (hkeep.setCell (a := ⟨b, off + k, none⟩) rfl (.int .u32 (d : Nat)))
        have HR := Lib.hid (show (os ++ [d]).length = k + 1 ∧ Ok (os ++ [d]) ∧ val (os ++ [d]) + q * val ys = val ps + pw (k + 1) from by
          refine ⟨by rw [List.length_append, hol]; rfl, hok.append (Ok.cons (by omega) Ok.nil), ?_⟩
          rw [val_snoc, hol, hpt, pw_succ]
          have e1 : pw k * d + pw k * owed = pw k * lim ps k + 4294967296 * pw k := by rw [← Nat.mul_add, show d + owed = lim ps k + 4294967296 by omega, Nat.mul_add, Nat.mul_comm (pw k) 4294967296]
          omega)
        have hdwb' : dw < 18446744073709551616 := by omega
        have hkn : (k : Int) < (k : Int) + 1 := by omega
        clear hb2 hv hblk hkeep hol hsp hok hdwb hdd hpt hyt
        go_wp2_with fail
        go_ret
        obtain ⟨r1, r2, r3⟩ := HR.out
        exact ⟨true, os ++ [d], rfl, r1, r2, by rw [if_pos rfl]; exact r3, HB2.out, HK2.out⟩
      · obtain ⟨d, hdw, hdd⟩ : ∃ d : Nat, IntKind.u64.wrap (((lim ps k : Nat) : Int) - (owed : Int)) = (d : Int) ∧ d = lim ps k - owed := ⟨_, by rw [IntKind.wrap_u64]; omega, rfl⟩
        have hdb : d < 4294967296 := by omega
        have hsh : ((d : Int) / 9223372036854775808) = 0 := by omega
        have hb2 := hblk.set (off + k) d
        rw [← hol, splice_set (by omega), hol] at hb2
        have HB2 := Lib.hid hb2
        have HK2 := Lib.hid (hkeep.setCell (a := ⟨b, off + k, none⟩) rfl (.int .u32 (d : Nat)))
        have HR := Lib.hid (show (os ++ [d]).length = k + 1 ∧ Ok (os ++ [d]) ∧ val (os ++ [d]) + q * val ys = val ps + 0 from by
          refine ⟨by rw [List.length_append, hol]; rfl, hok.append (Ok.cons (by omega) Ok.nil), ?_⟩
          rw [val_snoc, hol, hpt]
          have e1 : pw k * d + pw k * owed = pw k * lim ps k := by rw [← Nat.mul_add, show d + owed = lim ps k by omega]
          omega)
        have hkn : (k : Int) < (k : Int) + 1 := by omega
        clear hb2 hv hblk hkeep hol hsp hok hdd hpt hyt
        go_wp2_with fail
        go_ret
        obtain ⟨r1, r2, r3⟩ := HR.out
        exact ⟨false, os ++ [d], rfl, r1, r2, by rw [if_neg (by simp)]; exact r3, HB2.out, HK2.out⟩

/-- One word of adding. -/
theorem give_step {ps os ys : List Nat} {k c t : Nat} (hol : os.length = k) (hok : Ok os) (hv : val os + pw k * c = val (ps.take k) + val (ys.take k)) (et : t = c + (lim ps k + lim ys k)) :
    (os ++ [t % 4294967296]).length = k + 1 ∧ Ok (os ++ [t % 4294967296]) ∧ val (os ++ [t % 4294967296]) + pw (k + 1) * (t / 4294967296) = val (ps.take (k + 1)) + val (ys.take (k + 1)) := by
  refine ⟨by rw [List.length_append, hol]; rfl, hok.append (Ok.cons (Nat.mod_lt _ (by decide)) Ok.nil), ?_⟩
  rw [val_snoc, hol, val_take_step, val_take_step ys, pw_succ]
  have e1 : pw k * t = pw k * (t % 4294967296) + 4294967296 * pw k * (t / 4294967296) := by
    rw [Nat.mul_comm 4294967296 (pw k), Nat.mul_assoc, ← Nat.mul_add]; congr 1; omega
  have e2 : pw k * t = pw k * c + pw k * lim ps k + pw k * lim ys k := by rw [et, Nat.mul_add, Nat.mul_add]; omega
  omega

set_option maxRecDepth 100000 in
set_option maxHeartbeats 2000000 in
/-- giveBack: by added to part, which lies in the block b; what goes beyond it is lost. -/
theorem giveBack_any (b off cap : Nat) (zs ps : List Nat) (v : Value) (ys : List Nat) (w : World) (h : Sl 68 .u32 w v ys) (oy : Ok ys) (hB : Blk w b 68 .u32 zs) (hps : (zs.drop off).take (ys.length + 1) = ps) (oz : Ok zs)
    (hne : ∀ b' o' n' c', v = .slice (some ⟨b', o', none⟩) n' c' → b' ≠ b) (hcap : ys.length + 1 ≤ cap) (hoff : off + cap ≤ zs.length) (hn : ys.length ≤ 100000000) :
    Calls Tryd.prog 93 #[.slice (some ⟨b, off, none⟩) (ys.length + 1) cap, v] w fun e w' => e = .returned (.tuple #[]) ∧ ∃ (os : List Nat) (c : Nat), os.length = ys.length + 1 ∧ Ok os ∧
      val os + pw (ys.length + 1) * c = val ps + val ys ∧ Blk w' b 68 .u32 (splice zs off os) ∧ Keep (· = b) w w' := by
  obtain ⟨ad, xcap, rfl, hxc, _⟩ := h.shape
  have hpl : ps.length = ys.length + 1 := by rw [← hps, List.length_take, List.length_drop]; omega
  have hpz : ∀ j, j < ys.length + 1 → lim ps j = lim zs (off + j) := fun j hj => by rw [← hps, lim_take hj, lim_drop]
  have op : Ok ps := by rw [← hps]; exact (oz.drop off).take _
  have H := Lib.hid h
  have HB := Lib.hid hB
  have HNE := Lib.hid hne
  have HPZ := Lib.hid hpz
  have HPL := Lib.hid hpl
  clear h hB hne hps hpz hpl
  generalize hln : ys.length = n at *
  have HLN := Lib.hid hln
  clear hln
  go_enter Tryd.func93, Tryd.ntmps93
  go_wp2_with fail
  go_loopw [4, 5, 6, 9] (fun c _ _ ix wr => ∃ (k q : Nat) (os : List Nat), k ≤ n ∧ ix = .int .i64 k ∧ c = .int .u64 q ∧ q ≤ 1 ∧ os.length = k ∧ Ok os ∧ val os + pw k * q = val (ps.take k) + val (ys.take k) ∧
      Blk wr b 68 .u32 (splice zs off os) ∧ Keep (· = b) w wr) (fun _ _ _ ix _ => n - (intOf ix).toNat)
  case atStart => exact ⟨0, 0, [], Nat.zero_le _, rfl, rfl, Nat.zero_le _, rfl, Ok.nil, by simp [val], by rw [splice_nil]; exact HB.out, Keep.refl _ _⟩
  case round =>
    obtain ⟨k, q, os, hk, rfl, rfl, hq, hol, hok, hv, hblk, hkeep⟩ := hrel
    have hcell2 := hblk.cell (i := off + k) (by rw [splice_length (by omega)]; omega)
    have hsp : lim (splice zs off os) (off + k) = lim ps k := by
      rw [HPZ.out k (by omega)]
      unfold splice
      rw [lim_append_right (by simp; omega), lim_drop]
      congr 1
      simp; omega
    rw [hsp] at hcell2
    have hf := hblk.free (off + k)
    have hplim : lim ps k < 4294967296 := lim_lt op _
    by_cases hlt : k < n
    · obtain ⟨bx, offx, rfl, hcell, hblt⟩ := (H.out.keep hkeep (fun b' o' n' c' e => HNE.out b' o' n' c' e)).cell (i := k) (by have := HLN.out; omega)
      have hlim : lim ys k < 4294967296 := lim_lt oy _
      obtain ⟨t, ht, et⟩ : ∃ t : Nat, (q : Int) + (((lim ps k : Nat) : Int) + ((lim ys k : Nat) : Int)) = (t : Int) ∧ t = q + (lim ps k + lim ys k) := ⟨_, by omega, rfl⟩
      have R := give_step hol hok hv et
      obtain ⟨d, hd, edd⟩ : ∃ d : Nat, ((t : Int) % 4294967296) = (d : Int) ∧ d = t % 4294967296 := ⟨t % 4294967296, by omega, rfl⟩
      obtain ⟨th, hth, eth⟩ : ∃ th : Nat, ((t : Int) / 4294967296) = (th : Int) ∧ th = t / 4294967296 := ⟨t / 4294967296, by omega, rfl⟩
      rw [← edd, ← eth] at R
      have hb2 := hblk.set (off + k) d
      rw [← hol, splice_set (by omega), hol] at hb2
      have HR := Lib.hid R
      have HB2 := Lib.hid hb2
      have HK2 := Lib.hid (hkeep.setCell (a := ⟨b, off + k, none⟩) rfl (.int .u32 (d : Nat)))
      have hth1 : th ≤ 1 := by omega
      have htb : t < 18446744073709551616 := by omega
      have hkn : (k : Int) < (n : Int) + 1 := by omega
      clear R hb2 hv hblk hkeep hol hsp et edd eth hok
      go_wp2_with fail
      obtain ⟨r1, r2, r3⟩ := HR.out
      exact ⟨⟨k + 1, th, os ++ [d], by omega, by go_num, rfl, hth1, r1, r2, r3, HB2.out, HK2.out⟩, by simp [intOf]; omega⟩
    · obtain rfl : k = n := by omega
      have hyt : ys.take k = ys := List.take_of_length_le (by have := HLN.out; omega)
      have hpt : val ps = val (ps.take k) + pw k * lim ps k := by
        have h1 := val_take_succ (xs := ps) (i := k) (by have := HPL.out; omega)
        rwa [List.take_of_length_le (by have := HPL.out; omega)] at h1
      rw [hyt] at hv
      obtain ⟨d, hd, edd⟩ : ∃ d : Nat, IntKind.u32.wrap (((lim ps k : Nat) : Int) + (q : Int)) = (d : Int) ∧ d = (lim ps k + q) % 4294967296 := ⟨_, by rw [IntKind.wrap_u32]; omega, rfl⟩
      have hb2 := hblk.set (off + k) d
      rw [← hol, splice_set (by omega), hol] at hb2
      have HB2 := Lib.hid hb2
      have HK2 := Lib.hid (hkeep.setCell (a := ⟨b, off + k, none⟩) rfl (.int .u32 (d : Nat)))
      have HR := Lib.hid (show (os ++ [d]).length = k + 1 ∧ Ok (os ++ [d]) ∧ val (os ++ [d]) + pw (k + 1) * ((lim ps k + q) / 4294967296) = val ps + val ys from by
        refine ⟨by rw [List.length_append, hol]; rfl, hok.append (Ok.cons (by omega) Ok.nil), ?_⟩
        rw [val_snoc, hol, hpt, pw_succ]
        have e1 : pw k * d + 4294967296 * pw k * ((lim ps k + q) / 4294967296) = pw k * (lim ps k + q) := by
          rw [Nat.mul_comm 4294967296 (pw k), Nat.mul_assoc, ← Nat.mul_add]; congr 1; omega
        rw [Nat.mul_add] at e1
        omega)
      have hkn : (k : Int) < (k : Int) + 1 := by omega
      clear hb2 hv hblk hkeep hol hsp hok edd hpt hyt
      go_wp2_with fail
      go_end0
      obtain ⟨r1, r2, r3⟩ := HR.out
      exact ⟨rfl, os ++ [d], _, r1, r2, r3, HB2.out, HK2.out⟩

end Go.Proofs.YtpchnejdbmoicaaDoor
