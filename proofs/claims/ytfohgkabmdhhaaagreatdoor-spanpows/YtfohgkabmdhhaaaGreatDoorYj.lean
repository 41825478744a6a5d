/- Contracts of nat's takeTimes, giveBack, guessLimb. -/
import Derived.Test.YtfohgkabmdhhaaaGreatDoorYg
import Derived.Test.YtfohgkabmdhhaaaGreatDoorYi
import Derived.BigGuard
import Derived.Test.YtfohgkabmdhhaaaGreatDoorYf
namespace Go.Proofs.YtfohgkabmdhhaaaGreatDoor
open Go.RowKit Cin
set_option maxRecDepth 100000 in
set_option maxHeartbeats 2000000 in
theorem takeTimes_any (b off cap : Nat) (zs ps : List Nat) (v : Value) (ys : List Nat) (q : Nat) (w : World) (h : Sl 146 .u32 w v ys) (oy : Ok ys) (hB : Blk w b 146 .u32 zs) (hps : (zs.drop off).take (ys.length + 1) = ps) (oz : Ok zs)
    (hne : ∀ b' o' n' c', v = .slice (some ⟨b', o', none⟩) n' c' → b' ≠ b) (hcap : ys.length + 1 ≤ cap) (hoff : off + cap ≤ zs.length) (hq : q < 4294967296) (hn : ys.length ≤ 100000000) :
    Calls Tryz.prog 193 #[.slice (some ⟨b, off, none⟩) (ys.length + 1) cap, v, .int .u32 q] w fun e w' => ∃ (over : Bool) (os : List Nat), e = .returned (.bool over) ∧ os.length = ys.length + 1 ∧ Ok os ∧
      val os + q * val ys = val ps + (if over then pw (ys.length + 1) else 0) ∧ Blk w' b 146 .u32 (splice zs off os) ∧ Keep (· = b) w w' := by
  obtain ⟨ad, xcap, rfl, hxc, _⟩ := h.shape
  have hpl : ps.length = ys.length + 1 := by rw [← hps, List.length_take, List.length_drop]; omega
  have hpz : ∀ j, j < ys.length + 1 → lim ps j = lim zs (off + j) := fun j hj => by rw [← hps, lim_take hj, lim_drop]
  have op : Ok ps := by rw [← hps]; exact (oz.drop off).take _
  have H := Lib.hid h
  have HB := Lib.hid hB
  have HNE := Lib.hid hne
  have HPZ := Lib.hid hpz
  have HPL := Lib.hid hpl
  clear h hB hne hps hpz hpl
  generalize hln : ys.length = n at *
  have HLN := Lib.hid hln
  clear hln
  go_enter Tryz.func193, Tryz.ntmps193
  go_wp2_with fail
  go_loopw [7, 8, 9, 10, 14] (fun c _ _ _ ix wr => ∃ (k owed : Nat) (os : List Nat), k ≤ n ∧ ix = .int .i64 k ∧ c = .int .u64 owed ∧ owed ≤ q ∧ os.length = k ∧ Ok os ∧ val os + q * val (ys.take k) = val (ps.take k) + pw k * owed ∧
      Blk wr b 146 .u32 (splice zs off os) ∧ Keep (· = b) w wr) (fun _ _ _ _ ix _ => n - (intOf ix).toNat)
  case atStart => exact ⟨0, 0, [], Nat.zero_le _, rfl, rfl, Nat.zero_le _, rfl, Ok.nil, by simp [val], by rw [splice_nil]; exact HB.out, Keep.refl _ _⟩
  case round =>
    obtain ⟨k, owed, os, hk, rfl, rfl, how, hol, hok, hv, hblk, hkeep⟩ := hrel
    have hcell2 := hblk.cell (i := off + k) (by rw [splice_length (by omega)]; omega)
    have hsp : lim (splice zs off os) (off + k) = lim ps k := by
      rw [HPZ.out k (by omega)]
      unfold splice
      rw [lim_append_right (by simp; omega), lim_drop]
      congr 1
      simp; omega
    rw [hsp] at hcell2
    have hf := hblk.free (off + k)
    have hplim : lim ps k < 4294967296 := lim_lt op _
    by_cases hlt : k < n
    · obtain ⟨bx, offx, rfl, hcell, hblt⟩ := (H.out.keep hkeep (fun b' o' n' c' e => HNE.out b' o' n' c' e)).cell (i := k) (by have := HLN.out; omega)
      have hlim : lim ys k < 4294967296 := lim_lt oy _
      have hxb : q * lim ys k ≤ 4294967295 * 4294967295 := Nat.mul_le_mul (by omega) (by omega)
      obtain ⟨p, hpw, ep⟩ : ∃ p : Nat, IntKind.u64.wrap ((q : Int) * ((lim ys k : Nat) : Int)) = (p : Int) ∧ p = q * lim ys k := ⟨q * lim ys k, by
        rw [IntKind.wrap_u64, show ((q : Int) * ((lim ys k : Nat) : Int)) = ((q * lim ys k : Nat) : Int) by simp]; omega, rfl⟩
      rw [← ep] at hxb
      obtain ⟨t, ht, et⟩ : ∃ t : Nat, IntKind.u64.wrap ((owed : Int) + (p : Int)) = (t : Int) ∧ t = owed + p := ⟨_, by rw [IntKind.wrap_u64]; omega, rfl⟩
      obtain ⟨lo, hlo, elo⟩ : ∃ lo : Nat, ((t : Int) % 4294967296) = (lo : Int) ∧ lo = t % 4294967296 := ⟨t % 4294967296, by omega, rfl⟩
      obtain ⟨th, hth, eth⟩ : ∃ th : Nat, ((t : Int) / 4294967296) = (th : Int) ∧ th = t / 4294967296 := ⟨t / 4294967296, by omega, rfl⟩
      obtain ⟨bo, dw, d, hdw, hd1, hd2, hdb, ed, hbo1, hbo2, hdw2⟩ : ∃ bo dw d : Nat, IntKind.u64.wrap (((lim ps k : Nat) : Int) - (lo : Int)) = (dw : Int) ∧ ((dw : Int) % 4294967296) = (d : Int) ∧ ((dw : Int) / 9223372036854775808) = (bo : Int) ∧ d < 4294967296 ∧ lim ps k + 4294967296 * bo = d + lo ∧ bo ≤ 1 ∧ (lo = 0 → bo = 0) ∧ dw < 18446744073709551616 := by
        rcases Nat.lt_or_ge (lim ps k) lo with h1 | h1
        · exact ⟨1, 18446744073709551616 + lim ps k - lo, 4294967296 + lim ps k - lo, by rw [IntKind.wrap_u64]; omega, by omega, by omega, by omega, by omega, by omega, by omega, by omega⟩
        · exact ⟨0, lim ps k - lo, lim ps k - lo, by rw [IntKind.wrap_u64]; omega, by omega, by omega, by omega, by omega, by omega, by omega, by omega⟩
      have R := take_step hol hok hv how hlim (by rw [et, ep]) elo ed hdb hbo1 hbo2
      rw [← eth] at R
      have hb2 := hblk.set (off + k) d
      rw [← hol, splice_set (by omega), hol] at hb2
      have HR := Lib.hid R
      have HB2 := Lib.hid hb2
      have HK2 := Lib.hid (hkeep.setCell (a := ⟨b, off + k, none⟩) rfl (.int .u32 (d : Nat)))
      have hthb : th < 4294967296 := by omega
      have htb : t < 18446744073709551616 := by omega
      have hlob : lo < 4294967296 := by omega
      have hkn : (k : Int) < (n : Int) + 1 := by omega
      clear R hb2 hv hblk hkeep hol hsp et ep elo eth ed hxb hok
      go_wp2_with fail
      obtain ⟨r1, r2, r3, r4⟩ := HR.out
      exact ⟨⟨k + 1, th + bo, os ++ [d], by omega, by go_num, by simp, r4, r1, r2, r3, HB2.out, HK2.out⟩, by simp [intOf]; omega⟩
    · obtain rfl : k = n := by omega
      have howb : owed < 4294967296 := by omega
      have hyt : ys.take k = ys := List.take_of_length_le (by have := HLN.out; omega)
      rw [hyt] at hv
      have hpt : val ps = val (ps.take k) + pw k * lim ps k := by
        have h1 := val_take_succ (xs := ps) (i := k) (by have := HPL.out; omega)
        rwa [List.take_of_length_le (by have := HPL.out; omega)] at h1
      rcases Nat.lt_or_ge (lim ps k) owed with h1 | h1
      · obtain ⟨dw, hdw, hdwb⟩ : ∃ dw : Nat, IntKind.u64.wrap (((lim ps k : Nat) : Int) - (owed : Int)) = (dw : Int) ∧ dw = 18446744073709551616 + lim ps k - owed := ⟨_, by rw [IntKind.wrap_u64]; omega, rfl⟩
        obtain ⟨d, hd, hdd⟩ : ∃ d : Nat, ((dw : Int) % 4294967296) = (d : Int) ∧ d = 4294967296 + lim ps k - owed := ⟨4294967296 + lim ps k - owed, by omega, rfl⟩
        have hsh : ((dw : Int) / 9223372036854775808) = 1 := by omega
        have hb2 := hblk.set (off + k) d
        rw [← hol, splice_set (by omega), hol] at hb2
        have HB2 := Lib.hid hb2
        have HK2 := Lib.hid (hkeep.setCell (a := ⟨b, off + k, none⟩) rfl (.int .u32 (d : Nat)))
        have HR := Lib.hid (show (os ++ [d]).length = k + 1 ∧ Ok (os ++ [d]) ∧ val (os ++ [d]) + q * val ys = val ps + pw (k + 1) from by
          refine ⟨by rw [List.length_append, hol]; rfl, hok.append (Ok.cons (by omega) Ok.nil), ?_⟩
          rw [val_snoc, hol, hpt, pw_succ]
          have e1 : pw k * d + pw k * owed = pw k * lim ps k + 4294967296 * pw k := by rw [← Nat.mul_add, show d + owed = lim ps k + 4294967296 by omega, Nat.mul_add, Nat.mul_comm (pw k) 4294967296]
          omega)
        have hdwb' : dw < 18446744073709551616 := by omega
        have hkn : (k : Int) < (k : Int) + 1 := by omega
        clear hb2 hv hblk hkeep hol hsp hok hdwb hdd hpt hyt
        go_wp2_with fail
        go_ret
        obtain ⟨r1, r2, r3⟩ := HR.out
        exact ⟨true, os ++ [d], rfl, r1, r2, by rw [if_pos rfl]; exact r3, HB2.out, HK2.out⟩
      · obtain ⟨d, hdw, hdd⟩ : ∃ d : Nat, IntKind.u64.wrap (((lim ps k : Nat) : Int) - (owed : Int)) = (d : Int) ∧ d = lim ps k - owed := ⟨_, by rw [IntKind.wrap_u64]; omega, rfl⟩
        have hdb : d < 4294967296 := by omega
        have hsh : ((d : Int) / 9223372036854775808) = 0 := by omega
        have hb2 := hblk.set (off + k) d
        rw [← hol, splice_set (by omega), hol] at hb2
        have HB2 := Lib.hid hb2
        have HK2 := Lib.hid (hkeep.setCell (a := ⟨b, off + k, none⟩) rfl (.int .u32 (d : Nat)))
        have HR := Lib.hid (show (os ++ [d]).length = k + 1 ∧ Ok (os ++ [d]) ∧ val (os ++ [d]) + q * val ys = val ps + 0 from by
          refine ⟨by rw [List.length_append, hol]; rfl, hok.append (Ok.cons (by omega) Ok.nil), ?_⟩
          rw [val_snoc, hol, hpt]
          have e1 : pw k * d + pw k * owed = pw k * lim ps k := by rw [← Nat.mul_add, show d + owed = lim ps k by omega]
          omega)
        have hkn : (k : Int) < (k : Int) + 1 := by omega
        clear hb2 hv hblk hkeep hol hsp hok hdd hpt hyt
        go_wp2_with fail
        go_ret
        obtain ⟨r1, r2, r3⟩ := HR.out
        exact ⟨false, os ++ [d], rfl, r1, r2, by rw [if_neg (by simp)]; exact r3, HB2.out, HK2.out⟩
theorem give_step {ps os ys : List Nat} {k c t : Nat} (hol : os.length = k) (hok : Ok os) (hv : val os + pw k * c = val (ps.take k) + val (ys.take k)) (et : t = c + (lim ps k + lim ys k)) :
    (os ++ [t % 4294967296]).length = k + 1 ∧ Ok (os ++ [t % 4294967296]) ∧ val (os ++ [t % 4294967296]) + pw (k + 1) * (t / 4294967296) = val (ps.take (k + 1)) + val (ys.take (k + 1)) := by
  refine ⟨by rw [List.length_append, hol]; rfl, hok.append (Ok.cons (Nat.mod_lt _ (by decide)) Ok.nil), ?_⟩
  rw [val_snoc, hol, val_take_step, val_take_step ys, pw_succ]
  have e1 : pw k * t = pw k * (t % 4294967296) + 4294967296 * pw k * (t / 4294967296) := by
    rw [Nat.mul_comm 4294967296 (pw k), Nat.mul_assoc, ← Nat.mul_add]; congr 1; omega
  have e2 : pw k * t = pw k * c + pw k * lim ps k + pw k * lim ys k := by rw [et, Nat.mul_add, Nat.mul_add]; omega
  omega
set_option maxRecDepth 100000 in
set_option maxHeartbeats 2000000 in
theorem giveBack_any (b off cap : Nat) (zs ps : List Nat) (v : Value) (ys : List Nat) (w : World) (h : Sl 146 .u32 w v ys) (oy : Ok ys) (hB : Blk w b 146 .u32 zs) (hps : (zs.drop off).take (ys.length + 1) = ps) (oz : Ok zs)
    (hne : ∀ b' o' n' c', v = .slice (some ⟨b', o', none⟩) n' c' → b' ≠ b) (hcap : ys.length + 1 ≤ cap) (hoff : off + cap ≤ zs.length) (hn : ys.length ≤ 100000000) :
    Calls Tryz.prog 194 #[.slice (some ⟨b, off, none⟩) (ys.length + 1) cap, v] w fun e w' => e = .returned (.tuple #[]) ∧ ∃ (os : List Nat) (c : Nat), os.length = ys.length + 1 ∧ Ok os ∧
      val os + pw (ys.length + 1) * c = val ps + val ys ∧ Blk w' b 146 .u32 (splice zs off os) ∧ Keep (· = b) w w' := by
  obtain ⟨ad, xcap, rfl, hxc, _⟩ := h.shape
  have hpl : ps.length = ys.length + 1 := by rw [← hps, List.length_take, List.length_drop]; omega
  have hpz : ∀ j, j < ys.length + 1 → lim ps j = lim zs (off + j) := fun j hj => by rw [← hps, lim_take hj, lim_drop]
  have op : Ok ps := by rw [← hps]; exact (oz.drop off).take _
  have H := Lib.hid h
  have HB := Lib.hid hB
  have HNE := Lib.hid hne
  have HPZ := Lib.hid hpz
  have HPL := Lib.hid hpl
  clear h hB hne hps hpz hpl
  generalize hln : ys.length = n at *
  have HLN := Lib.hid hln
  clear hln
  go_enter Tryz.func194, Tryz.ntmps194
  go_wp2_with fail
  go_loopw [4, 5, 6, 9] (fun c _ _ ix wr => ∃ (k q : Nat) (os : List Nat), k ≤ n ∧ ix = .int .i64 k ∧ c = .int .u64 q ∧ q ≤ 1 ∧ os.length = k ∧ Ok os ∧ val os + pw k * q = val (ps.take k) + val (ys.take k) ∧
      Blk wr b 146 .u32 (splice zs off os) ∧ Keep (· = b) w wr) (fun _ _ _ ix _ => n - (intOf ix).toNat)
  case atStart => exact ⟨0, 0, [], Nat.zero_le _, rfl, rfl, Nat.zero_le _, rfl, Ok.nil, by simp [val], by rw [splice_nil]; exact HB.out, Keep.refl _ _⟩
  case round =>
    obtain ⟨k, q, os, hk, rfl, rfl, hq, hol, hok, hv, hblk, hkeep⟩ := hrel
    have hcell2 := hblk.cell (i := off + k) (by rw [splice_length (by omega)]; omega)
    have hsp : lim (splice zs off os) (off + k) = lim ps k := by
      rw [HPZ.out k (by omega)]
      unfold splice
      rw [lim_append_right (by simp; omega), lim_drop]
      congr 1
      simp; omega
    rw [hsp] at hcell2
    have hf := hblk.free (off + k)
    have hplim : lim ps k < 4294967296 := lim_lt op _
    by_cases hlt : k < n
    · obtain ⟨bx, offx, rfl, hcell, hblt⟩ := (H.out.keep hkeep (fun b' o' n' c' e => HNE.out b' o' n' c' e)).cell (i := k) (by have := HLN.out; omega)
      have hlim : lim ys k < 4294967296 := lim_lt oy _
      obtain ⟨t, ht, et⟩ : ∃ t : Nat, (q : Int) + (((lim ps k : Nat) : Int) + ((lim ys k : Nat) : Int)) = (t : Int) ∧ t = q + (lim ps k + lim ys k) := ⟨_, by omega, rfl⟩
      have R := give_step hol hok hv et
      obtain ⟨d, hd, edd⟩ : ∃ d : Nat, ((t : Int) % 4294967296) = (d : Int) ∧ d = t % 4294967296 := ⟨t % 4294967296, by omega, rfl⟩
      obtain ⟨th, hth, eth⟩ : ∃ th : Nat, ((t : Int) / 4294967296) = (th : Int) ∧ th = t / 4294967296 := ⟨t / 4294967296, by omega, rfl⟩
      rw [← edd, ← eth] at R
      have hb2 := hblk.set (off + k) d
      rw [← hol, splice_set (by omega), hol] at hb2
      have HR := Lib.hid R
      have HB2 := Lib.hid hb2
      have HK2 := Lib.hid (hkeep.setCell (a := ⟨b, off + k, none⟩) rfl (.int .u32 (d : Nat)))
      have hth1 : th ≤ 1 := by omega
      have htb : t < 18446744073709551616 := by omega
      have hkn : (k : Int) < (n : Int) + 1 := by omega
      clear R hb2 hv hblk hkeep hol hsp et edd eth hok
      go_wp2_with fail
      obtain ⟨r1, r2, r3⟩ := HR.out
      exact ⟨⟨k + 1, th, os ++ [d], by omega, by go_num, rfl, hth1, r1, r2, r3, HB2.out, HK2.out⟩, by simp [intOf]; omega⟩
    · obtain rfl : k = n := by omega
      have hyt : ys.take k = ys := List.take_of_length_le (by have := HLN.out; omega)
      have hpt : val ps = val (ps.take k) + pw k * lim ps k := by
        have h1 := val_take_succ (xs := ps) (i := k) (by have := HPL.out; omega)
        rwa [List.take_of_length_le (by have := HPL.out; omega)] at h1
      rw [hyt] at hv
      obtain ⟨d, hd, edd⟩ : ∃ d : Nat, IntKind.u32.wrap (((lim ps k : Nat) : Int) + (q : Int)) = (d : Int) ∧ d = (lim ps k + q) % 4294967296 := ⟨_, by rw [IntKind.wrap_u32]; omega, rfl⟩
      have hb2 := hblk.set (off + k) d
      rw [← hol, splice_set (by omega), hol] at hb2
      have HB2 := Lib.hid hb2
      have HK2 := Lib.hid (hkeep.setCell (a := ⟨b, off + k, none⟩) rfl (.int .u32 (d : Nat)))
      have HR := Lib.hid (show (os ++ [d]).length = k + 1 ∧ Ok (os ++ [d]) ∧ val (os ++ [d]) + pw (k + 1) * ((lim ps k + q) / 4294967296) = val ps + val ys from by
        refine ⟨by rw [List.length_append, hol]; rfl, hok.append (Ok.cons (by omega) Ok.nil), ?_⟩
        rw [val_snoc, hol, hpt, pw_succ]
        have e1 : pw k * d + 4294967296 * pw k * ((lim ps k + q) / 4294967296) = pw k * (lim ps k + q) := by
          rw [Nat.mul_comm 4294967296 (pw k), Nat.mul_assoc, ← Nat.mul_add]; congr 1; omega
        rw [Nat.mul_add] at e1
        omega)
      have hkn : (k : Int) < (k : Int) + 1 := by omega
      clear hb2 hv hblk hkeep hol hsp hok edd hpt hyt
      go_wp2_with fail
      go_end0
      obtain ⟨r1, r2, r3⟩ := HR.out
      exact ⟨rfl, os ++ [d], _, r1, r2, r3, HB2.out, HK2.out⟩
end Go.Proofs.YtfohgkabmdhhaaaGreatDoor

namespace Go.Proofs.YtfohgkabmdhhaaaGreatDoor
open Go.RowKit Cin
def GuessPost (ps ys : List Nat) (w : World) (e : Ending) (w' : World) : Prop := ∃ (q nq : Nat), e = .returned (.int .u32 q) ∧ q < 4294967296 ∧ val ps / val ys ≤ q ∧ q * val ys ≤ val ps + val ys ∧ w' = w.drewN nq
def GuessRel (ps ys : List Nat) (m : Nat) (qx lx : Value) : Prop := ∃ q left : Nat, qx = .int .u64 q ∧ lx = .int .u64 left ∧ q < 18446744073709551616 ∧ left < 4294967296 ∧ Guess ps ys m q left
set_option maxRecDepth 100000 in
set_option maxHeartbeats 4000000 in
theorem guessLimb_any (v u : Value) (ps ys : List Nat) (m : Nat) (w : World) (h : Sl 146 .u32 w v ps) (h' : Sl 146 .u32 w u ys) (op : Ok ps) (oy : Ok ys) (hp : ps.length = m + 3) (hy : ys.length = m + 2) (hm : m ≤ 100000000)
    (hhi : 1 ≤ lim ys (m + 1)) (hlt : val ps < 4294967296 * val ys) :
    Calls Tryz.prog 192 #[v, u] w (GuessPost ps ys w) := by
  obtain ⟨ad, cap, rfl, hc, _⟩ := h.shape
  obtain ⟨ad', cap', rfl, hc', _⟩ := h'.shape
  have hy0 : 0 < val ys := by
    obtain ⟨r, _, e⟩ := val_top2 oy hy
    have h1 := pw_pos m
    have : pw m * 1 ≤ pw m * (lim ys m + 4294967296 * lim ys (m + 1)) := Nat.mul_le_mul_left _ (by omega)
    omega
  have HF := Lib.hid (Guess.first op oy hp hy hhi)
  have HST := Lib.hid (fun q left (hg : Guess ps ys m q left) => Guess.step op oy hp hy hy0 hg hlt)
  have HDN := Lib.hid (fun q left (hg : Guess ps ys m q left) => Guess.done op oy hp hy hhi hg hlt)
  obtain ⟨b, off, rfl, hp0, _⟩ := h.cell (i := m) (by omega)
  obtain ⟨_, _, e1, hp1, _⟩ := h.cell (i := m + 1) (by omega)
  cases e1
  obtain ⟨_, _, e2, hp2, _⟩ := h.cell (i := m + 2) (by omega)
  cases e2
  obtain ⟨b', off', rfl, hy1, _⟩ := h'.cell (i := m) (by omega)
  obtain ⟨_, _, e3, hy2, _⟩ := h'.cell (i := m + 1) (by omega)
  cases e3
  have b0 := lim_lt op m
  have b1 := lim_lt op (m + 1)
  have b2 := lim_lt op (m + 2)
  have c0 := lim_lt oy m
  have c1 := lim_lt oy (m + 1)
  rw [hp, hy]
  clear h h' hp hy hlt hy0 hc hc'
  generalize lim ps m = p0 at *
  generalize lim ps (m + 1) = p1 at *
  generalize lim ps (m + 2) = p2 at *
  generalize lim ys m = next at *
  generalize lim ys (m + 1) = high at *
  have i1 : ((m + 2 : Nat) : Int) - 1 = ((m + 1 : Nat) : Int) := by omega
  have i2 : ((m + 2 : Nat) : Int) - 2 = (m : Int) := by omega
  obtain ⟨hd, ehd⟩ : ∃ hd : Nat, hd = p1 + 4294967296 * p2 := ⟨_, rfl⟩
  have hor : bits BinOp.or IntKind.u64 ((p2 : Int) * 4294967296) (p1 : Int) = (hd : Int) := by
    have := or_u64 (x := p2) (y := p1) (s := 32) (by omega) (by omega) (by omega)
    rw [ehd]; simp at this ⊢; omega
  have hdb : hd < 18446744073709551616 := by omega
  rw [← ehd] at HF
  have hqle := Nat.div_le_self hd high
  have hlr := Nat.mod_lt hd hhi
  obtain ⟨q0, hq0, eq0⟩ : ∃ q0 : Nat, IntKind.u64.wrap ((hd : Int) / (high : Int)) = (q0 : Int) ∧ q0 = hd / high := ⟨hd / high, by
    rw [← Int.natCast_ediv, IntKind.wrap_u64]; generalize hd / high = z at *; omega, rfl⟩
  obtain ⟨l0, hl0, el0⟩ : ∃ l0 : Nat, (hd : Int).tmod (high : Int) = (l0 : Int) ∧ l0 = hd % high := ⟨hd % high, rfl, rfl⟩
  rw [← eq0, ← el0] at HF
  have hq0b : q0 < 18446744073709551616 := by omega
  have hl0b : l0 < 4294967296 := by omega
  have hhb : ((high : Int) == 0) = false := beq_eq_false_iff_ne.2 (by omega)
  clear ehd eq0 el0 hqle hlr
  go_enter Tryz.func192, Tryz.ntmps192
  go_wp2_with fail
  go_big_region
  go_wp2_with fail
  go_big_region
  go_wp2_with fail
  go_big_region
  go_wp2_with fail
  clear hor hq0 hl0 hp1 hp2 hy1 hy2
  go_loop [9, 10] (fun qx lx => GuessRel ps ys m qx lx) (fun qx _ => (intOf qx).toNat)
  case atStart => exact ⟨q0, l0, rfl, rfl, hq0b, hl0b, HF.out⟩
  case round =>
    obtain ⟨q, left, rfl, rfl, hqb, hlb, hg⟩ := hrel
    have HG := Lib.hid hg
    clear hg
    by_cases hge : 4294967296 ≤ q
    · have ht1 : ((q : Int) / 4294967296 == 0) = false := by rw [beq_eq_false_iff_ne]; omega
      obtain ⟨hq1, hg1⟩ := HST.out q left HG.out (.inl hge)
      obtain ⟨q1, eq1⟩ : ∃ q1 : Nat, q - 1 = q1 := ⟨_, rfl⟩
      rw [eq1] at hg1
      obtain ⟨l1, el1, hl1⟩ : ∃ l1 : Nat, (left : Int) + (high : Int) = (l1 : Int) ∧ left + high = l1 := ⟨_, by omega, rfl⟩
      rw [hl1] at hg1
      have HG1 := Lib.hid hg1
      have eq2 : (q : Int) - 1 = (q1 : Int) := by omega
      have hq1q : q1 < q := by omega
      have hl1b : l1 < 8589934592 := by omega
      clear hg1 hl1 HG eq1
      by_cases hbr : l1 < 4294967296
      · have hb1 : ((l1 : Int) / 4294967296 == 0) = true := by rw [beq_iff_eq]; omega
        go_wp2_with fail
        exact ⟨⟨q1, l1, by first | rfl | (congr 1; omega), rfl, by omega, hbr, HG1.out⟩, by simp [intOf]; omega⟩
      · have hb1 : ((l1 : Int) / 4294967296 == 0) = false := by rw [beq_eq_false_iff_ne]; omega
        obtain ⟨d1, d2, d3⟩ := HDN.out q1 l1 HG1.out (.inl (by omega))
        have HD2 := Lib.hid d2
        have HD3 := Lib.hid d3
        clear d2 d3
        go_wp2_with fail
        go_ret
        exact ⟨q1, 3, rfl, d1, HD2.out, HD3.out, rfl⟩
    · have ht1 : ((q : Int) / 4294967296 == 0) = true := by rw [beq_iff_eq]; omega
      have hqn : q * next ≤ 4294967295 * 4294967295 := Nat.mul_le_mul (by omega) (by omega)
      obtain ⟨qn, eqn, hqn1⟩ : ∃ qn : Nat, IntKind.u64.wrap ((q : Int) * (next : Int)) = (qn : Int) ∧ q * next = qn := ⟨_, by
        rw [IntKind.wrap_u64, show ((q : Int) * (next : Int)) = ((q * next : Nat) : Int) by simp]; omega, rfl⟩
      obtain ⟨lp, hlp⟩ : ∃ lp : Nat, left * 4294967296 + p0 = lp := ⟨_, rfl⟩
      have hor : bits BinOp.or IntKind.u64 ((left : Int) * 4294967296) (p0 : Int) = (lp : Int) := by
        have := or_u64 (x := left) (y := p0) (s := 32) (by omega) (by omega) (by omega)
        rw [← hlp]; simp at this ⊢; omega
      by_cases htt : lp < qn
      · have ht2 : decide ((lp : Int) < (qn : Int)) = true := by rw [decide_eq_true_iff]; omega
        have HW := Lib.hid (show left * 4294967296 + p0 < q * next by rw [hlp, hqn1]; exact htt)
        clear hlp hqn1 hqn
        obtain ⟨hq1, hg1⟩ := HST.out q left HG.out (.inr HW.out)
        obtain ⟨q1, eq1⟩ : ∃ q1 : Nat, q - 1 = q1 := ⟨_, rfl⟩
        rw [eq1] at hg1
        obtain ⟨l1, el1, hl1⟩ : ∃ l1 : Nat, (left : Int) + (high : Int) = (l1 : Int) ∧ left + high = l1 := ⟨_, by omega, rfl⟩
        rw [hl1] at hg1
        have HG1 := Lib.hid hg1
        have eq2 : (q : Int) - 1 = (q1 : Int) := by omega
        have hq1q : q1 < q := by omega
        have hl1b : l1 < 8589934592 := by omega
        clear hg1 hl1 HG eq1
        by_cases hbr : l1 < 4294967296
        · have hb1 : ((l1 : Int) / 4294967296 == 0) = true := by rw [beq_iff_eq]; omega
          go_wp2_with fail
          exact ⟨⟨q1, l1, by first | rfl | (congr 1; omega), rfl, by omega, hbr, HG1.out⟩, by simp [intOf]; omega⟩
        · have hb1 : ((l1 : Int) / 4294967296 == 0) = false := by rw [beq_eq_false_iff_ne]; omega
          obtain ⟨d1, d2, d3⟩ := HDN.out q1 l1 HG1.out (.inl (by omega))
          have HD2 := Lib.hid d2
          have HD3 := Lib.hid d3
          clear d2 d3
          go_wp2_with fail
          go_ret
          exact ⟨q1, 3, rfl, d1, HD2.out, HD3.out, rfl⟩
      · have ht2 : decide ((lp : Int) < (qn : Int)) = false := by rw [decide_eq_false_iff_not]; omega
        obtain ⟨d1, d2, d3⟩ := HDN.out q left HG.out (.inr ⟨by omega, by rw [hlp, hqn1]; omega⟩)
        have HD2 := Lib.hid d2
        have HD3 := Lib.hid d3
        clear d2 d3 hlp hqn1 hqn
        go_wp2_with fail
        go_ret
        exact ⟨q, 3, rfl, d1, HD2.out, HD3.out, rfl⟩
end Go.Proofs.YtfohgkabmdhhaaaGreatDoor

namespace Cin
theorem take_exact {p D q o : Nat} (hD : 0 < D) (hQ : p / D ≤ q) (ho : o + q * D = p) : q = p / D ∧ o = p % D := by
  have h1 : q ≤ p / D := by rw [Nat.le_div_iff_mul_le hD]; omega
  have h2 : q = p / D := Nat.le_antisymm h1 hQ
  refine ⟨h2, ?_⟩
  have := Nat.div_add_mod p D
  rw [h2, Nat.mul_comm] at ho
  omega
theorem take_back {p D q o o2 c W : Nat} (hD : 0 < D) (hW : D ≤ W) (hq : q * D ≤ p + D) (ho : o + q * D = p + W) (hob : o < W) (ho2 : o2 + W * c = o + D) (ho2b : o2 < W) : 1 ≤ q ∧ q - 1 = p / D ∧ o2 = p % D := by
  have h1 : p < q * D := by omega
  have h2 : 1 ≤ q := by
    rcases Nat.eq_zero_or_pos q with e | e
    · subst e; omega
    · exact e
  obtain ⟨r, rfl⟩ : ∃ r, q = r + 1 := ⟨q - 1, by omega⟩
  rw [Nat.add_mul, Nat.one_mul] at hq ho h1
  have h3 : r = p / D := by
    refine Nat.le_antisymm (by rw [Nat.le_div_iff_mul_le hD]; omega) ?_
    have : p / D < r + 1 := by rw [Nat.div_lt_iff_lt_mul hD, Nat.add_mul, Nat.one_mul]; exact h1
    omega
  have hm := Nat.div_add_mod p D
  have hml := Nat.mod_lt p hD
  rw [← h3, Nat.mul_comm] at hm
  refine ⟨h2, by rw [Nat.add_sub_cancel]; exact h3, ?_⟩
  have hc : c = 1 := by
    rcases Nat.lt_or_ge c 1 with h | h
    · obtain rfl : c = 0 := by omega
      omega
    · rcases Nat.lt_or_ge 1 c with h' | h'
      · have : W * 2 ≤ W * c := Nat.mul_le_mul_left _ h'
        omega
      · omega
  subst hc
  omega
theorem drop_drop_take {ls : List Nat} {i n : Nat} (h : i + n ≤ ls.length) : val (ls.drop i) = val ((ls.drop i).take n) + pw n * val (ls.drop (i + n)) := by
  rw [val_split (ls.drop i) n (by rw [List.length_drop]; omega), List.drop_drop]
theorem long_step {ls os ros ps : List Nat} {i n la X D Q : Nat} (hl : ls.length = la + 1) (hi : i + n + 1 ≤ la + 1) (hps : (ls.drop i).take (n + 1) = ps) (ok : Ok ls) (hlt : val (ls.drop (i + 1)) < D) (hD : D < pw n)
    (hv : val ls + D * (pw (i + 1) * val (os.drop (i + 1))) = X) (hio : i < os.length) :
    val ps < 4294967296 * D ∧ (ros.length = n + 1 → val ros = val ps % D → Q = val ps / D → (splice ls i ros).length = la + 1 ∧ val (splice ls i ros) + D * (pw i * val ((os.set i Q).drop i)) = X ∧ val ((splice ls i ros).drop i) < D) := by
  have hz : val (ls.drop (i + (n + 1))) = 0 := by
    have h1 := drop_drop_take (ls := ls) (i := i + 1) (n := n) (by omega)
    rcases Nat.eq_zero_or_pos (val (ls.drop (i + 1 + n))) with h2 | h2
    · rw [show i + (n + 1) = i + 1 + n by omega]; exact h2
    · have : pw n * 1 ≤ pw n * val (ls.drop (i + 1 + n)) := Nat.mul_le_mul_left _ h2
      omega
  have hpv : val (ls.drop i) = val ps := by
    have h1 := drop_drop_take (ls := ls) (i := i) (n := n + 1) (by omega)
    rw [hz, Nat.mul_zero, Nat.add_zero, hps] at h1
    exact h1
  have hlim := lim_lt ok i
  have hstep := val_drop_step ls i
  refine ⟨by omega, fun hr hrv hQ => ?_⟩
  have hsl : (splice ls i ros).length = la + 1 := by rw [splice_length (by omega), hl]
  have hsd : (splice ls i ros).drop i = ros ++ ls.drop (i + (n + 1)) := by
    unfold splice
    rw [List.append_assoc, List.drop_left' (by rw [List.length_take]; omega), hr]
  have hst : (splice ls i ros).take i = ls.take i := by
    unfold splice
    rw [List.append_assoc, List.take_left' (by rw [List.length_take]; omega)]
  have hsv : val ((splice ls i ros).drop i) = val ros := by rw [hsd, val_append, hz, Nat.mul_zero, Nat.add_zero]
  have hD0 : 0 < D := by omega
  refine ⟨hsl, ?_, by rw [hsv, hrv]; exact Nat.mod_lt _ hD0⟩
  have e1 := val_split (splice ls i ros) i (by omega)
  have e2 := val_split ls i (by omega)
  rw [hst, hsv, hrv] at e1
  rw [hpv] at e2
  have e3 : val ((os.set i Q).drop i) = Q + 4294967296 * val (os.drop (i + 1)) := by
    rw [val_drop_step, lim_set_same hio, List.drop_set_of_lt (by omega)]
  have hm := Nat.div_add_mod (val ps) D
  rw [← hQ] at hm
  have e4 : pw i * val ps = D * (pw i * Q) + pw i * (val ps % D) := by
    conv => lhs; rw [← hm]
    rw [Nat.mul_add, Nat.mul_left_comm]
  have e5 : D * (pw i * val ((os.set i Q).drop i)) = D * (pw i * Q) + D * (pw (i + 1) * val (os.drop (i + 1))) := by
    rw [e3, Nat.mul_add, Nat.mul_add, pw_succ, Nat.mul_comm 4294967296 (pw i), Nat.mul_assoc (pw i)]
  omega
theorem long_end {x y s L O : Nat} (hy : 0 < y) (h : L + y * 2 ^ s * O = x * 2 ^ s) (hl : L < y * 2 ^ s) : O = x / y ∧ L / 2 ^ s = x % y := by
  have hp : 0 < 2 ^ s := Nat.pow_pos (by decide)
  have hD : 0 < y * 2 ^ s := Nat.mul_pos hy hp
  have h1 : O = x * 2 ^ s / (y * 2 ^ s) := by rw [← h, Nat.add_mul_div_left _ _ hD, Nat.div_eq_of_lt hl, Nat.zero_add]
  have h2 : L = x * 2 ^ s % (y * 2 ^ s) := by rw [← h, Nat.add_mul_mod_self_left, Nat.mod_eq_of_lt hl]
  rw [Nat.mul_div_mul_right _ _ hp] at h1
  rw [Nat.mul_mod_mul_right] at h2
  exact ⟨h1, by rw [h2, Nat.mul_div_cancel _ hp]⟩
theorem long_begin {ls ds : List Nat} {n la s x : Nat} (hl : ls.length = la + 1) (hd : ds.length = n) (hn : 1 ≤ n) (hla : n ≤ la) (ok : Ok ls) (hv : val ls = x * 2 ^ s) (hx : x < pw la) (hhi : 2 ^ s ≤ lim ds (n - 1)) : val (ls.drop (la - n + 1)) < val ds := by
  have h0 : 0 < 2 ^ s := Nat.pow_pos (by decide)
  have h1 : lim ls la < 2 ^ s := by
    have e := val_split ls la (by omega)
    have e2 := val_drop_step ls la
    rw [List.drop_of_length_le (show ls.length ≤ la + 1 by omega), val_nil, Nat.mul_zero, Nat.add_zero] at e2
    rw [e2] at e
    have h2 : pw la * lim ls la < pw la * 2 ^ s := by
      have : x * 2 ^ s < pw la * 2 ^ s := Nat.mul_lt_mul_of_pos_right hx h0
      omega
    exact Nat.lt_of_mul_lt_mul_left h2
  refine val_lt_of_top (i := n - 1) (ok.drop _) (by rw [List.length_drop]; omega) (by rw [List.length_drop]; omega) (fun j h2 h3 => ?_) ?_
  · rw [List.length_drop] at h3; omega
  · rw [lim_drop, show la - n + 1 + (n - 1) = la by omega]; omega
theorem shift_fit {ys : List Nat} {m s : Nat} (hl : ys.length = m + 1) (oy : Ok ys) (h2 : lim ys m * 2 ^ s < 2 ^ 32) (hs : s ≤ 32) : val ys * 2 ^ s < pw (m + 1) := by
  have h0 : 0 < 2 ^ s := Nat.pow_pos (by decide)
  have hr := val_lt (oy.take m)
  rw [List.length_take, Nat.min_eq_left (by omega)] at hr
  have hv := val_take_succ (xs := ys) (i := m) (by omega)
  rw [List.take_of_length_le (by omega)] at hv
  have e32 : (2 : Nat) ^ 32 = 2 ^ (32 - s) * 2 ^ s := by rw [← Nat.pow_add]; congr 1; omega
  rw [e32] at h2
  have h3 : lim ys m + 1 ≤ 2 ^ (32 - s) := Nat.lt_of_mul_lt_mul_right h2
  have h4 : val ys < pw m * (lim ys m + 1) := by rw [Nat.mul_add, Nat.mul_one]; omega
  have h5 : val ys * 2 ^ s < pw m * (lim ys m + 1) * 2 ^ s := Nat.mul_lt_mul_of_pos_right h4 h0
  have h6 : pw m * (lim ys m + 1) * 2 ^ s ≤ pw m * (2 ^ (32 - s) * 2 ^ s) := by
    rw [Nat.mul_assoc]; exact Nat.mul_le_mul_left _ (Nat.mul_le_mul_right _ h3)
  rw [← e32] at h6
  have h7 : pw (m + 1) = pw m * 2 ^ 32 := by rw [pw, pw, Nat.pow_succ]
  omega
theorem val_top {ys : List Nat} {m : Nat} (hl : ys.length = m + 1) : val ys = val (ys.take m) + pw m * lim ys m := by
  have h1 := val_take_succ (xs := ys) (i := m) (by omega)
  rwa [List.take_of_length_le (by omega)] at h1
theorem shift_big {ys : List Nat} {m s : Nat} (hl : ys.length = m + 1) (_ : Ok ys) (h1 : 2 ^ 31 ≤ lim ys m * 2 ^ s) : pw m * 2 ^ 31 ≤ val ys * 2 ^ s := by
  rw [val_top hl, Nat.add_mul, Nat.mul_assoc]
  have := Nat.mul_le_mul_left (pw m) h1
  omega
theorem lim_top_zero {ds : List Nat} {n : Nat} (hl : ds.length = n + 1) (_ : Ok ds) (h : val ds < pw n) : lim ds n = 0 := by
  rcases Nat.eq_zero_or_pos (lim ds n) with h0 | h0
  · exact h0
  · have h1 := val_top hl
    have : pw n * 1 ≤ pw n * lim ds n := Nat.mul_le_mul_left _ h0
    omega
theorem lim_top_big {ds : List Nat} {m : Nat} (hl : ds.length = m + 1) (od : Ok ds) (h : pw m * 2 ^ 31 ≤ val ds) : 2 ^ 31 ≤ lim ds m := by
  have hr := val_lt (od.take m)
  rw [List.length_take, Nat.min_eq_left (by omega)] at hr
  have h1 := val_top hl
  have h2 : pw m * 2 ^ 31 < pw m * (lim ds m + 1) := by rw [Nat.mul_add]; omega
  have := Nat.lt_of_mul_lt_mul_left h2
  omega
theorem splice_again {ls rs rs2 : List Nat} {i : Nat} (h : rs2.length = rs.length) (hi : i + rs.length ≤ ls.length) : splice (splice ls i rs) i rs2 = splice ls i rs2 := by
  have e1 : (splice ls i rs).take i = ls.take i := by
    unfold splice
    rw [List.append_assoc, List.take_left' (by rw [List.length_take]; omega)]
  have e2 : (splice ls i rs).drop (i + rs.length) = ls.drop (i + rs.length) := by
    unfold splice
    rw [List.drop_left' (by rw [List.length_append, List.length_take]; omega)]
  rw [splice, e1, h, e2, splice, h]
theorem splice_whole {ls rs : List Nat} (h : rs.length = ls.length) : splice ls 0 rs = rs := by
  unfold splice
  rw [List.take_zero, List.nil_append, List.drop_of_length_le (by omega), List.append_nil]
theorem val_take_small {rs : List Nat} {n : Nat} (hn : n ≤ rs.length) (h : val rs < pw n) : val (rs.take n) = val rs := by
  have h1 := val_split rs n hn
  rcases Nat.eq_zero_or_pos (val (rs.drop n)) with h2 | h2
  · rw [h2, Nat.mul_zero, Nat.add_zero] at h1; exact h1.symm
  · have : pw n * 1 ≤ pw n * val (rs.drop n) := Nat.mul_le_mul_left _ h2
    omega
end Cin

namespace Go.Proofs.YtfohgkabmdhhaaaGreatDoor
open Go.RowKit Cin
theorem step_times {xs zs : List Nat} {k q by_ more t td tm : Nat} (hl : zs.length = xs.length) (hok : Ok zs) (hv : val (zs.take k) + pw k * q = val (xs.take k) * by_ + more) (hun : ∀ j, k ≤ j → lim zs j = lim xs j) (hk : k < xs.length)
    (et : t = q + lim xs k * by_) (etd : td = t / 4294967296) (etm : tm = t % 4294967296) (hq : q < 4294967296) (hx : lim xs k < 4294967296) (hb : by_ < 4294967296) :
    td < 4294967296 ∧ (zs.set k tm).length = xs.length ∧ Ok (zs.set k tm) ∧ val ((zs.set k tm).take (k + 1)) + pw (k + 1) * td = val (xs.take (k + 1)) * by_ + more ∧ ∀ j, k + 1 ≤ j → lim (zs.set k tm) j = lim xs j := by
  have hxb : lim xs k * by_ ≤ 4294967295 * 4294967295 := Nat.mul_le_mul (by omega) (by omega)
  have htm : tm < 4294967296 := by omega
  refine ⟨by omega, by rw [List.length_set, hl], hok.set _ _ htm, ?_, fun j hj => by rw [lim_set_other (by omega)]; exact hun j (by omega)⟩
  rw [val_take_step, val_take_step xs, lim_set_same (by omega), List.take_set_of_le (Nat.le_refl _), pw_succ]
  have e1 : t = tm + 4294967296 * td := by omega
  have e2 : pw k * t = pw k * tm + 4294967296 * pw k * td := by rw [e1, Nat.mul_add, Nat.mul_comm 4294967296 (pw k), Nat.mul_assoc]
  have e3 : pw k * t = pw k * q + pw k * lim xs k * by_ := by rw [et, Nat.mul_add, Nat.mul_assoc]
  rw [Nat.add_mul]
  omega
set_option maxRecDepth 100000 in
set_option maxHeartbeats 1000000 in
theorem times_any (v : Value) (xs : List Nat) (by_ more base : Nat) (w : World) (h : Own 146 .u32 w base v xs) (ho : Ok xs) (hb : by_ < 4294967296) (hm : more < 4294967296) (hl : xs.length ≤ 100000000) (hbase : base ≤ w.heap.size) :
    Calls Tryz.prog 175 #[v, .int .u32 by_, .int .u32 more] w fun e w' => ∃ v' zs, e = .returned v' ∧ Own 146 .u32 w' base v' zs ∧ Ok zs ∧ val zs = val xs * by_ + more ∧ zs.length ≤ xs.length + 1 ∧ Below base w w' := by
  obtain ⟨i0, hi0, hz0, hz1, hz2⟩ := info_parts info_u32
  obtain ⟨ad, cap, rfl, hcap, had⟩ := h.sl.shape
  clear had
  have H := Lib.hid h
  clear h
  generalize hln : xs.length = n at *
  have HLN := Lib.hid hln
  clear hln
  go_enter Tryz.func175, Tryz.ntmps175
  go_wp2_with fail
  go_loopw [7, 8, 9, 14] (fun c _ _ i wr => ∃ (k q : Nat) (zs : List Nat), k ≤ n ∧ i = .int .i64 k ∧ c = .int .u64 q ∧ q < 4294967296 ∧ zs.length = xs.length ∧ Ok zs ∧ val (zs.take k) + pw k * q = val (xs.take k) * by_ + more ∧
      (∀ j, k ≤ j → lim zs j = lim xs j) ∧ Own 146 .u32 wr base (.slice ad n cap) zs ∧ Below base w wr) (fun _ _ _ i _ => n - (intOf i).toNat)
  case atStart => exact ⟨0, more, xs, Nat.zero_le _, rfl, rfl, hm, rfl, ho, by rw [List.take_zero, val_nil, pw_zero]; omega, fun _ _ => rfl, H.out, Below.refl _ _⟩
  case round =>
    obtain ⟨k, q, zs, hk, rfl, rfl, hq, hzl, hok, hv, hun, hown, hbel⟩ := hrel
    have hzn : n = zs.length := by have := HLN.out; omega
    by_cases hlt : k < n
    · obtain ⟨g, rfl, hbg, hgw⟩ : ∃ g, ad = some ⟨g, 0, none⟩ ∧ base ≤ g ∧ g < wr.heap.size := by
        rcases hown.shape with ⟨_, e⟩ | ⟨g, cap', e, h1, h2, _⟩
        · subst e; simp at hzn; omega
        · cases e; exact ⟨g, rfl, h1, h2⟩
      have hcell := hown.cell hzn (i := k) hlt
      have hf := hown.free hzn k
      rw [hun k (Nat.le_refl _)] at hcell
      have hlim : lim xs k < 4294967296 := lim_lt ho _
      have hxb : lim xs k * by_ ≤ 4294967295 * 4294967295 := Nat.mul_le_mul (by omega) (by omega)
      obtain ⟨p, hpw, ep⟩ : ∃ p : Nat, IntKind.u64.wrap (((lim xs k : Nat) : Int) * ((by_ : Nat) : Int)) = (p : Int) ∧ p = lim xs k * by_ := ⟨lim xs k * by_, by
        rw [IntKind.wrap_u64, show (((lim xs k : Nat) : Int) * ((by_ : Nat) : Int)) = ((lim xs k * by_ : Nat) : Int) by simp]; omega, rfl⟩
      rw [← ep] at hxb
      obtain ⟨t, ht, et⟩ : ∃ t : Nat, IntKind.u64.wrap ((q : Int) + (p : Int)) = (t : Int) ∧ t = q + p := ⟨_, by rw [IntKind.wrap_u64]; omega, rfl⟩
      rw [ep] at et
      obtain ⟨td, htd, etd⟩ : ∃ td : Nat, ((t : Int) / 4294967296) = (td : Int) ∧ td = t / 4294967296 := ⟨t / 4294967296, by omega, rfl⟩
      obtain ⟨tm, htm, etm⟩ : ∃ tm : Nat, ((t : Int) % 4294967296) = (tm : Int) ∧ tm = t % 4294967296 := ⟨t % 4294967296, by omega, rfl⟩
      have R := step_times hzl hok hv hun (by have := HLN.out; omega) et etd etm hq hlim hb
      have HR := Lib.hid R
      have HO := Lib.hid (hown.set hzn k tm)
      have HB := Lib.hid (hbel.setCell (p := ⟨g, k, none⟩) hbg (.int .u32 (tm : Nat)))
      clear R et etd etm hxb ep hown hbel hv hun hzl hzn
      go_wp2_with fail
      obtain ⟨r1, r2, r3, r4, r5⟩ := HR.out
      exact ⟨⟨k + 1, td, zs.set k tm, by omega, by go_num, rfl, r1, r2, r3, r4, r5, HO.out, HB.out⟩, by simp [intOf]; omega⟩
    · obtain rfl : k = n := by omega
      have hval := hv
      rw [List.take_of_length_le (by omega), List.take_of_length_le (by have := HLN.out; omega)] at hval
      have HVAL := Lib.hid hval
      have HO := Lib.hid hown
      have HB := Lib.hid hbel
      have HZL := Lib.hid hzn
      have hbw : base ≤ wr.heap.size := by have := hbel.size; omega
      clear hown hbel hv hun hzl hzn hval
      by_cases h0 : q = 0
      · subst h0
        go_wp2_with fail
        go_ret
        exact ⟨_, zs, rfl, HO.out, hok, by have := HVAL.out; omega, by have := HZL.out; omega, HB.out⟩
      · have hqb : ((q : Int) != 0) = true := by simp; omega
        go_wp2_with (at_builtin; go_must (refine wpList_append_one wr rfl _ _ 25 rfl base 146 i0 .u32 4 Tryz.underlying25 hi0 hz0 hz1 hz2 _ zs (by rfl) (by exact HO.out) q (by rfl) (by have := HZL.out; omega) (by have := HZL.out; omega) hbw ?_))
        intro v' w' h1 h2
        have H1 := Lib.hid h1
        have H2 := Lib.hid h2
        clear h1 h2
        go_wp2_with fail
        go_ret
        exact ⟨_, zs ++ [q], rfl, H1.out, hok.append (Ok.cons hq Ok.nil), by rw [val_snoc, ← HZL.out]; exact HVAL.out, by rw [List.length_append, ← HZL.out]; exact Nat.le_refl _, HB.out.trans H2.out⟩
end Go.Proofs.YtfohgkabmdhhaaaGreatDoor

namespace Go.Proofs.YtfohgkabmdhhaaaGreatDoor
open Go.RowKit Cin
set_option maxRecDepth 100000 in
set_option maxHeartbeats 1000000 in
theorem groupValue_any (s : ByteArray) (w : World) (hs : s.size ≤ 9) (hd : Digs (byts s)) :
    Calls Tryz.prog 176 #[.string s] w fun e w' => e = .returned (.int .u32 (decL (byts s) : Nat)) ∧ w = w' := by
  have HD := Lib.hid hd
  clear hd
  go_enter Tryz.func176, Tryz.ntmps176
  go_wp2_with fail
  go_loop [3, 4, 7] (fun c _ i => ∃ k : Nat, k ≤ s.size ∧ i = .int .i64 k ∧ c = .int .u32 (decL ((byts s).take k) : Nat)) (fun _ _ i => s.size - (intOf i).toNat)
  case atStart => exact ⟨0, Nat.zero_le _, rfl, rfl⟩
  case round =>
    obtain ⟨k, hk, rfl, rfl⟩ := hrel
    by_cases hlt : k < s.size
    · have hb := byts_at s hlt
      have hdg := HD.out.lim (i := k) (by rw [byts_length]; exact hlt)
      have hdl : decL ((byts s).take k) < 10 ^ 8 := by
        have h1 := decL_lt (l := (byts s).take k) (fun c hc => HD.out c (List.mem_of_mem_take hc))
        refine Nat.lt_of_lt_of_le h1 (Nat.pow_le_pow_right (by decide) ?_)
        rw [List.length_take]; omega
      have hst := decL_take_succ (l := byts s) (i := k) (by rw [byts_length]; exact hlt)
      generalize decL ((byts s).take k) = d at *
      generalize lim (byts s) k = c at *
      have HST := Lib.hid hst
      obtain ⟨hc1, hc2⟩ := hdg
      have hcb : ((s[k].toNat : Nat) : Int) = (c : Int) := by rw [hb]
      have hd8 : d < 100000000 := hdl
      clear hst hdl hb
      go_wp2
      exact ⟨⟨k + 1, by omega, by go_num, congrArg (Value.int .u32) (by rw [HST.out]; omega)⟩, by simp [intOf]; omega⟩
    · go_wp2
      go_ret
      exact ⟨ret_int (by rw [List.take_of_length_le (by rw [byts_length]; omega)]), rfl⟩
def NumPost (s : ByteArray) (w : World) (e : Ending) (w' : World) : Prop := ∃ b, e = .returned (.bool b) ∧ (b = true ↔ IsNum (byts s)) ∧ w = w'
set_option maxRecDepth 100000 in
set_option maxHeartbeats 1000000 in
theorem isNumber_any (s : ByteArray) (w : World) :
    Calls Tryz.prog 174 #[.string s] w (NumPost s w) := by
  by_cases h1 : s.size < 1
  · have hno : ¬ IsNum (byts s) := fun h => by have := h.1; rw [byts_length] at this; omega
    have HNO := Lib.hid hno
    have hd : decide ((s.size : Int) < 1) = true := by rw [decide_eq_true_iff]; omega
    clear hno
    go_enter Tryz.func174, Tryz.ntmps174
    go_wp2_with fail
    go_ret
    exact ⟨false, rfl, ⟨(fun h => by cases h), fun h => absurd h HNO.out⟩, rfl⟩
  · have hd : decide ((s.size : Int) < 1) = false := by rw [decide_eq_false_iff_not]; omega
    by_cases h2 : 4000 < s.size
    · have hno : ¬ IsNum (byts s) := fun h => by have := h.2.1; rw [byts_length] at this; omega
      have HNO := Lib.hid hno
      have hd2 : decide ((4000 : Int) < (s.size : Int)) = true := by rw [decide_eq_true_iff]; omega
      clear hno
      go_enter Tryz.func174, Tryz.ntmps174
      go_wp2_with fail
      go_ret
      exact ⟨false, rfl, ⟨(fun h => by cases h), fun h => absurd h HNO.out⟩, rfl⟩
    · have hd2 : decide ((4000 : Int) < (s.size : Int)) = false := by rw [decide_eq_false_iff_not]; omega
      have h0 : 0 < s.size := by omega
      have hb0 := byts_at s h0
      by_cases h3 : lim (byts s) 0 = 48 ∧ 1 < s.size
      · have hno : ¬ IsNum (byts s) := fun h => by have := h.2.2.1; rw [byts_length] at this; omega
        have HNO := Lib.hid hno
        have hd3 : (((s[0].toNat : Nat) : Int) == 48) = true := by rw [hb0, h3.1]; rfl
        have hd4 : decide ((1 : Int) < (s.size : Int)) = true := by rw [decide_eq_true_iff]; omega
        clear hno hb0 h3
        go_enter Tryz.func174, Tryz.ntmps174
        go_wp2_with fail
        go_ret
        exact ⟨false, rfl, ⟨(fun h => by cases h), fun h => absurd h HNO.out⟩, rfl⟩
      · have H3 := Lib.hid h3
        have hcase : ((((s[0].toNat : Nat) : Int) == 48) = false) ∨ ((((s[0].toNat : Nat) : Int) == 48) = true ∧ decide ((1 : Int) < (s.size : Int)) = false) := by
          rw [hb0]
          by_cases hc : lim (byts s) 0 = 48
          · right
            exact ⟨by rw [hc]; rfl, by rw [decide_eq_false_iff_not]; omega⟩
          · left
            simp; omega
        clear hb0 h3
        rcases hcase with hd3 | ⟨hd3, hd4⟩
        all_goals
          go_enter Tryz.func174, Tryz.ntmps174
          go_wp2_with fail
          go_loop [3, 24] (fun _ i => ∃ k : Nat, k ≤ s.size ∧ i = .int .i64 k ∧ ∀ j, j < k → 48 ≤ lim (byts s) j ∧ lim (byts s) j ≤ 57) (fun _ i => s.size - (intOf i).toNat)
          case atStart => exact ⟨0, Nat.zero_le _, rfl, fun j hj => absurd hj (Nat.not_lt_zero _)⟩
          case round =>
            obtain ⟨k, hk, rfl, hj⟩ := hrel
            have HJ := Lib.hid hj
            clear hj
            by_cases hlt : k < s.size
            · have hb := byts_at s hlt
              have hcb : ((s[k].toNat : Nat) : Int) = (lim (byts s) k : Nat) := by rw [hb]
              clear hb
              generalize hcc : lim (byts s) k = c at *
              have HCC := Lib.hid hcc
              clear hcc
              by_cases hlo : c < 48
              · have hdl : decide ((c : Int) < 48) = true := by rw [decide_eq_true_iff]; omega
                go_wp2_with fail
                go_ret
                refine ⟨false, rfl, ⟨(fun h => by cases h), fun h => ?_⟩, rfl⟩
                have := h.2.2.2.lim (i := k) (by rw [byts_length]; exact hlt)
                rw [HCC.out] at this; omega
              · have hdl : decide ((c : Int) < 48) = false := by rw [decide_eq_false_iff_not]; omega
                by_cases hhi : 57 < c
                · have hdh : decide ((57 : Int) < (c : Int)) = true := by rw [decide_eq_true_iff]; omega
                  go_wp2_with fail
                  go_ret
                  refine ⟨false, rfl, ⟨(fun h => by cases h), fun h => ?_⟩, rfl⟩
                  have := h.2.2.2.lim (i := k) (by rw [byts_length]; exact hlt)
                  rw [HCC.out] at this; omega
                · have hdh : decide ((57 : Int) < (c : Int)) = false := by rw [decide_eq_false_iff_not]; omega
                  go_wp2_with fail
                  refine ⟨⟨k + 1, by omega, by go_num, fun j hj => ?_⟩, by simp [intOf]; omega⟩
                  rcases Nat.lt_or_eq_of_le (Nat.le_of_lt_succ hj) with h5 | rfl
                  · exact HJ.out j h5
                  · rw [HCC.out]; omega
            · go_wp2_with fail
              go_ret
              refine ⟨true, rfl, ⟨fun _ => ⟨by rw [byts_length]; omega, by rw [byts_length]; omega, ?_, ?_⟩, fun _ => rfl⟩, rfl⟩
              · have := H3.out; rw [byts_length]; omega
              · intro c hc
                obtain ⟨j, hj, rfl⟩ := List.mem_iff_getElem.1 hc
                rw [← lim_eq hj]
                rw [byts_length] at hj
                exact HJ.out j (by omega)
end Go.Proofs.YtfohgkabmdhhaaaGreatDoor

namespace Go.Proofs.YtfohgkabmdhhaaaGreatDoor
open Go.RowKit Cin
set_option maxRecDepth 100000 in
set_option maxHeartbeats 1000000 in
theorem parse_no (s : ByteArray) (w : World) (h : ¬ IsNum (byts s)) :
    Calls Tryz.prog 147 #[.string s] w fun e w' => e = .returned (.tuple #[.agg #[.slice none 0 0], .int .i64 2]) ∧ Below w.heap.size w w' := by
  have H := Lib.hid h
  clear h
  go_enter Tryz.func147, Tryz.ntmps147
  go_wp2_with fail
  refine (isNumber_any s _).mono ?_
  rintro e w1 ⟨b, rfl, hb, rfl⟩
  obtain rfl : b = false := by cases b with | false => rfl | true => exact absurd (hb.1 rfl) H.out
  clear hb
  go_wp2
  refine bodyPost_ret (v := .tuple #[.agg #[.slice none 0 0], .int .i64 2]) (by simp [results, Tryz.results147, go_sem]) rfl ⟨rfl, bel_alloc _ _⟩
theorem times_group (v : Value) (xs : List Nat) (more base : Nat) (w : World) (h : Own 146 .u32 w base v xs) (ho : Ok xs) (hm : more < 4294967296) (hl : xs.length ≤ 100000000) (hbase : base ≤ w.heap.size) :
    Calls Tryz.prog 175 #[v, .int .u32 1000000000, .int .u32 more] w fun e w' => ∃ v' zs, e = .returned v' ∧ Own 146 .u32 w' base v' zs ∧ Ok zs ∧ val zs = val xs * 1000000000 + more ∧ zs.length ≤ xs.length + 1 ∧ Below base w w' := by
  obtain ⟨g, hg⟩ : ∃ g : Nat, g = 1000000000 := ⟨_, rfl⟩
  have hi : (1000000000 : Int) = (g : Int) := by omega
  rw [hi, ← hg]
  exact times_any v xs g more base w h ho (by omega) hm hl hbase
def strLen : Value → Nat
  | .string s => s.size
  | _ => 0
theorem group_step {l l' : List Nat} {p n : Nat} (hl : l' = l.drop p) (hp : p < l.length) (hn : n = (l'.length - 1) % 9 + 1) (hdiv : p = 0 ∨ (l.length - p) % 9 = 0) :
    n ≤ l'.length ∧ n ≤ 9 ∧ 1 ≤ n ∧ decL (l.take (p + n)) = decL (l.take p) * 1000000000 + decL (l'.take n) ∧ l'.drop n = l.drop (p + n) ∧ (l.length - (p + n)) % 9 = 0 ∧ p + n ≤ l.length := by
  have e0 : l'.length = l.length - p := by rw [hl, List.length_drop]
  refine ⟨by omega, by omega, by omega, ?_, by rw [hl, List.drop_drop], by omega, by omega⟩
  have e1 : l.take (p + n) = l.take p ++ l'.take n := by rw [hl, List.take_add]
  rw [e1, decL_append, List.length_take]
  rcases hdiv with rfl | hd
  · simp [decL]
  · rw [show min n l'.length = 9 by omega]
set_option maxRecDepth 100000 in
set_option maxHeartbeats 1000000 in
theorem parse_yes (s : ByteArray) (w : World) (h : IsNum (byts s)) :
    Calls Tryz.prog 147 #[.string s] w fun e w' => ∃ v, e = .returned (.tuple #[v, .int .i64 0]) ∧ NatV 146 w' v (decL (byts s)) ∧ Below w.heap.size w w' := by
  obtain ⟨i0, hi0, hz0, hz1, hz2⟩ := info_parts info_u32
  have hsz : s.size ≤ 4000 := by have := h.2.1; rwa [byts_length] at this
  obtain ⟨m, hm, em⟩ : ∃ m : Nat, (s.size : Int) / 9 + 1 = (m : Int) ∧ m = s.size / 9 + 1 := ⟨_, by omega, rfl⟩
  have hmb : m ≤ 1000 := by omega
  have H := Lib.hid h
  clear h em
  go_enter Tryz.func147, Tryz.ntmps147
  go_wp2_with fail
  refine (isNumber_any s _).mono ?_
  rintro e w1 ⟨b, rfl, hb, rfl⟩
  obtain rfl : b = true := hb.2 H.out
  clear hb
  go_wp2_with (at_make; refine wpList_make_ints _ rfl _ _ 25 rfl 146 i0 .u32 Tryz.underlying25 hi0 hz0 hz1 .i64 .i64 _ _ 0 m rfl rfl (by omega) (by omega) (Nat.zero_le _) (by rw [hz2]; omega) (by omega) ?_)
  have hown : Own 146 .u32 ((w.alloc (Obj.cells #[Value.slice none 0 0] 27)).alloc (Obj.cells (ints IntKind.u32 (List.replicate m 0)) 146)) (w.heap.size + 1) (.slice (some ⟨w.heap.size + 1, 0, none⟩) 0 m) [] := by
    have := Own.made (t := 146) (k := .u32) (base := w.heap.size + 1) (w.alloc (Obj.cells #[Value.slice none 0 0] 27)) (by simp) m (by omega)
    simp only [World.size_alloc] at this
    exact this
  have hres := new_block2 w (Obj.cells #[Value.slice none 0 0] 27) (Obj.cells (ints IntKind.u32 (List.replicate m 0)) 146)
  have hbW := bel_alloc2 w (Obj.cells #[Value.slice none 0 0] 27) (Obj.cells (ints IntKind.u32 (List.replicate m 0)) 146)
  have hsW : w.heap.size + 1 < ((w.alloc (Obj.cells #[Value.slice none 0 0] 27)).alloc (Obj.cells (ints IntKind.u32 (List.replicate m 0)) 146)).heap.size := by simp
  generalize (w.alloc (Obj.cells #[Value.slice none 0 0] 27)).alloc (Obj.cells (ints IntKind.u32 (List.replicate m 0)) 146) = W at *
  have HOW := Lib.hid hown
  have HRS := Lib.hid hres
  have HBW := Lib.hid hbW
  clear hown hres hbW
  go_loopw [0, 4, 5] (fun sx lx _ wr => ∃ (p : Nat) (s' : ByteArray) (v : Value) (xs : List Nat), sx = .string s' ∧ lx = v ∧ byts s' = (byts s).drop p ∧ p ≤ s.size ∧ (p = 0 ∨ (s.size - p) % 9 = 0) ∧ Own 146 .u32 wr (w.heap.size + 1) v xs ∧ Ok xs ∧
      val xs = decL ((byts s).take p) ∧ xs.length ≤ p ∧ Below (w.heap.size + 1) W wr) (fun sx _ _ _ => strLen sx)
  case atStart => exact ⟨0, s, _, [], rfl, rfl, rfl, Nat.zero_le _, .inl rfl, HOW.out, Ok.nil, rfl, Nat.zero_le _, Below.refl _ _⟩
  case round =>
    obtain ⟨p, s', v, xs, rfl, rfl, hsb, hp, hdiv, hown, hok, hv, hxl, hbel⟩ := hrel
    have hsl : s'.size = s.size - p := by rw [← byts_length, hsb, List.length_drop, byts_length]
    by_cases hlt : p < s.size
    · obtain ⟨n, hn, en⟩ : ∃ n : Nat, ((s'.size : Int) - 1) % 9 + 1 = (n : Int) ∧ n = (s'.size - 1) % 9 + 1 := ⟨_, by omega, rfl⟩
      have G := group_step (n := n) hsb (by rw [byts_length]; exact hlt) (by rw [byts_length]; exact en) (by rw [byts_length]; exact hdiv)
      obtain ⟨g1, g2, g3, g4, g5, g6, g7⟩ := G
      rw [byts_length] at g1 g6 g7
      have hb1 : byts (s'.extract 0 n) = (byts s').take n := by rw [byts_extract, List.drop_zero, Nat.sub_zero]
      have hb2 : byts (s'.extract n s'.size) = (byts s).drop (p + n) := by rw [byts_extract, List.take_of_length_le (by rw [List.length_drop, byts_length]; omega), g5]
      have hdg : Digs (byts (s'.extract 0 n)) := by rw [hb1, hsb]; exact fun c hc => H.out.2.2.2 c (List.mem_of_mem_drop (List.mem_of_mem_take hc))
      have hz1' : (s'.extract 0 n).size ≤ 9 := by rw [← byts_length, hb1, List.length_take, byts_length]; omega
      have hz2' : (s'.extract n s'.size).size < s'.size := by rw [← byts_length, hb2, List.length_drop, byts_length]; omega
      have hgl : decL (byts (s'.extract 0 n)) < 1000000000 := by
        refine Nat.lt_of_lt_of_le (decL_lt hdg) ?_
        exact Nat.pow_le_pow_right (n := 10) (by decide) (show _ ≤ 9 by rw [byts_length]; exact hz1')
      rw [← hb1, ← hv] at g4
      have G4 := Lib.hid g4
      have HB2 := Lib.hid hb2
      have HDG := Lib.hid hdg
      have HZ1 := Lib.hid hz1'
      have HZ2 := Lib.hid hz2'
      have HGL := Lib.hid hgl
      have G6 := Lib.hid g6
      have HO := Lib.hid hown
      have HB := Lib.hid hbel
      have hbw : w.heap.size + 1 ≤ wr.heap.size := by have := hbel.size; omega
      have hs0 : 0 < s'.size := by omega
      have hs4 : s'.size ≤ 4000 := by omega
      clear g4 g5 g6 hb1 hb2 hdg hz1' hz2' hgl hown hbel hv en hsb hdiv hsl
      go_wp2_with fail
      with_reducible refine (groupValue_any _ _ HZ1.out HDG.out).mono ?_
      rintro e w2 ⟨rfl, rfl⟩
      go_wp2_with fail
      with_reducible refine (times_group _ xs (decL (byts (s'.extract 0 n))) (w.heap.size + 1) wr HO.out hok (by have := HGL.out; omega) (by omega) hbw).mono ?_
      rintro e w3 ⟨v3, zs, rfl, ho3, hok3, hv3, hl3, hb3⟩
      have HO3 := Lib.hid ho3
      have HV3 := Lib.hid hv3
      have HB3 := Lib.hid (HB.out.trans hb3)
      clear ho3 hv3 hb3
      go_wp2_with fail
      exact ⟨⟨p + n, _, v3, zs, rfl, rfl, HB2.out, g7, .inr G6.out, HO3.out, hok3, by rw [HV3.out, G4.out], by omega, HB3.out⟩, HZ2.out⟩
    · have hv2 : val xs = decL (byts s) := by rw [hv, List.take_of_length_le (by rw [byts_length]; omega)]
      have hs0 : s'.size = 0 := by omega
      have HV := Lib.hid hv2
      have HSL := Lib.hid hown.sl
      have hr := (hbel.block w.heap.size (by omega)).trans HRS.out
      have hb0 := HBW.out.trans (hbel.mono (B' := w.heap.size) (by omega))
      have HR0 := Lib.hid hr
      have HB0 := Lib.hid hb0
      have hxl2 : xs.length ≤ 1000000000000 := by omega
      have hrs : w.heap.size < wr.heap.size := by have := hbel.size; omega
      clear hv2 hv hown hbel hr hb0 hsb hdiv hsl
      go_wp2_with fail
      refine (wrap_any _ xs _ HSL.out hok hxl2).mono ?_
      rintro e w2 ⟨v', rfl, hn2, hb2⟩
      obtain ⟨ad2, len2, cap2, rfl, hr2⟩ := hn2.shape
      have hk2 := (hb2.block w.heap.size hrs).trans HR0.out
      have hc := cell_of hk2 0
      have hf := free_of hk2 0
      simp only [List.getElem?_toArray, List.getElem?_cons_zero] at hc
      have HR := Lib.hid (fin_nat (bel_on HB0.out hb2) hk2 (by decide) hr2 (Nat.le_refl _) 0)
      clear hr2 hb2 hk2 hn2
      go_wp2
      refine bodyPost_ret (v := .tuple #[.agg #[.slice ad2 len2 cap2], .int .i64 0]) (by simp [results, Tryz.results147, go_sem, World.cell?_setCell_same _ _ _ hc]) rfl ⟨_, rfl, ?_⟩
      have := HR.out
      rw [HV.out] at this
      exact this
end Go.Proofs.YtfohgkabmdhhaaaGreatDoor
