/- Long division, word by word: what a guess from the highest words is worth. No program. -/
import Derived.Test.YtfohgkabmdhhaaaGreatDoorYa
import Derived.Test.YtfohgkabmdhhaaaGreatDoorYc
import Derived.BigGuard
namespace Cin

/-- A number of m words and two more. -/
theorem val_top2 {ys : List Nat} {m : Nat} (ho : Ok ys) (hl : ys.length = m + 2) : ∃ r, r < pw m ∧ val ys = r + pw m * (lim ys m + 4294967296 * lim ys (m + 1)) := by
  refine ⟨val (ys.take m), ?_, ?_⟩
  · have := val_lt (ho.take m)
    rwa [List.length_take, Nat.min_eq_left (by omega)] at this
  · rw [val_split ys m (by omega), val_drop_step, val_drop_step ys (m + 1), List.drop_of_length_le (by omega), val_nil, Nat.mul_zero, Nat.add_zero]
/-- A number of m words and three more. -/
theorem val_top3 {ps : List Nat} {m : Nat} (ho : Ok ps) (hl : ps.length = m + 3) : ∃ r, r < pw m ∧ val ps = r + pw m * (lim ps m + 4294967296 * (lim ps (m + 1) + 4294967296 * lim ps (m + 2))) := by
  refine ⟨val (ps.take m), ?_, ?_⟩
  · have := val_lt (ho.take m)
    rwa [List.length_take, Nat.min_eq_left (by omega)] at this
  · rw [val_split ps m (by omega), val_drop_step, val_drop_step ps (m + 1), val_drop_step ps (m + 2), List.drop_of_length_le (show ps.length ≤ m + 2 + 1 by omega), val_nil]
    simp only [Nat.mul_zero, Nat.add_zero]

section
variable {M Y P ry rp q next high head p2 left y p : Nat}
/-- Too great, as the two highest words tell. -/
theorem guess_over (hy : y = ry + M * Y) (hp : p = rp + M * P) (hrp : rp < M) (hY : Y = next + 4294967296 * high) (hP : P = p2 + 4294967296 * head) (hh : q * high + left = head) (ht : left * 4294967296 + p2 < q * next) : p < q * y := by
  have h1 : P + 1 ≤ q * Y := by
    have e : q * Y = q * next + 4294967296 * (q * high) := by rw [hY, Nat.mul_add, Nat.mul_left_comm]
    rw [e, hP, ← hh]; omega
  have h2 : M * (P + 1) ≤ M * (q * Y) := Nat.mul_le_mul_left _ h1
  have h3 : q * y = q * ry + M * (q * Y) := by rw [hy, Nat.mul_add, Nat.mul_left_comm]
  rw [Nat.mul_add] at h2
  omega
/-- At most one too great, as they tell. -/
theorem guess_under (hy : y = ry + M * Y) (hp : p = rp + M * P) (hry : ry < M) (hY : Y = next + 4294967296 * high) (hhi : 1 ≤ high) (hq : q < 4294967296) (hle : q * Y ≤ P) : q * y ≤ p + y := by
  have h1 : M * (q * Y) ≤ M * P := Nat.mul_le_mul_left _ hle
  have h3 : q * y = q * ry + M * (q * Y) := by rw [hy, Nat.mul_add, Nat.mul_left_comm]
  have h4 : q * ry ≤ 4294967296 * M := Nat.mul_le_mul (by omega) (by omega)
  have h5 : M * 4294967296 ≤ M * Y := Nat.mul_le_mul_left _ (by omega)
  omega
theorem guess_le (hh : q * high + left = head) (hY : Y = next + 4294967296 * high) (hP : P = p2 + 4294967296 * head) (ht : q * next ≤ left * 4294967296 + p2) : q * Y ≤ P := by
  have e : q * Y = q * next + 4294967296 * (q * high) := by rw [hY, Nat.mul_add, Nat.mul_left_comm]
  rw [e, hP, ← hh]; omega
/-- The first guess is not too small. -/
theorem guess_first (hy : y = ry + M * Y) (hp : p = rp + M * P) (hrp : rp < M) (hY : Y = next + 4294967296 * high) (hP : P = p2 + 4294967296 * head) (hp2 : p2 < 4294967296) (hle : q * y ≤ p) : q * high ≤ head := by
  have h3 : q * y = q * ry + M * (q * Y) := by rw [hy, Nat.mul_add, Nat.mul_left_comm]
  have h4 : M * (q * Y) < M * (P + 1) := by rw [Nat.mul_add]; omega
  have h5 : q * Y < P + 1 := Nat.lt_of_mul_lt_mul_left h4
  have e : q * Y = q * next + 4294967296 * (q * high) := by rw [hY, Nat.mul_add, Nat.mul_left_comm]
  omega
/-- How great the highest words can be. -/
theorem guess_head (hy : y = ry + M * Y) (hp : p = rp + M * P) (hry : ry < M) (hY : Y = next + 4294967296 * high) (hP : P = p2 + 4294967296 * head) (hlt : p < 4294967296 * y) : head ≤ next + 4294967296 * high := by
  have h1 : M * P < M * (4294967296 * (Y + 1)) := by
    have e : M * (4294967296 * (Y + 1)) = 4294967296 * (M * Y) + 4294967296 * M := by rw [Nat.mul_left_comm, Nat.mul_add, Nat.mul_add, Nat.mul_one]
    rw [e]; omega
  have h2 : P < 4294967296 * (Y + 1) := Nat.lt_of_mul_lt_mul_left h1
  omega
end

/-- What is known of a guess in the loop: q times the highest word, and what is left, are the two highest words of what is divided; it is not too small. -/
def Guess (ps ys : List Nat) (m q left : Nat) : Prop :=
  q * lim ys (m + 1) + left = lim ps (m + 1) + 4294967296 * lim ps (m + 2) ∧ val ps / val ys ≤ q
theorem Guess.first {ps ys : List Nat} {m : Nat} (op : Ok ps) (oy : Ok ys) (hp : ps.length = m + 3) (hy : ys.length = m + 2) (hhi : 1 ≤ lim ys (m + 1)) :
    Guess ps ys m ((lim ps (m + 1) + 4294967296 * lim ps (m + 2)) / lim ys (m + 1)) ((lim ps (m + 1) + 4294967296 * lim ps (m + 2)) % lim ys (m + 1)) := by
  obtain ⟨ry, hry, ey⟩ := val_top2 oy hy
  obtain ⟨rp, hrp, ep⟩ := val_top3 op hp
  refine ⟨by rw [Nat.mul_comm]; exact Nat.div_add_mod _ _, ?_⟩
  rw [Nat.le_div_iff_mul_le (by omega)]
  exact guess_first ey ep hrp rfl rfl (lim_lt op m) (Nat.div_mul_le_self _ _)
/-- One less, where it was too great. -/
theorem Guess.step {ps ys : List Nat} {m q left : Nat} (op : Ok ps) (oy : Ok ys) (hp : ps.length = m + 3) (hy : ys.length = m + 2) (hy0 : 0 < val ys) (h : Guess ps ys m q left) (hlt : val ps < 4294967296 * val ys)
    (ht : 4294967296 ≤ q ∨ left * 4294967296 + lim ps m < q * lim ys m) : 1 ≤ q ∧ Guess ps ys m (q - 1) (left + lim ys (m + 1)) := by
  obtain ⟨ry, hry, ey⟩ := val_top2 oy hy
  obtain ⟨rp, hrp, ep⟩ := val_top3 op hp
  have hq : val ps / val ys < q := by
    rcases ht with ht | ht
    · refine Nat.lt_of_lt_of_le ?_ ht
      rw [Nat.div_lt_iff_lt_mul hy0]; exact hlt
    · rw [Nat.div_lt_iff_lt_mul hy0]
      exact guess_over ey ep hrp rfl rfl h.1 ht
  have h1 : 1 ≤ q := Nat.lt_of_le_of_lt (Nat.zero_le _) hq
  refine ⟨h1, ?_, Nat.le_sub_one_of_lt hq⟩
  have := h.1
  obtain ⟨c, rfl⟩ : ∃ c, q = c + 1 := ⟨q - 1, by omega⟩
  rw [Nat.add_sub_cancel]
  rw [Nat.add_mul] at this
  omega
/-- Where the loop ends the guess is right, or one too great. -/
theorem Guess.done {ps ys : List Nat} {m q left : Nat} (op : Ok ps) (oy : Ok ys) (hp : ps.length = m + 3) (hy : ys.length = m + 2) (hhi : 1 ≤ lim ys (m + 1)) (h : Guess ps ys m q left) (hlt : val ps < 4294967296 * val ys)
    (ht : 4294967296 ≤ left ∨ (q < 4294967296 ∧ q * lim ys m ≤ left * 4294967296 + lim ps m)) : q < 4294967296 ∧ val ps / val ys ≤ q ∧ q * val ys ≤ val ps + val ys := by
  obtain ⟨ry, hry, ey⟩ := val_top2 oy hy
  obtain ⟨rp, hrp, ep⟩ := val_top3 op hp
  have hnext := lim_lt oy m
  have hhead := guess_head ey ep hry rfl rfl hlt
  have hqb : q < 4294967296 := by
    rcases ht with ht | ht
    · rcases Nat.lt_or_ge q 4294967296 with h1 | h1
      · exact h1
      · have h2 : 4294967296 * lim ys (m + 1) ≤ q * lim ys (m + 1) := Nat.mul_le_mul_right _ h1
        have := h.1
        omega
    · exact ht.1
  refine ⟨hqb, h.2, guess_under ey ep hry rfl hhi hqb (guess_le h.1 rfl rfl ?_)⟩
  rcases ht with ht | ht
  · have h1 : q * lim ys m ≤ 4294967296 * 4294967296 := Nat.mul_le_mul (by omega) (by omega)
    have h2 : 4294967296 * 4294967296 ≤ left * 4294967296 := Nat.mul_le_mul_right _ ht
    omega
  · exact ht.2

/-- One word of taking q times a number away. -/
theorem take_step {ps os ys : List Nat} {k q owed t lo d bo : Nat} (hol : os.length = k) (hok : Ok os) (hv : val os + q * val (ys.take k) = val (ps.take k) + pw k * owed) (ho : owed ≤ q)
    (hx : lim ys k < 4294967296) (et : t = owed + q * lim ys k) (elo : lo = t % 4294967296) (ed : lim ps k + 4294967296 * bo = d + lo) (hd : d < 4294967296) (hbo : bo ≤ 1) (hbo2 : lo = 0 → bo = 0) :
    (os ++ [d]).length = k + 1 ∧ Ok (os ++ [d]) ∧ val (os ++ [d]) + q * val (ys.take (k + 1)) = val (ps.take (k + 1)) + pw (k + 1) * (t / 4294967296 + bo) ∧ t / 4294967296 + bo ≤ q := by
  have htb : t ≤ q * 4294967296 := by
    have h1 : q * lim ys k ≤ q * 4294967295 := Nat.mul_le_mul_left _ (by omega)
    omega
  refine ⟨by rw [List.length_append, hol]; rfl, hok.append (Ok.cons hd Ok.nil), ?_, ?_⟩
  · rw [val_snoc, hol, val_take_step, val_take_step ps, pw_succ, Nat.mul_add]
    have e1 : d + t = lim ps k + 4294967296 * (t / 4294967296 + bo) := by omega
    have e2 := congrArg (pw k * ·) e1
    simp only [Nat.mul_add] at e2
    have e3 : pw k * t = pw k * owed + q * (pw k * lim ys k) := by rw [et, Nat.mul_add, Nat.mul_left_comm q]
    have e4 : 4294967296 * pw k * (t / 4294967296 + bo) = pw k * (4294967296 * (t / 4294967296)) + pw k * (4294967296 * bo) := by rw [Nat.mul_add, Nat.mul_comm 4294967296 (pw k), Nat.mul_assoc, Nat.mul_assoc]
    rw [e4]
    omega
  · have h1 : t / 4294967296 ≤ q := by omega
    rcases Nat.lt_or_ge (t / 4294967296) q with h2 | h2
    · omega
    · have : lo = 0 := by omega
      rw [hbo2 this]; omega

end Cin
/- Contracts of nat's takeTimes, giveBack, guessLimb. -/
namespace Go.Proofs.YtfohgkabmdhhaaaGreatDoor
open Go.RowKit Cin

set_option maxRecDepth 100000 in
set_option maxHeartbeats 2000000 in
/-- takeTimes: by, q times, taken away from part, which lies in the block b. -/
theorem takeTimes_any (b off cap : Nat) (zs ps : List Nat) (v : Value) (ys : List Nat) (q : Nat) (w : World) (h : Sl 146 .u32 w v ys) (oy : Ok ys) (hB : Blk w b 146 .u32 zs) (hps : (zs.drop off).take (ys.length + 1) = ps) (oz : Ok zs)
    (hne : ∀ b' o' n' c', v = .slice (some ⟨b', o', none⟩) n' c' → b' ≠ b) (hcap : ys.length + 1 ≤ cap) (hoff : off + cap ≤ zs.length) (hq : q < 4294967296) (hn : ys.length ≤ 100000000) :
    Calls Tryz.prog 193 #[.slice (some ⟨b, off, none⟩) (ys.length + 1) cap, v, .int .u32 q] w fun e w' => ∃ (over : Bool) (os : List Nat), e = .returned (.bool over) ∧ os.length = ys.length + 1 ∧ Ok os ∧
      val os + q * val ys = val ps + (if over then pw (ys.length + 1) else 0) ∧ Blk w' b 146 .u32 (splice zs off os) ∧ Keep (· = b) w w' := by
  obtain ⟨ad, xcap, rfl, hxc, _⟩ := h.shape
  have hpl : ps.length = ys.length + 1 := by rw [← hps, List.length_take, List.length_drop]; omega
  have hpz : ∀ j, j < ys.length + 1 → lim ps j = lim zs (off + j) := fun j hj => by rw [← hps, lim_take hj, lim_drop]
  have op : Ok ps := by rw [← hps]; exact (oz.drop off).take _
  have H := Lib.hid h
  have HB := Lib.hid hB
  have HNE := Lib.hid hne
  have HPZ := Lib.hid hpz
  have HPL := Lib.hid hpl
  clear h hB hne hps hpz hpl
  generalize hln : ys.length = n at *
  have HLN := Lib.hid hln
  clear hln
  go_enter Tryz.func193, Tryz.ntmps193
  go_wp2_with fail
  go_loopw [7, 8, 9, 10, 14] (fun c _ _ _ ix wr => ∃ (k owed : Nat) (os : List Nat), k ≤ n ∧ ix = .int .i64 k ∧ c = .int .u64 owed ∧ owed ≤ q ∧ os.length = k ∧ Ok os ∧ val os + q * val (ys.take k) = val (ps.take k) + pw k * owed ∧
      Blk wr b 146 .u32 (splice zs off os) ∧ Keep (· = b) w wr) (fun _ _ _ _ ix _ => n - (intOf ix).toNat)
  case atStart => exact ⟨0, 0, [], Nat.zero_le _, rfl, rfl, Nat.zero_le _, rfl, Ok.nil, by simp [val], by rw [splice_nil]; exact HB.out, Keep.refl _ _⟩
  case round =>
    obtain ⟨k, owed, os, hk, rfl, rfl, how, hol, hok, hv, hblk, hkeep⟩ := hrel
    have hcell2 := hblk.cell (i := off + k) (by rw [splice_length (by omega)]; omega)
    have hsp : lim (splice zs off os) (off + k) = lim ps k := by
      rw [HPZ.out k (by omega)]
      unfold splice
      rw [lim_append_right (by simp; omega), lim_drop]
      congr 1
      simp; omega
    rw [hsp] at hcell2
    have hf := hblk.free (off + k)
    have hplim : lim ps k < 4294967296 := lim_lt op _
    by_cases hlt : k < n
    · obtain ⟨bx, offx, rfl, hcell, hblt⟩ := (H.out.keep hkeep (fun b' o' n' c' e => HNE.out b' o' n' c' e)).cell (i := k) (by have := HLN.out; omega)
      have hlim : lim ys k < 4294967296 := lim_lt oy _
      have hxb : q * lim ys k ≤ 4294967295 * 4294967295 := Nat.mul_le_mul (by omega) (by omega)
      obtain ⟨p, hpw, ep⟩ : ∃ p : Nat, IntKind.u64.wrap ((q : Int) * ((lim ys k : Nat) : Int)) = (p : Int) ∧ p = q * lim ys k := ⟨q * lim ys k, by
        rw [IntKind.wrap_u64, show ((q : Int) * ((lim ys k : Nat) : Int)) = ((q * lim ys k : Nat) : Int) by simp]; omega, rfl⟩
      rw [← ep] at hxb
      obtain ⟨t, ht, et⟩ : ∃ t : Nat, IntKind.u64.wrap ((owed : Int) + (p : Int)) = (t : Int) ∧ t = owed + p := ⟨_, by rw [IntKind.wrap_u64]; omega, rfl⟩
      obtain ⟨lo, hlo, elo⟩ : ∃ lo : Nat, ((t : Int) % 4294967296) = (lo : Int) ∧ lo = t % 4294967296 := ⟨t % 4294967296, by omega, rfl⟩
      obtain ⟨th, hth, eth⟩ : ∃ th : Nat, ((t : Int) / 4294967296) = (th : Int) ∧ th = t / 4294967296 := ⟨t / 4294967296, by omega, rfl⟩
      obtain ⟨bo, dw, d, hdw, hd1, hd2, hdb, ed, hbo1, hbo2, hdw2⟩ : ∃ bo dw d : Nat, IntKind.u64.wrap (((lim ps k : Nat) : Int) - (lo : Int)) = (dw : Int) ∧ ((dw : Int) % 4294967296) = (d : Int) ∧ ((dw : Int) / 9223372036854775808) = (bo : Int) ∧ d < 4294967296 ∧ lim ps k + 4294967296 * bo = d + lo ∧ bo ≤ 1 ∧ (lo = 0 → bo = 0) ∧ dw < 18446744073709551616 := by
        rcases Nat.lt_or_ge (lim ps k) lo with h1 | h1
        · exact ⟨1, 18446744073709551616 + lim ps k - lo, 4294967296 + lim ps k - lo, by rw [IntKind.wrap_u64]; omega, by omega, by omega, by omega, by omega, by omega, by omega, by omega⟩
        · exact ⟨0, lim ps k - lo, lim ps k - lo, by rw [IntKind.wrap_u64]; omega, by omega, by omega, by omega, by omega, by omega, by omega, by omega⟩
      have R := take_step hol hok hv how hlim (by rw [et, ep]) elo ed hdb hbo1 hbo2
      rw [← eth] at R
      have hb2 := hblk.set (off + k) d
      rw [← hol, splice_set (by omega), hol] at hb2
      have HR := Lib.hid R
      have HB2 := Lib.hid hb2
      have HK2 := Lib.hid (hkeep.setCell (a := ⟨b, off + k, none⟩) rfl (.int .u32 (d : Nat)))
      have hthb : th < 4294967296 := by omega
      have htb : t < 18446744073709551616 := by omega
      have hlob : lo < 4294967296 := by omega
      have hkn : (k : Int) < (n : Int) + 1 := by omega
      clear R hb2 hv hblk hkeep hol hsp et ep elo eth ed hxb hok
      go_wp2_with fail
      obtain ⟨r1, r2, r3, r4⟩ := HR.out
      exact ⟨⟨k + 1, th + bo, os ++ [d], by omega, by go_num, by simp, r4, r1, r2, r3, HB2.out, HK2.out⟩, by simp [intOf]; omega⟩
    · obtain rfl : k = n := by omega
      have howb : owed < 4294967296 := by omega
      have hyt : ys.take k = ys := List.take_of_length_le (by have := HLN.out; omega)
      rw [hyt] at hv
      have hpt : val ps = val (ps.take k) + pw k * lim ps k := by
        have h1 := val_take_succ (xs := ps) (i := k) (by have := HPL.out; omega)
        rwa [List.take_of_length_le (by have := HPL.out; omega)] at h1
      rcases Nat.lt_or_ge (lim ps k) owed with h1 | h1
      · obtain ⟨dw, hdw, hdwb⟩ : ∃ dw : Nat, IntKind.u64.wrap (((lim ps k : Nat) : Int) - (owed : Int)) = (dw : Int) ∧ dw = 18446744073709551616 + lim ps k - owed := ⟨_, by rw [IntKind.wrap_u64]; omega, rfl⟩
        obtain ⟨d, hd, hdd⟩ : ∃ d : Nat, ((dw : Int) % 4294967296) = (d : Int) ∧ d = 4294967296 + lim ps k - owed := ⟨4294967296 + lim ps k - owed, by omega, rfl⟩
        have hsh : ((dw : Int) / 9223372036854775808) = 1 := by omega
        have hb2 := hblk.set (off + k) d
        rw [← hol, splice_set (by omega), hol] at hb2
        have HB2 := Lib.hid hb2
        have HK2 := Lib.hid (hkeep.setCell (a := ⟨b, off + k, none⟩) rfl (.int .u32 (d : Nat)))
        have HR := Lib.hid (show (os ++ [d]).length = k + 1 ∧ Ok (os ++ [d]) ∧ val (os ++ [d]) + q * val ys = val ps + pw (k + 1) from by
          refine ⟨by rw [List.length_append, hol]; rfl, hok.append (Ok.cons (by omega) Ok.nil), ?_⟩
          rw [val_snoc, hol, hpt, pw_succ]
          have e1 : pw k * d + pw k * owed = pw k * lim ps k + 4294967296 * pw k := by rw [← Nat.mul_add, show d + owed = lim ps k + 4294967296 by omega, Nat.mul_add, Nat.mul_comm (pw k) 4294967296]
          omega)
        have hdwb' : dw < 18446744073709551616 := by omega
        have hkn : (k : Int) < (k : Int) + 1 := by omega
        clear hb2 hv hblk hkeep hol hsp hok hdwb hdd hpt hyt
        go_wp2_with fail
        go_ret
        obtain ⟨r1, r2, r3⟩ := HR.out
        exact ⟨true, os ++ [d], rfl, r1, r2, by rw [if_pos rfl]; exact r3, HB2.out, HK2.out⟩
      · obtain ⟨d, hdw, hdd⟩ : ∃ d : Nat, IntKind.u64.wrap (((lim ps k : Nat) : Int) - (owed : Int)) = (d : Int) ∧ d = lim ps k - owed := ⟨_, by rw [IntKind.wrap_u64]; omega, rfl⟩
        have hdb : d < 4294967296 := by omega
        have hsh : ((d : Int) / 9223372036854775808) = 0 := by omega
        have hb2 := hblk.set (off + k) d
        rw [← hol, splice_set (by omega), hol] at hb2
        have HB2 := Lib.hid hb2
        have HK2 := Lib.hid (hkeep.setCell (a := ⟨b, off + k, none⟩) rfl (.int .u32 (d : Nat)))
        have HR := Lib.hid (show (os ++ [d]).length = k + 1 ∧ Ok (os ++ [d]) ∧ val (os ++ [d]) + q * val ys = val ps + 0 from by
          refine ⟨by rw [List.length_append, hol]; rfl, hok.append (Ok.cons (by omega) Ok.nil), ?_⟩
          rw [val_snoc, hol, hpt]
          have e1 : pw k * d + pw k * owed = pw k * lim ps k := by rw [← Nat.mul_add, show d + owed = lim ps k by omega]
          omega)
        have hkn : (k : Int) < (k : Int) + 1 := by omega
        clear hb2 hv hblk hkeep hol hsp hok hdd hpt hyt
        go_wp2_with fail
        go_ret
        obtain ⟨r1, r2, r3⟩ := HR.out
        exact ⟨false, os ++ [d], rfl, r1, r2, by rw [if_neg (by simp)]; exact r3, HB2.out, HK2.out⟩

/-- One word of adding. -/
theorem give_step {ps os ys : List Nat} {k c t : Nat} (hol : os.length = k) (hok : Ok os) (hv : val os + pw k * c = val (ps.take k) + val (ys.take k)) (et : t = c + (lim ps k + lim ys k)) :
    (os ++ [t % 4294967296]).length = k + 1 ∧ Ok (os ++ [t % 4294967296]) ∧ val (os ++ [t % 4294967296]) + pw (k + 1) * (t / 4294967296) = val (ps.take (k + 1)) + val (ys.take (k + 1)) := by
  refine ⟨by rw [List.length_append, hol]; rfl, hok.append (Ok.cons (Nat.mod_lt _ (by decide)) Ok.nil), ?_⟩
  rw [val_snoc, hol, val_take_step, val_take_step ys, pw_succ]
  have e1 : pw k * t = pw k * (t % 4294967296) + 4294967296 * pw k * (t / 4294967296) := by
    rw [Nat.mul_comm 4294967296 (pw k), Nat.mul_assoc, ← Nat.mul_add]; congr 1; omega
  have e2 : pw k * t = pw k * c + pw k * lim ps k + pw k * lim ys k := by rw [et, Nat.mul_add, Nat.mul_add]; omega
  omega

set_option maxRecDepth 100000 in
set_option maxHeartbeats 2000000 in
/-- giveBack: by added to part, which lies in the block b; what goes beyond it is lost. -/
theorem giveBack_any (b off cap : Nat) (zs ps : List Nat) (v : Value) (ys : List Nat) (w : World) (h : Sl 146 .u32 w v ys) (oy : Ok ys) (hB : Blk w b 146 .u32 zs) (hps : (zs.drop off).take (ys.length + 1) = ps) (oz : Ok zs)
    (hne : ∀ b' o' n' c', v = .slice (some ⟨b', o', none⟩) n' c' → b' ≠ b) (hcap : ys.length + 1 ≤ cap) (hoff : off + cap ≤ zs.length) (hn : ys.length ≤ 100000000) :
    Calls Tryz.prog 194 #[.slice (some ⟨b, off, none⟩) (ys.length + 1) cap, v] w fun e w' => e = .returned (.tuple #[]) ∧ ∃ (os : List Nat) (c : Nat), os.length = ys.length + 1 ∧ Ok os ∧
      val os + pw (ys.length + 1) * c = val ps + val ys ∧ Blk w' b 146 .u32 (splice zs off os) ∧ Keep (· = b) w w' := by
  obtain ⟨ad, xcap, rfl, hxc, _⟩ := h.shape
  have hpl : ps.length = ys.length + 1 := by rw [← hps, List.length_take, List.length_drop]; omega
  have hpz : ∀ j, j < ys.length + 1 → lim ps j = lim zs (off + j) := fun j hj => by rw [← hps, lim_take hj, lim_drop]
  have op : Ok ps := by rw [← hps]; exact (oz.drop off).take _
  have H := Lib.hid h
  have HB := Lib.hid hB
  have HNE := Lib.hid hne
  have HPZ := Lib.hid hpz
  have HPL := Lib.hid hpl
  clear h hB hne hps hpz hpl
  generalize hln : ys.length = n at *
  have HLN := Lib.hid hln
  clear hln
  go_enter Tryz.func194, Tryz.ntmps194
  go_wp2_with fail
  go_loopw [4, 5, 6, 9] (fun c _ _ ix wr => ∃ (k q : Nat) (os : List Nat), k ≤ n ∧ ix = .int .i64 k ∧ c = .int .u64 q ∧ q ≤ 1 ∧ os.length = k ∧ Ok os ∧ val os + pw k * q = val (ps.take k) + val (ys.take k) ∧
      Blk wr b 146 .u32 (splice zs off os) ∧ Keep (· = b) w wr) (fun _ _ _ ix _ => n - (intOf ix).toNat)
  case atStart => exact ⟨0, 0, [], Nat.zero_le _, rfl, rfl, Nat.zero_le _, rfl, Ok.nil, by simp [val], by rw [splice_nil]; exact HB.out, Keep.refl _ _⟩
  case round =>
    obtain ⟨k, q, os, hk, rfl, rfl, hq, hol, hok, hv, hblk, hkeep⟩ := hrel
    have hcell2 := hblk.cell (i := off + k) (by rw [splice_length (by omega)]; omega)
    have hsp : lim (splice zs off os) (off + k) = lim ps k := by
      rw [HPZ.out k (by omega)]
      unfold splice
      rw [lim_append_right (by simp; omega), lim_drop]
      congr 1
      simp; omega
    rw [hsp] at hcell2
    have hf := hblk.free (off + k)
    have hplim : lim ps k < 4294967296 := lim_lt op _
    by_cases hlt : k < n
    · obtain ⟨bx, offx, rfl, hcell, hblt⟩ := (H.out.keep hkeep (fun b' o' n' c' e => HNE.out b' o' n' c' e)).cell (i := k) (by have := HLN.out; omega)
      have hlim : lim ys k < 4294967296 := lim_lt oy _
      obtain ⟨t, ht, et⟩ : ∃ t : Nat, (q : Int) + (((lim ps k : Nat) : Int) + ((lim ys k : Nat) : Int)) = (t : Int) ∧ t = q + (lim ps k + lim ys k) := ⟨_, by omega, rfl⟩
      have R := give_step hol hok hv et
      obtain ⟨d, hd, edd⟩ : ∃ d : Nat, ((t : Int) % 4294967296) = (d : Int) ∧ d = t % 4294967296 := ⟨t % 4294967296, by omega, rfl⟩
      obtain ⟨th, hth, eth⟩ : ∃ th : Nat, ((t : Int) / 4294967296) = (th : Int) ∧ th = t / 4294967296 := ⟨t / 4294967296, by omega, rfl⟩
      rw [← edd, ← eth] at R
      have hb2 := hblk.set (off + k) d
      rw [← hol, splice_set (by omega), hol] at hb2
      have HR := Lib.hid R
      have HB2 := Lib.hid hb2
      have HK2 := Lib.hid (hkeep.setCell (a := ⟨b, off + k, none⟩) rfl (.int .u32 (d : Nat)))
      have hth1 : th ≤ 1 := by omega
      have htb : t < 18446744073709551616 := by omega
      have hkn : (k : Int) < (n : Int) + 1 := by omega
      clear R hb2 hv hblk hkeep hol hsp et edd eth hok
      go_wp2_with fail
      obtain ⟨r1, r2, r3⟩ := HR.out
      exact ⟨⟨k + 1, th, os ++ [d], by omega, by go_num, rfl, hth1, r1, r2, r3, HB2.out, HK2.out⟩, by simp [intOf]; omega⟩
    · obtain rfl : k = n := by omega
      have hyt : ys.take k = ys := List.take_of_length_le (by have := HLN.out; omega)
      have hpt : val ps = val (ps.take k) + pw k * lim ps k := by
        have h1 := val_take_succ (xs := ps) (i := k) (by have := HPL.out; omega)
        rwa [List.take_of_length_le (by have := HPL.out; omega)] at h1
      rw [hyt] at hv
      obtain ⟨d, hd, edd⟩ : ∃ d : Nat, IntKind.u32.wrap (((lim ps k : Nat) : Int) + (q : Int)) = (d : Int) ∧ d = (lim ps k + q) % 4294967296 := ⟨_, by rw [IntKind.wrap_u32]; omega, rfl⟩
      have hb2 := hblk.set (off + k) d
      rw [← hol, splice_set (by omega), hol] at hb2
      have HB2 := Lib.hid hb2
      have HK2 := Lib.hid (hkeep.setCell (a := ⟨b, off + k, none⟩) rfl (.int .u32 (d : Nat)))
      have HR := Lib.hid (show (os ++ [d]).length = k + 1 ∧ Ok (os ++ [d]) ∧ val (os ++ [d]) + pw (k + 1) * ((lim ps k + q) / 4294967296) = val ps + val ys from by
        refine ⟨by rw [List.length_append, hol]; rfl, hok.append (Ok.cons (by omega) Ok.nil), ?_⟩
        rw [val_snoc, hol, hpt, pw_succ]
        have e1 : pw k * d + 4294967296 * pw k * ((lim ps k + q) / 4294967296) = pw k * (lim ps k + q) := by
          rw [Nat.mul_comm 4294967296 (pw k), Nat.mul_assoc, ← Nat.mul_add]; congr 1; omega
        rw [Nat.mul_add] at e1
        omega)
      have hkn : (k : Int) < (k : Int) + 1 := by omega
      clear hb2 hv hblk hkeep hol hsp hok edd hpt hyt
      go_wp2_with fail
      go_end0
      obtain ⟨r1, r2, r3⟩ := HR.out
      exact ⟨rfl, os ++ [d], _, r1, r2, r3, HB2.out, HK2.out⟩

end Go.Proofs.YtfohgkabmdhhaaaGreatDoor
/- The contract of nat's guessLimb. -/
namespace Go.Proofs.YtfohgkabmdhhaaaGreatDoor
open Go.RowKit Cin

def GuessPost (ps ys : List Nat) (w : World) (e : Ending) (w' : World) : Prop := ∃ (q nq : Nat), e = .returned (.int .u32 q) ∧ q < 4294967296 ∧ val ps / val ys ≤ q ∧ q * val ys ≤ val ps + val ys ∧ w' = w.drewN nq
def GuessRel (ps ys : List Nat) (m : Nat) (qx lx : Value) : Prop := ∃ q left : Nat, qx = .int .u64 q ∧ lx = .int .u64 left ∧ q < 18446744073709551616 ∧ left < 4294967296 ∧ Guess ps ys m q left

set_option maxRecDepth 100000 in
set_option maxHeartbeats 4000000 in
/-- guessLimb: how often by goes into part, or one more. -/
theorem guessLimb_any (v u : Value) (ps ys : List Nat) (m : Nat) (w : World) (h : Sl 146 .u32 w v ps) (h' : Sl 146 .u32 w u ys) (op : Ok ps) (oy : Ok ys) (hp : ps.length = m + 3) (hy : ys.length = m + 2) (hm : m ≤ 100000000)
    (hhi : 1 ≤ lim ys (m + 1)) (hlt : val ps < 4294967296 * val ys) :
    Calls Tryz.prog 192 #[v, u] w (GuessPost ps ys w) := by
  obtain ⟨ad, cap, rfl, hc, _⟩ := h.shape
  obtain ⟨ad', cap', rfl, hc', _⟩ := h'.shape
  have hy0 : 0 < val ys := by
    obtain ⟨r, _, e⟩ := val_top2 oy hy
    have h1 := pw_pos m
    have : pw m * 1 ≤ pw m * (lim ys m + 4294967296 * lim ys (m + 1)) := Nat.mul_le_mul_left _ (by omega)
    omega
  have HF := Lib.hid (Guess.first op oy hp hy hhi)
  have HST := Lib.hid (fun q left (hg : Guess ps ys m q left) => Guess.step op oy hp hy hy0 hg hlt)
  have HDN := Lib.hid (fun q left (hg : Guess ps ys m q left) => Guess.done op oy hp hy hhi hg hlt)
  obtain ⟨b, off, rfl, hp0, _⟩ := h.cell (i := m) (by omega)
  obtain ⟨_, _, e1, hp1, _⟩ := h.cell (i := m + 1) (by omega)
  cases e1
  obtain ⟨_, _, e2, hp2, _⟩ := h.cell (i := m + 2) (by omega)
  cases e2
  obtain ⟨b', off', rfl, hy1, _⟩ := h'.cell (i := m) (by omega)
  obtain ⟨_, _, e3, hy2, _⟩ := h'.cell (i := m + 1) (by omega)
  cases e3
  have b0 := lim_lt op m
  have b1 := lim_lt op (m + 1)
  have b2 := lim_lt op (m + 2)
  have c0 := lim_lt oy m
  have c1 := lim_lt oy (m + 1)
  rw [hp, hy]
  clear h h' hp hy hlt hy0 hc hc'
  generalize lim ps m = p0 at *
  generalize lim ps (m + 1) = p1 at *
  generalize lim ps (m + 2) = p2 at *
  generalize lim ys m = next at *
  generalize lim ys (m + 1) = high at *
  have i1 : ((m + 2 : Nat) : Int) - 1 = ((m + 1 : Nat) : Int) := by omega
  have i2 : ((m + 2 : Nat) : Int) - 2 = (m : Int) := by omega
  obtain ⟨hd, ehd⟩ : ∃ hd : Nat, hd = p1 + 4294967296 * p2 := ⟨_, rfl⟩
  have hor : bits BinOp.or IntKind.u64 ((p2 : Int) * 4294967296) (p1 : Int) = (hd : Int) := by
    have := or_u64 (x := p2) (y := p1) (s := 32) (by omega) (by omega) (by omega)
    rw [ehd]; simp at this ⊢; omega
  have hdb : hd < 18446744073709551616 := by omega
  rw [← ehd] at HF
  have hqle := Nat.div_le_self hd high
  have hlr := Nat.mod_lt hd hhi
  obtain ⟨q0, hq0, eq0⟩ : ∃ q0 : Nat, IntKind.u64.wrap ((hd : Int) / (high : Int)) = (q0 : Int) ∧ q0 = hd / high := ⟨hd / high, by
    rw [← Int.natCast_ediv, IntKind.wrap_u64]; generalize hd / high = z at *; omega, rfl⟩
  obtain ⟨l0, hl0, el0⟩ : ∃ l0 : Nat, (hd : Int).tmod (high : Int) = (l0 : Int) ∧ l0 = hd % high := ⟨hd % high, rfl, rfl⟩
  rw [← eq0, ← el0] at HF
  have hq0b : q0 < 18446744073709551616 := by omega
  have hl0b : l0 < 4294967296 := by omega
  have hhb : ((high : Int) == 0) = false := beq_eq_false_iff_ne.2 (by omega)
  clear ehd eq0 el0 hqle hlr
  go_enter Tryz.func192, Tryz.ntmps192
  go_wp2_with fail
  go_big_region
  go_wp2_with fail
  go_big_region
  go_wp2_with fail
  go_big_region
  go_wp2_with fail
  clear hor hq0 hl0 hp1 hp2 hy1 hy2
  go_loop [9, 10] (fun qx lx => GuessRel ps ys m qx lx) (fun qx _ => (intOf qx).toNat)
  case atStart => exact ⟨q0, l0, rfl, rfl, hq0b, hl0b, HF.out⟩
  case round =>
    obtain ⟨q, left, rfl, rfl, hqb, hlb, hg⟩ := hrel
    have HG := Lib.hid hg
    clear hg
    by_cases hge : 4294967296 ≤ q
    · have ht1 : ((q : Int) / 4294967296 == 0) = false := by rw [beq_eq_false_iff_ne]; omega
      obtain ⟨hq1, hg1⟩ := HST.out q left HG.out (.inl hge)
      obtain ⟨q1, eq1⟩ : ∃ q1 : Nat, q - 1 = q1 := ⟨_, rfl⟩
      rw [eq1] at hg1
      obtain ⟨l1, el1, hl1⟩ : ∃ l1 : Nat, (left : Int) + (high : Int) = (l1 : Int) ∧ left + high = l1 := ⟨_, by omega, rfl⟩
      rw [hl1] at hg1
      have HG1 := Lib.hid hg1
      have eq2 : (q : Int) - 1 = (q1 : Int) := by omega
      have hq1q : q1 < q := by omega
      have hl1b : l1 < 8589934592 := by omega
      clear hg1 hl1 HG eq1
      by_cases hbr : l1 < 4294967296
      · have hb1 : ((l1 : Int) / 4294967296 == 0) = true := by rw [beq_iff_eq]; omega
        go_wp2_with fail
        exact ⟨⟨q1, l1, by first | rfl | (congr 1; omega), rfl, by omega, hbr, HG1.out⟩, by simp [intOf]; omega⟩
      · have hb1 : ((l1 : Int) / 4294967296 == 0) = false := by rw [beq_eq_false_iff_ne]; omega
        obtain ⟨d1, d2, d3⟩ := HDN.out q1 l1 HG1.out (.inl (by omega))
        have HD2 := Lib.hid d2
        have HD3 := Lib.hid d3
        clear d2 d3
        go_wp2_with fail
        go_ret
        exact ⟨q1, 3, rfl, d1, HD2.out, HD3.out, rfl⟩
    · have ht1 : ((q : Int) / 4294967296 == 0) = true := by rw [beq_iff_eq]; omega
      have hqn : q * next ≤ 4294967295 * 4294967295 := Nat.mul_le_mul (by omega) (by omega)
      obtain ⟨qn, eqn, hqn1⟩ : ∃ qn : Nat, IntKind.u64.wrap ((q : Int) * (next : Int)) = (qn : Int) ∧ q * next = qn := ⟨_, by
        rw [IntKind.wrap_u64, show ((q : Int) * (next : Int)) = ((q * next : Nat) : Int) by simp]; omega, rfl⟩
      obtain ⟨lp, hlp⟩ : ∃ lp : Nat, left * 4294967296 + p0 = lp := ⟨_, rfl⟩
      have hor : bits BinOp.or IntKind.u64 ((left : Int) * 4294967296) (p0 : Int) = (lp : Int) := by
        have := or_u64 (x := left) (y := p0) (s := 32) (by omega) (by omega) (by omega)
        rw [← hlp]; simp at this ⊢; omega
      by_cases htt : lp < qn
      · have ht2 : decide ((lp : Int) < (qn : Int)) = true := by rw [decide_eq_true_iff]; omega
        have HW := Lib.hid (show left * 4294967296 + p0 < q * next by rw [hlp, hqn1]; exact htt)
        clear hlp hqn1 hqn
        obtain ⟨hq1, hg1⟩ := HST.out q left HG.out (.inr HW.out)
        obtain ⟨q1, eq1⟩ : ∃ q1 : Nat, q - 1 = q1 := ⟨_, rfl⟩
        rw [eq1] at hg1
        obtain ⟨l1, el1, hl1⟩ : ∃ l1 : Nat, (left : Int) + (high : Int) = (l1 : Int) ∧ left + high = l1 := ⟨_, by omega, rfl⟩
        rw [hl1] at hg1
        have HG1 := Lib.hid hg1
        have eq2 : (q : Int) - 1 = (q1 : Int) := by omega
        have hq1q : q1 < q := by omega
        have hl1b : l1 < 8589934592 := by omega
        clear hg1 hl1 HG eq1
        by_cases hbr : l1 < 4294967296
        · have hb1 : ((l1 : Int) / 4294967296 == 0) = true := by rw [beq_iff_eq]; omega
          go_wp2_with fail
          exact ⟨⟨q1, l1, by first | rfl | (congr 1; omega), rfl, by omega, hbr, HG1.out⟩, by simp [intOf]; omega⟩
        · have hb1 : ((l1 : Int) / 4294967296 == 0) = false := by rw [beq_eq_false_iff_ne]; omega
          obtain ⟨d1, d2, d3⟩ := HDN.out q1 l1 HG1.out (.inl (by omega))
          have HD2 := Lib.hid d2
          have HD3 := Lib.hid d3
          clear d2 d3
          go_wp2_with fail
          go_ret
          exact ⟨q1, 3, rfl, d1, HD2.out, HD3.out, rfl⟩
      · have ht2 : decide ((lp : Int) < (qn : Int)) = false := by rw [decide_eq_false_iff_not]; omega
        obtain ⟨d1, d2, d3⟩ := HDN.out q left HG.out (.inr ⟨by omega, by rw [hlp, hqn1]; omega⟩)
        have HD2 := Lib.hid d2
        have HD3 := Lib.hid d3
        clear d2 d3 hlp hqn1 hqn
        go_wp2_with fail
        go_ret
        exact ⟨q, 3, rfl, d1, HD2.out, HD3.out, rfl⟩

end Go.Proofs.YtfohgkabmdhhaaaGreatDoor
/- Long division: one round, and the end. No program. -/
namespace Cin

/-- What is taken away, not too often. -/
theorem take_exact {p D q o : Nat} (hD : 0 < D) (hQ : p / D ≤ q) (ho : o + q * D = p) : q = p / D ∧ o = p % D := by
  have h1 : q ≤ p / D := by rw [Nat.le_div_iff_mul_le hD]; omega
  have h2 : q = p / D := Nat.le_antisymm h1 hQ
  refine ⟨h2, ?_⟩
  have := Nat.div_add_mod p D
  rw [h2, Nat.mul_comm] at ho
  omega
/-- Once too often, and given back. -/
theorem take_back {p D q o o2 c W : Nat} (hD : 0 < D) (hW : D ≤ W) (hq : q * D ≤ p + D) (ho : o + q * D = p + W) (hob : o < W) (ho2 : o2 + W * c = o + D) (ho2b : o2 < W) : 1 ≤ q ∧ q - 1 = p / D ∧ o2 = p % D := by
  have h1 : p < q * D := by omega
  have h2 : 1 ≤ q := by
    rcases Nat.eq_zero_or_pos q with e | e
    · subst e; omega
    · exact e
  obtain ⟨r, rfl⟩ : ∃ r, q = r + 1 := ⟨q - 1, by omega⟩
  rw [Nat.add_mul, Nat.one_mul] at hq ho h1
  have h3 : r = p / D := by
    refine Nat.le_antisymm (by rw [Nat.le_div_iff_mul_le hD]; omega) ?_
    have : p / D < r + 1 := by rw [Nat.div_lt_iff_lt_mul hD, Nat.add_mul, Nat.one_mul]; exact h1
    omega
  have hm := Nat.div_add_mod p D
  have hml := Nat.mod_lt p hD
  rw [← h3, Nat.mul_comm] at hm
  refine ⟨h2, by rw [Nat.add_sub_cancel]; exact h3, ?_⟩
  have hc : c = 1 := by
    rcases Nat.lt_or_ge c 1 with h | h
    · obtain rfl : c = 0 := by omega
      omega
    · rcases Nat.lt_or_ge 1 c with h' | h'
      · have : W * 2 ≤ W * c := Nat.mul_le_mul_left _ h'
        omega
      · omega
  subst hc
  omega

theorem drop_drop_take {ls : List Nat} {i n : Nat} (h : i + n ≤ ls.length) : val (ls.drop i) = val ((ls.drop i).take n) + pw n * val (ls.drop (i + n)) := by
  rw [val_split (ls.drop i) n (by rw [List.length_drop]; omega), List.drop_drop]

/-- One round: the part at i, of n words and one, by D. -/
theorem long_step {ls os ros ps : List Nat} {i n la X D Q : Nat} (hl : ls.length = la + 1) (hi : i + n + 1 ≤ la + 1) (hps : (ls.drop i).take (n + 1) = ps) (ok : Ok ls) (hlt : val (ls.drop (i + 1)) < D) (hD : D < pw n)
    (hv : val ls + D * (pw (i + 1) * val (os.drop (i + 1))) = X) (hio : i < os.length) :
    val ps < 4294967296 * D ∧ (ros.length = n + 1 → val ros = val ps % D → Q = val ps / D → (splice ls i ros).length = la + 1 ∧ val (splice ls i ros) + D * (pw i * val ((os.set i Q).drop i)) = X ∧ val ((splice ls i ros).drop i) < D) := by
  have hz : val (ls.drop (i + (n + 1))) = 0 := by
    have h1 := drop_drop_take (ls := ls) (i := i + 1) (n := n) (by omega)
    rcases Nat.eq_zero_or_pos (val (ls.drop (i + 1 + n))) with h2 | h2
    · rw [show i + (n + 1) = i + 1 + n by omega]; exact h2
    · have : pw n * 1 ≤ pw n * val (ls.drop (i + 1 + n)) := Nat.mul_le_mul_left _ h2
      omega
  have hpv : val (ls.drop i) = val ps := by
    have h1 := drop_drop_take (ls := ls) (i := i) (n := n + 1) (by omega)
    rw [hz, Nat.mul_zero, Nat.add_zero, hps] at h1
    exact h1
  have hlim := lim_lt ok i
  have hstep := val_drop_step ls i
  refine ⟨by omega, fun hr hrv hQ => ?_⟩
  have hsl : (splice ls i ros).length = la + 1 := by rw [splice_length (by omega), hl]
  have hsd : (splice ls i ros).drop i = ros ++ ls.drop (i + (n + 1)) := by
    unfold splice
    rw [List.append_assoc, List.drop_left' (by rw [List.length_take]; omega), hr]
  have hst : (splice ls i ros).take i = ls.take i := by
    unfold splice
    rw [List.append_assoc, List.take_left' (by rw [List.length_take]; omega)]
  have hsv : val ((splice ls i ros).drop i) = val ros := by rw [hsd, val_append, hz, Nat.mul_zero, Nat.add_zero]
  have hD0 : 0 < D := by omega
  refine ⟨hsl, ?_, by rw [hsv, hrv]; exact Nat.mod_lt _ hD0⟩
  have e1 := val_split (splice ls i ros) i (by omega)
  have e2 := val_split ls i (by omega)
  rw [hst, hsv, hrv] at e1
  rw [hpv] at e2
  have e3 : val ((os.set i Q).drop i) = Q + 4294967296 * val (os.drop (i + 1)) := by
    rw [val_drop_step, lim_set_same hio, List.drop_set_of_lt (by omega)]
  have hm := Nat.div_add_mod (val ps) D
  rw [← hQ] at hm
  have e4 : pw i * val ps = D * (pw i * Q) + pw i * (val ps % D) := by
    conv => lhs; rw [← hm]
    rw [Nat.mul_add, Nat.mul_left_comm]
  have e5 : D * (pw i * val ((os.set i Q).drop i)) = D * (pw i * Q) + D * (pw (i + 1) * val (os.drop (i + 1))) := by
    rw [e3, Nat.mul_add, Nat.mul_add, pw_succ, Nat.mul_comm 4294967296 (pw i), Nat.mul_assoc (pw i)]
  omega
/-- The end. -/
theorem long_end {x y s L O : Nat} (hy : 0 < y) (h : L + y * 2 ^ s * O = x * 2 ^ s) (hl : L < y * 2 ^ s) : O = x / y ∧ L / 2 ^ s = x % y := by
  have hp : 0 < 2 ^ s := Nat.pow_pos (by decide)
  have hD : 0 < y * 2 ^ s := Nat.mul_pos hy hp
  have h1 : O = x * 2 ^ s / (y * 2 ^ s) := by rw [← h, Nat.add_mul_div_left _ _ hD, Nat.div_eq_of_lt hl, Nat.zero_add]
  have h2 : L = x * 2 ^ s % (y * 2 ^ s) := by rw [← h, Nat.add_mul_mod_self_left, Nat.mod_eq_of_lt hl]
  rw [Nat.mul_div_mul_right _ _ hp] at h1
  rw [Nat.mul_mod_mul_right] at h2
  exact ⟨h1, by rw [h2, Nat.mul_div_cancel _ hp]⟩
/-- The beginning: nothing of the divisor goes into what lies above. -/
theorem long_begin {ls ds : List Nat} {n la s x : Nat} (hl : ls.length = la + 1) (hd : ds.length = n) (hn : 1 ≤ n) (hla : n ≤ la) (ok : Ok ls) (hv : val ls = x * 2 ^ s) (hx : x < pw la) (hhi : 2 ^ s ≤ lim ds (n - 1)) : val (ls.drop (la - n + 1)) < val ds := by
  have h0 : 0 < 2 ^ s := Nat.pow_pos (by decide)
  have h1 : lim ls la < 2 ^ s := by
    have e := val_split ls la (by omega)
    have e2 := val_drop_step ls la
    rw [List.drop_of_length_le (show ls.length ≤ la + 1 by omega), val_nil, Nat.mul_zero, Nat.add_zero] at e2
    rw [e2] at e
    have h2 : pw la * lim ls la < pw la * 2 ^ s := by
      have : x * 2 ^ s < pw la * 2 ^ s := Nat.mul_lt_mul_of_pos_right hx h0
      omega
    exact Nat.lt_of_mul_lt_mul_left h2
  refine val_lt_of_top (i := n - 1) (ok.drop _) (by rw [List.length_drop]; omega) (by rw [List.length_drop]; omega) (fun j h2 h3 => ?_) ?_
  · rw [List.length_drop] at h3; omega
  · rw [lim_drop, show la - n + 1 + (n - 1) = la by omega]; omega

/-- Moving the divisor up loses nothing. -/
theorem shift_fit {ys : List Nat} {m s : Nat} (hl : ys.length = m + 1) (oy : Ok ys) (h2 : lim ys m * 2 ^ s < 2 ^ 32) (hs : s ≤ 32) : val ys * 2 ^ s < pw (m + 1) := by
  have h0 : 0 < 2 ^ s := Nat.pow_pos (by decide)
  have hr := val_lt (oy.take m)
  rw [List.length_take, Nat.min_eq_left (by omega)] at hr
  have hv := val_take_succ (xs := ys) (i := m) (by omega)
  rw [List.take_of_length_le (by omega)] at hv
  have e32 : (2 : Nat) ^ 32 = 2 ^ (32 - s) * 2 ^ s := by rw [← Nat.pow_add]; congr 1; omega
  rw [e32] at h2
  have h3 : lim ys m + 1 ≤ 2 ^ (32 - s) := Nat.lt_of_mul_lt_mul_right h2
  have h4 : val ys < pw m * (lim ys m + 1) := by rw [Nat.mul_add, Nat.mul_one]; omega
  have h5 : val ys * 2 ^ s < pw m * (lim ys m + 1) * 2 ^ s := Nat.mul_lt_mul_of_pos_right h4 h0
  have h6 : pw m * (lim ys m + 1) * 2 ^ s ≤ pw m * (2 ^ (32 - s) * 2 ^ s) := by
    rw [Nat.mul_assoc]; exact Nat.mul_le_mul_left _ (Nat.mul_le_mul_right _ h3)
  rw [← e32] at h6
  have h7 : pw (m + 1) = pw m * 2 ^ 32 := by rw [pw, pw, Nat.pow_succ]
  omega
theorem val_top {ys : List Nat} {m : Nat} (hl : ys.length = m + 1) : val ys = val (ys.take m) + pw m * lim ys m := by
  have h1 := val_take_succ (xs := ys) (i := m) (by omega)
  rwa [List.take_of_length_le (by omega)] at h1
theorem shift_big {ys : List Nat} {m s : Nat} (hl : ys.length = m + 1) (_ : Ok ys) (h1 : 2 ^ 31 ≤ lim ys m * 2 ^ s) : pw m * 2 ^ 31 ≤ val ys * 2 ^ s := by
  rw [val_top hl, Nat.add_mul, Nat.mul_assoc]
  have := Nat.mul_le_mul_left (pw m) h1
  omega
theorem lim_top_zero {ds : List Nat} {n : Nat} (hl : ds.length = n + 1) (_ : Ok ds) (h : val ds < pw n) : lim ds n = 0 := by
  rcases Nat.eq_zero_or_pos (lim ds n) with h0 | h0
  · exact h0
  · have h1 := val_top hl
    have : pw n * 1 ≤ pw n * lim ds n := Nat.mul_le_mul_left _ h0
    omega
theorem lim_top_big {ds : List Nat} {m : Nat} (hl : ds.length = m + 1) (od : Ok ds) (h : pw m * 2 ^ 31 ≤ val ds) : 2 ^ 31 ≤ lim ds m := by
  have hr := val_lt (od.take m)
  rw [List.length_take, Nat.min_eq_left (by omega)] at hr
  have h1 := val_top hl
  have h2 : pw m * 2 ^ 31 < pw m * (lim ds m + 1) := by rw [Nat.mul_add]; omega
  have := Nat.lt_of_mul_lt_mul_left h2
  omega
theorem splice_again {ls rs rs2 : List Nat} {i : Nat} (h : rs2.length = rs.length) (hi : i + rs.length ≤ ls.length) : splice (splice ls i rs) i rs2 = splice ls i rs2 := by
  have e1 : (splice ls i rs).take i = ls.take i := by
    unfold splice
    rw [List.append_assoc, List.take_left' (by rw [List.length_take]; omega)]
  have e2 : (splice ls i rs).drop (i + rs.length) = ls.drop (i + rs.length) := by
    unfold splice
    rw [List.drop_left' (by rw [List.length_append, List.length_take]; omega)]
  rw [splice, e1, h, e2, splice, h]
theorem splice_whole {ls rs : List Nat} (h : rs.length = ls.length) : splice ls 0 rs = rs := by
  unfold splice
  rw [List.take_zero, List.nil_append, List.drop_of_length_le (by omega), List.append_nil]
theorem val_take_small {rs : List Nat} {n : Nat} (hn : n ≤ rs.length) (h : val rs < pw n) : val (rs.take n) = val rs := by
  have h1 := val_split rs n hn
  rcases Nat.eq_zero_or_pos (val (rs.drop n)) with h2 | h2
  · rw [h2, Nat.mul_zero, Nat.add_zero] at h1; exact h1.symm
  · have : pw n * 1 ≤ pw n * val (rs.drop n) := Nat.mul_le_mul_left _ h2
    omega

end Cin
