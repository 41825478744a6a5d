/- The contract of the document's NatRead. -/
import Derived.Test.YtpchnejdbmoicaaDoorRB
namespace Cin
open Go Go.RowKit
theorem lim_under {xs : List Nat} (ho : Ok xs) {p : Nat} (h : val xs < 256 ^ p) : lim xs (p / 4) < 2 ^ (p % 4 * 8) := by
  have e : 256 ^ p = pw (p / 4) * 2 ^ (p % 4 * 8) := by
    rw [pw_two, ← Nat.pow_add, show (256 : Nat) = 2 ^ 8 from rfl, ← Nat.pow_mul]
    congr 1; omega
  rw [e] at h
  have h1 := Nat.div_lt_of_lt_mul h
  rw [val_div_pw ho, val_drop_step] at h1
  omega
theorem byte_up {z r b : Nat} (hr : r < 4) (hz : z < 2 ^ (r * 8)) (hb : b < 256) : b * 2 ^ (r * 8) % 2 ^ (r * 8) = 0 ∧ z + b * 2 ^ (r * 8) < 4294967296 := by
  refine ⟨Nat.mul_mod_left _ _, ?_⟩
  have hr' : r = 0 ∨ r = 1 ∨ r = 2 ∨ r = 3 := by omega
  rcases hr' with rfl | rfl | rfl | rfl <;> simp only [Nat.zero_mul, Nat.one_mul, Nat.reduceMul, Nat.reducePow] at hz ⊢ <;> omega
theorem read_up {bs os : List Nat} {j n p q t b : Nat} (h : ∀ b ∈ bs, b < 256) (hn : bs.length = n) (hj : j < n) (ho : Ok os) (hv : val os = bv bs % 256 ^ j) (hp : p = n - 1 - j) (hq : q = j / 4) (ht : t = j % 4 * 8) (hb : lim bs p = b) (hb8 : b < 256) (hl : q < os.length) :
    lim os q < 2 ^ t ∧ b * 2 ^ t % 2 ^ t = 0 ∧ lim os q + b * 2 ^ t < 4294967296 ∧ val (os.set q (lim os q + b * 2 ^ t)) = bv bs % 256 ^ (j + 1) := by
  have hf := lim_under ho (p := j) (by rw [hv]; exact Nat.mod_lt _ (Nat.pow_pos (by decide)))
  subst hq ht
  obtain ⟨f1, f2⟩ := byte_up (Nat.mod_lt j (by decide)) hf hb8
  refine ⟨hf, f1, f2, ?_⟩
  have hd := bv_dig h (i := p) (by omega)
  rw [hb, show bs.length - 1 - p = j by omega] at hd
  rw [val_byte hl, hv, hd, Nat.mod_pow_succ, Nat.mul_comm]
end Cin
namespace Go.Proofs.YtpchnejdbmoicaaDoor
open Go.RowKit Cin

set_option maxRecDepth 100000 in
set_option maxHeartbeats 1000000 in
/-- NatRead, of bytes the first of which is 0. -/
theorem rread_no (s : ByteArray) (w : World) (h : 0 < s.size) (h0 : lim (byts s) 0 = 0) (hs : s.size ≤ 300) :
    Calls Tryd.prog 22 #[.string s] w fun e w' => e = .returned (.tuple #[.slice none 0 0, .bool false]) ∧ Below w.heap.size w w' := by
  have hb := byts_at s h
  have hcb : ((s[0].toNat : Nat) : Int) = 0 := by rw [hb, h0]; rfl
  have hd : decide ((0 : Int) < (s.size : Int)) = true := by rw [decide_eq_true_iff]; omega
  clear hb h0
  go_enter Tryd.func22, Tryd.ntmps22
  go_wp2_with fail
  go_ret2
  exact ⟨rfl, Below.refl _ _⟩

set_option maxRecDepth 100000 in
set_option maxHeartbeats 2000000 in
/-- NatRead, of any other bytes: the number. -/
theorem rread_yes (s : ByteArray) (w : World) (h0 : s.size = 0 ∨ lim (byts s) 0 ≠ 0) (hs : s.size ≤ 300) :
    Calls Tryd.prog 22 #[.string s] w fun e w' => ∃ v, e = .returned (.tuple #[v, .bool true]) ∧ RefV 68 w' v (bv (byts s)) ∧ Below w.heap.size w w' := by
  obtain ⟨i0, hi0, hz0, hz1, hz2⟩ := info_parts info_u32
  have hall : ∀ b ∈ byts s, b < 256 := fun b hb => by
    unfold byts at hb
    obtain ⟨u, _, rfl⟩ := List.mem_map.1 hb
    exact u.toNat_lt
  have HALL := Lib.hid hall
  obtain ⟨n, hn⟩ : ∃ n : Nat, s.size = n := ⟨_, rfl⟩
  obtain ⟨m, hm, em⟩ : ∃ m : Nat, (n : Int) / 4 + 1 = (m : Int) ∧ m = n / 4 + 1 := ⟨n / 4 + 1, by omega, rfl⟩
  have HM := Lib.hid em
  have HN := Lib.hid hn
  have hmb : m ≤ 100 := by omega
  clear hall em
  by_cases hz : n = 0
  · have hd : decide ((0 : Int) < (n : Int)) = false := by rw [decide_eq_false_iff_not]; omega
    clear h0
    go_enter Tryd.func22, Tryd.ntmps22
    go_wp2_with (at_make; refine wpList_make_ints _ rfl _ _ 29 rfl 68 i0 .u32 Tryd.underlying29 hi0 hz0 hz1 .i64 .i64 _ _ m m rfl rfl (by omega) (by omega) (Nat.le_refl _) (by rw [hz2]; omega) (by omega) ?_)
    have hkW : Blk (w.alloc (Obj.cells (ints IntKind.u32 (List.replicate m 0)) 68)) w.heap.size 68 .u32 (List.replicate m 0) := Blk.new _ _ _ _
    have hbW := bel_alloc w (Obj.cells (ints IntKind.u32 (List.replicate m 0)) 68)
    generalize w.alloc (Obj.cells (ints IntKind.u32 (List.replicate m 0)) 68) = W at *
    have HKW := Lib.hid hkW
    have HBW := Lib.hid hbW
    clear hkW hbW hi0 hz0 hz1 hz2
    go_loopw [5] (fun cx wr => ∃ (j : Nat) (os : List Nat), j ≤ n ∧ cx = .int .i64 j ∧ os.length = m ∧ Ok os ∧ Hid (val os = bv (byts s) % 256 ^ j) ∧ Blk wr w.heap.size 68 .u32 os ∧ Keep (· = w.heap.size) W wr) (fun cx _ => n - (intOf cx).toNat)
    case atStart => exact ⟨0, List.replicate m 0, Nat.zero_le _, rfl, by simp, Ok.replicate _, Lib.hid (by rw [val_replicate, Nat.pow_zero, Nat.mod_one]), HKW.out, Keep.refl _ _⟩
    case round =>
      obtain ⟨j, os, hj, rfl, hol, hok, HV, hblk, hkeep⟩ := hrel
      by_cases hlt : j < n
      · exact absurd hlt (by omega)
      · obtain rfl : n = j := by omega
        have hv2 : val os = bv (byts s) := by
          rw [HV.out]
          refine Nat.mod_eq_of_lt ?_
          have := bv_lt HALL.out n
          rwa [List.take_of_length_le (by rw [byts_length]; have := HN.out; omega)] at this
        have HV2 := Lib.hid hv2
        have hsl := Sl.of_blk hblk
        rw [hol] at hsl
        have HSL := Lib.hid hsl
        have HB3 := Lib.hid (HBW.out.trans (hkeep.below (B := w.heap.size) HBW.out.size (fun k e => by omega)))
        have hxl2 : os.length ≤ 1000000000000 := by omega
        clear hv2 hsl hblk hkeep HV
        go_wp2_with fail
        refine (rtrim_any _ os _ HSL.out hok hxl2).mono ?_
        rintro e w2 ⟨v2, rfl, hr2, rfl⟩
        rw [HV2.out] at hr2
        have HR2 := Lib.hid hr2
        clear hr2
        go_wp2
        go_ret2
        exact ⟨_, rfl, HR2.out, HB3.out⟩
  · have hp0 : 0 < s.size := by omega
    have h1 := byts_at s hp0
    have hcb0 : (((s[0].toNat : Nat) : Int) == 0) = false := by
      rw [h1]
      rcases h0 with h | h
      · omega
      · simp; exact h
    have hd : decide ((0 : Int) < (n : Int)) = true := by rw [decide_eq_true_iff]; omega
    clear h0 h1
    go_enter Tryd.func22, Tryd.ntmps22
    go_wp2_with (at_make; refine wpList_make_ints _ rfl _ _ 29 rfl 68 i0 .u32 Tryd.underlying29 hi0 hz0 hz1 .i64 .i64 _ _ m m rfl rfl (by omega) (by omega) (Nat.le_refl _) (by rw [hz2]; omega) (by omega) ?_)
    have hkW : Blk (w.alloc (Obj.cells (ints IntKind.u32 (List.replicate m 0)) 68)) w.heap.size 68 .u32 (List.replicate m 0) := Blk.new _ _ _ _
    have hbW := bel_alloc w (Obj.cells (ints IntKind.u32 (List.replicate m 0)) 68)
    generalize w.alloc (Obj.cells (ints IntKind.u32 (List.replicate m 0)) 68) = W at *
    have HKW := Lib.hid hkW
    have HBW := Lib.hid hbW
    clear hkW hbW hi0 hz0 hz1 hz2
    go_loopw [5] (fun cx wr => ∃ (j : Nat) (os : List Nat), j ≤ n ∧ cx = .int .i64 j ∧ os.length = m ∧ Ok os ∧ Hid (val os = bv (byts s) % 256 ^ j) ∧ Blk wr w.heap.size 68 .u32 os ∧ Keep (· = w.heap.size) W wr) (fun cx _ => n - (intOf cx).toNat)
    case atStart => exact ⟨0, List.replicate m 0, Nat.zero_le _, rfl, by simp, Ok.replicate _, Lib.hid (by rw [val_replicate, Nat.pow_zero, Nat.mod_one]), HKW.out, Keep.refl _ _⟩
    case round =>
      obtain ⟨j, os, hj, rfl, hol, hok, HV, hblk, hkeep⟩ := hrel
      by_cases hlt : j < n
      · obtain ⟨p, ep, ep'⟩ : ∃ p : Nat, (n : Int) - 1 - (j : Int) = (p : Int) ∧ p = n - 1 - j := ⟨n - 1 - j, by omega, rfl⟩
        have hjs : p < s.size := by have := HN.out; omega
        have hb := byts_at s hjs
        have hb8 : lim (byts s) p < 256 := HALL.out _ (by rw [lim_eq (by rw [byts_length]; exact hjs)]; exact List.getElem_mem _)
        obtain ⟨b, eb⟩ : ∃ b : Nat, lim (byts s) p = b := ⟨_, rfl⟩
        rw [eb] at hb hb8
        obtain ⟨q, eq, eq'⟩ : ∃ q : Nat, (j : Int) / 4 = (q : Int) ∧ q = j / 4 := ⟨j / 4, by omega, rfl⟩
        obtain ⟨r, er, er'⟩ : ∃ r : Nat, (j : Int) % 4 = (r : Int) ∧ r = j % 4 := ⟨j % 4, by omega, rfl⟩
        obtain ⟨t, et, et'⟩ : ∃ t : Nat, 8 * (r : Int) = (t : Int) ∧ t = r * 8 := ⟨r * 8, by omega, rfl⟩
        have hq : q < m := by have := HM.out; omega
        have R := read_up (bs := byts s) (n := n) HALL.out (by rw [byts_length]; exact HN.out) hlt hok HV.out ep' eq' (show t = j % 4 * 8 by omega) eb hb8 (by omega)
        obtain ⟨r1, r2, r3, r4⟩ := R
        obtain ⟨y, ey⟩ : ∃ y : Nat, b * 2 ^ t = y := ⟨_, rfl⟩
        rw [ey] at r2 r3 r4
        have hsh : IntKind.u32.wrap ((b : Int) * 2 ^ t) = (y : Int) := by
          rw [show ((b : Int) * 2 ^ t) = ((y : Nat) : Int) by rw [← ey]; simp, IntKind.wrap_u32]; omega
        have hcb : (((s[p]'hjs).toNat : Nat) : Int) = (b : Int) := by rw [hb]
        have hcell := hblk.cell (i := q) (by omega)
        have hf := hblk.free q
        have hob := lim_lt hok q
        have hor1 : bits BinOp.or IntKind.u32 ((lim os q : Nat) : Int) (y : Int) = ((lim os q + y : Nat) : Int) := or_u32 r1 r2 hob (by omega)
        obtain ⟨o1, eo1⟩ : ∃ o1 : Nat, lim os q + y = o1 := ⟨_, rfl⟩
        rw [eo1] at hor1 r3 r4
        have HV2 := Lib.hid r4
        have HB2 := Lib.hid (hblk.set q o1)
        have HK2 := Lib.hid (hkeep.setCell (a := ⟨w.heap.size, q, none⟩) rfl (.int .u32 (o1 : Nat)))
        have HOK := Lib.hid (hok.set q o1 (by omega))
        have HOL := Lib.hid hol
        have ht32 : t < 32 := by omega
        have hpb : p ≤ 300 := by omega
        have hr4 : r < 4 := by omega
        have hj3 : j < 300 := by omega
        have hpn : (p : Int) < (n : Int) := by omega
        have w1' : IntKind.i64.wrap ((j : Int) + 1) = (j : Int) + 1 := IntWalk.i64_in _ (by omega)
        clear r1 r2 r3 r4 ey eo1 hok hol hblk hkeep HV ep' eq' er' et' hb eb
        go_wp2_with fail
        go_big_region
        all_goals go_wp2_with fail
        all_goals exact ⟨⟨j + 1, _, by omega, by go_num, by rw [List.length_set]; exact HOL.out, HOK.out, HV2, HB2.out, HK2.out.drew⟩, by simp [intOf]; omega⟩
      · obtain rfl : n = j := by omega
        have hv2 : val os = bv (byts s) := by
          rw [HV.out]
          refine Nat.mod_eq_of_lt ?_
          have := bv_lt HALL.out n
          rwa [List.take_of_length_le (by rw [byts_length]; have := HN.out; omega)] at this
        have HV2 := Lib.hid hv2
        have hsl := Sl.of_blk hblk
        rw [hol] at hsl
        have HSL := Lib.hid hsl
        have HB3 := Lib.hid (HBW.out.trans (hkeep.below (B := w.heap.size) HBW.out.size (fun k e => by omega)))
        have hxl2 : os.length ≤ 1000000000000 := by omega
        clear hv2 hsl hblk hkeep HV
        go_wp2_with fail
        refine (rtrim_any _ os _ HSL.out hok hxl2).mono ?_
        rintro e w2 ⟨v2, rfl, hr2, rfl⟩
        rw [HV2.out] at hr2
        have HR2 := Lib.hid hr2
        clear hr2
        go_wp2
        go_ret2
        exact ⟨_, rfl, HR2.out, HB3.out⟩

end Go.Proofs.YtpchnejdbmoicaaDoor
