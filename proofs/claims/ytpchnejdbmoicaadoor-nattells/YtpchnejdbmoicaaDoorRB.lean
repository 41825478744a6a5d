/- The contract of nat's Read. -/
import Derived.Test.YtpchnejdbmoicaaDoorBP
import Derived.Test.YtpchnejdbmoicaaDoorYl
import Derived.Test.YtpchnejdbmoicaaDoorYe
import Derived.BigRegion
namespace Cin
open Go Go.RowKit
theorem or_u32' {a lo s : Nat} (ha : a < 2 ^ s) (hl : lo % 2 ^ s = 0) (ha2 : a < 4294967296) (hl2 : lo < 4294967296) : bits .or .u32 (lo : Int) (a : Int) = ((lo + a : Nat) : Int) := by
  rw [u32_or_nat _ _ hl2 ha2, nat_join s _ _ hl ha]
theorem byte_fit {z r b : Nat} (hz : z < 4294967296) (hr : r < 4) (hm : z % 2 ^ (r * 8 + 8) = 0) (hb : b < 256) : b * 2 ^ (r * 8) < 2 ^ (r * 8 + 8) ∧ z + b * 2 ^ (r * 8) < 4294967296 := by
  have hr' : r = 0 ∨ r = 1 ∨ r = 2 ∨ r = 3 := by omega
  rcases hr' with rfl | rfl | rfl | rfl <;> simp only [Nat.zero_mul, Nat.one_mul, Nat.reduceMul, Nat.reduceAdd, Nat.reducePow, Nat.zero_add] at hm ⊢ <;> omega
theorem read_step {bs os : List Nat} {j n p q t b : Nat} (hn : bs.length = n) (hj : j < n) (ho : Ok os) (hv : val os = bv (bs.take j) * 256 ^ (n - j)) (hp : p = n - 1 - j) (hq : q = p / 4) (ht : t = p % 4 * 8) (hb : lim bs j = b) (hb8 : b < 256) (hl : q < os.length) :
    lim os q % 2 ^ (t + 8) = 0 ∧ b * 2 ^ t < 2 ^ (t + 8) ∧ lim os q + b * 2 ^ t < 4294967296 ∧ val (os.set q (lim os q + b * 2 ^ t)) = bv (bs.take (j + 1)) * 256 ^ (n - (j + 1)) := by
  have e1 : n - j = p + 1 := by omega
  have hf := lim_free ho (p := p) (by rw [hv, e1]; exact Nat.dvd_mul_left _ _)
  subst hq ht
  obtain ⟨f1, f2⟩ := byte_fit (lim_lt ho (p / 4)) (Nat.mod_lt p (by decide)) hf hb8
  refine ⟨hf, f1, f2, ?_⟩
  rw [val_byte hl, hv, bv_take (by omega), hb, e1, show n - (j + 1) = p by omega, Nat.pow_succ, Nat.add_mul, Nat.mul_assoc, Nat.mul_comm 256 (256 ^ p)]
end Cin
namespace Go.Proofs.YtpchnejdbmoicaaDoor
open Go.RowKit Cin

set_option maxRecDepth 100000 in
set_option maxHeartbeats 1000000 in
/-- Read, of bytes the first of which is 0. -/
theorem read_no (s : ByteArray) (w : World) (h : 0 < s.size) (h0 : lim (byts s) 0 = 0) (hs : s.size ≤ 300) :
    Calls Tryd.prog 21 #[.string s] w fun e w' => e = .returned (.tuple #[.agg #[.slice none 0 0], .int .i64 2]) ∧ Below w.heap.size w w' := by
  have hb := byts_at s h
  have hcb : ((s[0].toNat : Nat) : Int) = 0 := by rw [hb, h0]; rfl
  have hd : decide ((0 : Int) < (s.size : Int)) = true := by rw [decide_eq_true_iff]; omega
  clear hb h0
  go_enter Tryd.func21, Tryd.ntmps21
  go_wp2_with fail
  refine bodyPost_ret (v := .tuple #[.agg #[.slice none 0 0], .int .i64 2]) (by simp [results, Tryd.results21, go_sem]) rfl ⟨rfl, bel_alloc _ _⟩

set_option maxRecDepth 100000 in
set_option maxHeartbeats 2000000 in
/-- Read, of any other bytes: the number. -/
theorem read_yes (s : ByteArray) (w : World) (h0 : s.size = 0 ∨ lim (byts s) 0 ≠ 0) (hs : s.size ≤ 300) :
    Calls Tryd.prog 21 #[.string s] w fun e w' => ∃ v, e = .returned (.tuple #[v, .int .i64 0]) ∧ NatV 68 w' v (bv (byts s)) ∧ Below w.heap.size w w' := by
  obtain ⟨i0, hi0, hz0, hz1, hz2⟩ := info_parts info_u32
  have hall : ∀ b ∈ byts s, b < 256 := fun b hb => by
    unfold byts at hb
    obtain ⟨u, _, rfl⟩ := List.mem_map.1 hb
    exact u.toNat_lt
  have HALL := Lib.hid hall
  obtain ⟨n, hn⟩ : ∃ n : Nat, s.size = n := ⟨_, rfl⟩
  obtain ⟨m, hm, em⟩ : ∃ m : Nat, ((n : Int) + 3) / 4 = (m : Int) ∧ m = (n + 3) / 4 := ⟨(n + 3) / 4, by omega, rfl⟩
  have HM := Lib.hid em
  have HN := Lib.hid hn
  have hmb : m ≤ 100 := by omega
  clear hall em
  by_cases hz : n = 0
  · have hd : decide ((0 : Int) < (n : Int)) = false := by rw [decide_eq_false_iff_not]; omega
    clear h0
    go_enter Tryd.func21, Tryd.ntmps21
    go_wp2_with (at_make; refine wpList_make_ints _ rfl _ _ 23 rfl 68 i0 .u32 Tryd.underlying23 hi0 hz0 hz1 .i64 .i64 _ _ m m rfl rfl (by omega) (by omega) (Nat.le_refl _) (by rw [hz2]; omega) (by omega) ?_)
    have hkW : Blk ((w.alloc (Obj.cells #[Value.slice none 0 0] 25)).alloc (Obj.cells (ints IntKind.u32 (List.replicate m 0)) 68)) (w.heap.size + 1) 68 .u32 (List.replicate m 0) := nb21 _ _ _
    have hres := new_block2 w (Obj.cells #[Value.slice none 0 0] 25) (Obj.cells (ints IntKind.u32 (List.replicate m 0)) 68)
    have hbW := bel_alloc2 w (Obj.cells #[Value.slice none 0 0] 25) (Obj.cells (ints IntKind.u32 (List.replicate m 0)) 68)
    have hsW : w.heap.size + 1 < ((w.alloc (Obj.cells #[Value.slice none 0 0] 25)).alloc (Obj.cells (ints IntKind.u32 (List.replicate m 0)) 68)).heap.size := by simp
    generalize (w.alloc (Obj.cells #[Value.slice none 0 0] 25)).alloc (Obj.cells (ints IntKind.u32 (List.replicate m 0)) 68) = W at *
    have HKW := Lib.hid hkW
    have HRS := Lib.hid hres
    have HBW := Lib.hid hbW
    clear hkW hres hbW hi0 hz0 hz1 hz2
    go_loopw [5, 6, 23] (fun _ _ cx wr => ∃ (j : Nat) (os : List Nat), j ≤ n ∧ cx = .int .i64 j ∧ os.length = m ∧ Ok os ∧ Hid (val os = bv ((byts s).take j) * 256 ^ (n - j)) ∧ Blk wr (w.heap.size + 1) 68 .u32 os ∧ Keep (· = w.heap.size + 1) W wr) (fun _ _ cx _ => n - (intOf cx).toNat)
    case atStart => exact ⟨0, List.replicate m 0, Nat.zero_le _, rfl, by simp, Ok.replicate _, Lib.hid (by rw [val_replicate, List.take_zero]; exact (Nat.zero_mul _).symm), HKW.out, Keep.refl _ _⟩
    case round =>
      obtain ⟨j, os, hj, rfl, hol, hok, HV, hblk, hkeep⟩ := hrel
      by_cases hlt : j < n
      · exact absurd hlt (by omega)
      · obtain rfl : n = j := by omega
        have hv2 : val os = bv (byts s) := by rw [HV.out, Nat.sub_self, Nat.pow_zero, Nat.mul_one, List.take_of_length_le (by rw [byts_length]; have := HN.out; omega)]
        have HV2 := Lib.hid hv2
        have hsl := Sl.of_blk hblk
        rw [hol] at hsl
        have HSL := Lib.hid hsl
        have HR0 := Lib.hid ((hkeep.block w.heap.size (by omega) (by omega)).trans HRS.out)
        have HB0 := Lib.hid (HBW.out.trans (hkeep.below (B := w.heap.size) HBW.out.size (fun k e => by omega)))
        have hxl2 : os.length ≤ 1000000000000 := by omega
        have hrs : w.heap.size < wr.heap.size := by have := hkeep.size; omega
        clear hv2 hsl hblk hkeep HV
        go_wp2_with fail
        refine (wrap_any _ os _ HSL.out hok hxl2).mono ?_
        rintro e w2 ⟨v', rfl, hn2, hb2⟩
        obtain ⟨ad2, len2, cap2, rfl, hr2⟩ := hn2.shape
        have hk2 := (hb2.block w.heap.size hrs).trans HR0.out
        have hc := cell_of hk2 0
        have hf := free_of hk2 0
        simp only [List.getElem?_toArray, List.getElem?_cons_zero] at hc
        have HR := Lib.hid (fin_nat (bel_on HB0.out hb2) hk2 (by decide) hr2 (Nat.le_refl _) 0)
        clear hr2 hb2 hk2 hn2
        go_wp2
        refine bodyPost_ret (v := .tuple #[.agg #[.slice ad2 len2 cap2], .int .i64 0]) (by simp [results, Tryd.results21, go_sem, World.cell?_setCell_same _ _ _ hc]) rfl ⟨_, rfl, ?_⟩
        have := HR.out
        rw [HV2.out] at this
        exact this
  · have hp0 : 0 < s.size := by omega
    have h1 := byts_at s hp0
    have hcb0 : (((s[0].toNat : Nat) : Int) == 0) = false := by
      rw [h1]
      rcases h0 with h | h
      · omega
      · simp; exact h
    have hd : decide ((0 : Int) < (n : Int)) = true := by rw [decide_eq_true_iff]; omega
    clear h0 h1
    go_enter Tryd.func21, Tryd.ntmps21
    go_wp2_with (at_make; refine wpList_make_ints _ rfl _ _ 23 rfl 68 i0 .u32 Tryd.underlying23 hi0 hz0 hz1 .i64 .i64 _ _ m m rfl rfl (by omega) (by omega) (Nat.le_refl _) (by rw [hz2]; omega) (by omega) ?_)
    have hkW : Blk ((w.alloc (Obj.cells #[Value.slice none 0 0] 25)).alloc (Obj.cells (ints IntKind.u32 (List.replicate m 0)) 68)) (w.heap.size + 1) 68 .u32 (List.replicate m 0) := nb21 _ _ _
    have hres := new_block2 w (Obj.cells #[Value.slice none 0 0] 25) (Obj.cells (ints IntKind.u32 (List.replicate m 0)) 68)
    have hbW := bel_alloc2 w (Obj.cells #[Value.slice none 0 0] 25) (Obj.cells (ints IntKind.u32 (List.replicate m 0)) 68)
    have hsW : w.heap.size + 1 < ((w.alloc (Obj.cells #[Value.slice none 0 0] 25)).alloc (Obj.cells (ints IntKind.u32 (List.replicate m 0)) 68)).heap.size := by simp
    generalize (w.alloc (Obj.cells #[Value.slice none 0 0] 25)).alloc (Obj.cells (ints IntKind.u32 (List.replicate m 0)) 68) = W at *
    have HKW := Lib.hid hkW
    have HRS := Lib.hid hres
    have HBW := Lib.hid hbW
    clear hkW hres hbW hi0 hz0 hz1 hz2
    go_loopw [5, 6, 23] (fun _ _ cx wr => ∃ (j : Nat) (os : List Nat), j ≤ n ∧ cx = .int .i64 j ∧ os.length = m ∧ Ok os ∧ Hid (val os = bv ((byts s).take j) * 256 ^ (n - j)) ∧ Blk wr (w.heap.size + 1) 68 .u32 os ∧ Keep (· = w.heap.size + 1) W wr) (fun _ _ cx _ => n - (intOf cx).toNat)
    case atStart => exact ⟨0, List.replicate m 0, Nat.zero_le _, rfl, by simp, Ok.replicate _, Lib.hid (by rw [val_replicate, List.take_zero]; exact (Nat.zero_mul _).symm), HKW.out, Keep.refl _ _⟩
    case round =>
      obtain ⟨j, os, hj, rfl, hol, hok, HV, hblk, hkeep⟩ := hrel
      by_cases hlt : j < n
      · have hjs : j < s.size := by have := HN.out; omega
        have hb := byts_at s hjs
        have hb8 : lim (byts s) j < 256 := HALL.out _ (by rw [lim_eq (by rw [byts_length]; have := HN.out; omega)]; exact List.getElem_mem _)
        obtain ⟨b, eb⟩ : ∃ b : Nat, lim (byts s) j = b := ⟨_, rfl⟩
        rw [eb] at hb hb8
        obtain ⟨p, ep, ep'⟩ : ∃ p : Nat, (n : Int) - 1 - (j : Int) = (p : Int) ∧ p = n - 1 - j := ⟨n - 1 - j, by omega, rfl⟩
        obtain ⟨q, eq, eq'⟩ : ∃ q : Nat, (p : Int) / 4 = (q : Int) ∧ q = p / 4 := ⟨p / 4, by omega, rfl⟩
        obtain ⟨r, er, er'⟩ : ∃ r : Nat, (p : Int) % 4 = (r : Int) ∧ r = p % 4 := ⟨p % 4, by omega, rfl⟩
        obtain ⟨t, et, et'⟩ : ∃ t : Nat, (r : Int) * 8 = (t : Int) ∧ t = r * 8 := ⟨r * 8, by omega, rfl⟩
        have hq : q < m := by have := HM.out; omega
        have R := read_step (by rw [byts_length]; exact HN.out) hlt hok HV.out ep' eq' (show t = p % 4 * 8 by omega) eb hb8 (by omega)
        obtain ⟨r1, r2, r3, r4⟩ := R
        obtain ⟨y, ey⟩ : ∃ y : Nat, b * 2 ^ t = y := ⟨_, rfl⟩
        rw [ey] at r2 r3 r4
        have hsh : IntKind.u32.wrap ((b : Int) * 2 ^ t) = (y : Int) := by
          rw [show ((b : Int) * 2 ^ t) = ((y : Nat) : Int) by rw [← ey]; simp, IntKind.wrap_u32]; omega
        have hcb : (((s[j]'hjs).toNat : Nat) : Int) = (b : Int) := by rw [hb]
        have hcell := hblk.cell (i := q) (by omega)
        have hf := hblk.free q
        have hob := lim_lt hok q
        have hor1 : bits BinOp.or IntKind.u32 ((lim os q : Nat) : Int) (y : Int) = ((lim os q + y : Nat) : Int) := or_u32' r2 r1 (by omega) hob
        obtain ⟨o1, eo1⟩ : ∃ o1 : Nat, lim os q + y = o1 := ⟨_, rfl⟩
        rw [eo1] at hor1 r3 r4
        have HV2 := Lib.hid r4
        have HB2 := Lib.hid (hblk.set q o1)
        have HK2 := Lib.hid (hkeep.setCell (a := ⟨w.heap.size + 1, q, none⟩) rfl (.int .u32 (o1 : Nat)))
        have HOK := Lib.hid (hok.set q o1 (by omega))
        have HOL := Lib.hid hol
        have ht32 : t < 32 := by omega
        have hpb : p ≤ 300 := by omega
        have hr4 : r < 4 := by omega
        have hj3 : j < 300 := by omega
        have w1' : IntKind.i64.wrap ((j : Int) + 1) = (j : Int) + 1 := IntWalk.i64_in _ (by omega)
        clear r1 r2 r3 r4 ey eo1 hok hol hblk hkeep HV ep' eq' er' et' hb eb
        go_wp2_with fail
        go_big_region
        all_goals go_wp2_with fail
        all_goals exact ⟨⟨j + 1, _, by omega, by go_num, by rw [List.length_set]; exact HOL.out, HOK.out, HV2, HB2.out, HK2.out.drew⟩, by simp [intOf]; omega⟩
      · obtain rfl : n = j := by omega
        have hv2 : val os = bv (byts s) := by rw [HV.out, Nat.sub_self, Nat.pow_zero, Nat.mul_one, List.take_of_length_le (by rw [byts_length]; have := HN.out; omega)]
        have HV2 := Lib.hid hv2
        have hsl := Sl.of_blk hblk
        rw [hol] at hsl
        have HSL := Lib.hid hsl
        have HR0 := Lib.hid ((hkeep.block w.heap.size (by omega) (by omega)).trans HRS.out)
        have HB0 := Lib.hid (HBW.out.trans (hkeep.below (B := w.heap.size) HBW.out.size (fun k e => by omega)))
        have hxl2 : os.length ≤ 1000000000000 := by omega
        have hrs : w.heap.size < wr.heap.size := by have := hkeep.size; omega
        clear hv2 hsl hblk hkeep HV
        go_wp2_with fail
        refine (wrap_any _ os _ HSL.out hok hxl2).mono ?_
        rintro e w2 ⟨v', rfl, hn2, hb2⟩
        obtain ⟨ad2, len2, cap2, rfl, hr2⟩ := hn2.shape
        have hk2 := (hb2.block w.heap.size hrs).trans HR0.out
        have hc := cell_of hk2 0
        have hf := free_of hk2 0
        simp only [List.getElem?_toArray, List.getElem?_cons_zero] at hc
        have HR := Lib.hid (fin_nat (bel_on HB0.out hb2) hk2 (by decide) hr2 (Nat.le_refl _) 0)
        clear hr2 hb2 hk2 hn2
        go_wp2
        refine bodyPost_ret (v := .tuple #[.agg #[.slice ad2 len2 cap2], .int .i64 0]) (by simp [results, Tryd.results21, go_sem, World.cell?_setCell_same _ _ _ hc]) rfl ⟨_, rfl, ?_⟩
        have := HR.out
        rw [HV2.out] at this
        exact this

end Go.Proofs.YtpchnejdbmoicaaDoor
