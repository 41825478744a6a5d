/- Contracts of nat's Shl, shiftDown, Shr. -/
import Derived.Test.YtpchnejdbmoicaaDoorW4
import Derived.Deep.RegionHeld3
namespace Go.Proofs.YtpchnejdbmoicaaDoor
open Go.RowKit Cin

theorem info_u32 : (Tryd.prog.info? 68).map (fun i => (i.zero, i.size, i.bytes)) = some (some (.int .u32 0), 1, 4) := by kernel_rfl

set_option maxHeartbeats 400000 in
/-- Shl: times a power of 2. -/
theorem shl_any (v : Value) (x : Nat) (m : Int) (L : Nat) (w : World) (h : NatV 68 w v x) (hx : x < pw L) (hL : L ≤ 100000000) :
    Calls Tryd.prog 44 #[v, .int .i64 m] w fun e w' => ∃ v', e = .returned v' ∧ NatV 68 w' v' (x * 2 ^ cut m) ∧ Below w.heap.size w w' := by
  have hk := cut_le m
  generalize hkk : cut m = k at *
  have HKK := Lib.hid hkk
  clear hkk
  obtain ⟨ad, len, cap, rfl, xs, hs, ho, hnm, rfl⟩ := h.shape
  obtain ⟨i0, hi0, hz0, hz1, hz2⟩ := info_parts info_u32
  have H := Lib.hid hs
  have hl : len ≤ 100000000 := by have := norm_len hnm hx; obtain ⟨_, _, e, _⟩ := hs.shape; cases e; omega
  have HN := Lib.hid hnm
  clear h hs hnm hx
  obtain ⟨i, hi, ei⟩ : ∃ i : Nat, (k : Int) / 32 = (i : Int) ∧ i = k / 32 := ⟨k / 32, by omega, rfl⟩
  obtain ⟨s, hs, es⟩ : ∃ s : Nat, (k : Int) % 32 = (s : Int) ∧ s = k % 32 := ⟨k % 32, by omega, rfl⟩
  obtain ⟨n, hn, en⟩ : ∃ n : Nat, (len : Int) + (i : Int) + 1 = (n : Int) ∧ n = len + i + 1 := ⟨len + i + 1, by omega, rfl⟩
  have hib : i ≤ 32768 := by omega
  have hsb : s < 32 := by omega
  have hni : ¬ (n = i) := by omega
  have hin : i ≤ n := by omega
  have hnb : n ≤ 200000000 := by omega
  have EK := Lib.hid (show 2 ^ k = pw i * 2 ^ s by rw [ei, es]; exact pow2_split32 k)
  have EN := Lib.hid en
  clear ei es en
  go_enter Tryd.func44, Tryd.ntmps44
  go_wp2_with fail
  refine (cutShift_any _ _).mono ?_
  rintro e w1 ⟨rfl, rfl⟩
  rw [HKK.out]
  go_wp2_with (at_make; refine wpList_make_ints _ rfl _ _ 23 rfl 68 i0 .u32 Tryd.underlying23 hi0 hz0 hz1 .i64 .i64 _ _ n n rfl rfl (by omega) (by omega) (Nat.le_refl _) (by rw [hz2]; omega) (by omega) ?_)
  have hsl3 : Sl 68 .u32 (((w.alloc (Obj.cells #[Value.slice ad len cap] 25)).alloc (Obj.cells #[Value.slice none 0 0] 25)).alloc (Obj.cells (ints IntKind.u32 (List.replicate n 0)) 68)).drew (.slice ad len cap) xs := ((H.out.alloc _).alloc _).alloc _
  have hbk3 : Blk (((w.alloc (Obj.cells #[Value.slice ad len cap] 25)).alloc (Obj.cells #[Value.slice none 0 0] 25)).alloc (Obj.cells (ints IntKind.u32 (List.replicate n 0)) 68)).drew (w.heap.size + 1 + 1) 68 .u32 (List.replicate n 0) := by
    have := Blk.new ((w.alloc (Obj.cells #[Value.slice ad len cap] 25)).alloc (Obj.cells #[Value.slice none 0 0] 25)) 68 .u32 (List.replicate n 0)
    simp only [World.size_alloc] at this
    exact this.drew
  have hne3 : ∀ b' o' n' c', Value.slice ad len cap = .slice (some ⟨b', o', none⟩) n' c' → b' ≠ w.heap.size + 1 + 1 := fun b' o' n' c' e => by
    have := H.out.lt e; omega
  have hlx : xs.length = len := by obtain ⟨_, _, e, _⟩ := H.out.shape; cases e; rfl
  have HSL := Lib.hid hsl3
  have HBK := Lib.hid hbk3
  have HNE := Lib.hid hne3
  have HLX := Lib.hid hlx
  clear hsl3 hbk3 hne3 hlx
  go_region_held3 (fun w' => w'.cell? ⟨w.heap.size, 0, none⟩ = some (.slice ad len cap)) (first | go_keep | exact hc1)
    (first | (go_at_call 85; refine (shiftUp_any (w.heap.size + 1 + 1) i (n - i) (n - i) (List.replicate n 0) (.slice ad len cap) xs s _ hsb HSL.out ho HBK.out HNE.out (by have := HLX.out; have := EN.out; omega) (Nat.le_refl _) (by rw [List.length_replicate]; omega) (by have := HLX.out; omega)).mono ?_; rintro e w1 ⟨rfl, os, r1, r2, r3, r4, r5⟩; have hc1 : w1.cell? ⟨w.heap.size, 0, none⟩ = some (.slice ad len cap) := (cell_of ((r5.block w.heap.size (by simp; omega) (by omega)).trans (new_block3 _ _ _ _)) 0)))
  have hk1 := (r5.block (w.heap.size + 1) (by simp) (by simp)).trans (nb31 _ _ _ _)
  have hbel1 : Below w.heap.size w w1 := (bel_alloc3 w _ _ _).drew.trans (r5.below (by simp; omega) (fun k e => by omega))
  have hlen : (splice (List.replicate n 0) i os).length = n := by rw [splice_length (by rw [r1, HLX.out, EN.out]; simp; omega)]; simp
  have hval : val (splice (List.replicate n 0) i os) = val xs * 2 ^ k := by
    rw [val_splice_zeros (by rw [r1, HLX.out, EN.out]; omega), r3, EK.out]; ac_rfl
  have hsl := Sl.of_blk r4
  rw [hlen] at hsl
  have hoks : Ok (splice (List.replicate n 0) i os) := splice_ok (Ok.replicate n) r2
  have HV := Lib.hid hval
  have HLE := Lib.hid hlen
  have HS := Lib.hid hsl
  have HK1 := Lib.hid hk1
  have HB1 := Lib.hid hbel1
  clear hval hlen hsl hk1 hbel1 r1 r3 r4 r5
  go_wp2_with fail
  refine (wrap_any _ _ _ HS.out hoks (by rw [HLE.out]; omega)).mono ?_
  rintro e w2 ⟨v', rfl, hn2, hb2⟩
  obtain ⟨ad2, len2, cap2, rfl, hr2⟩ := hn2.shape
  have hk2 := (hb2.block (w.heap.size + 1) (by have := HB1.out.size; have := HS.out.lt rfl; omega)).trans HK1.out
  have hc := cell_of hk2 0
  have hf := free_of hk2 0
  simp only [List.getElem?_toArray, List.getElem?_cons_zero] at hc
  have HR := Lib.hid (fin_nat (bel_on HB1.out hb2) hk2 (by decide) hr2 (by omega) 0)
  clear hr2 hb2 hk2 hn2
  go_wp2
  refine bodyPost_ret (v := .agg #[.slice ad2 len2 cap2]) (by simp [results, Tryd.results44, go_sem, World.cell?_setCell_same _ _ _ hc]) rfl ⟨_, rfl, ?_⟩
  have := HR.out
  rw [HV.out] at this
  exact this

end Go.Proofs.YtpchnejdbmoicaaDoor
