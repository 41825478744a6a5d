/- Contracts of math/bits.TrailingZeros32, nat's Bits, Zeros. -/
import Derived.Test.YtfohgkabmdhhaaaGreatDoorYa
import Derived.Test.YtfohgkabmdhhaaaGreatDoorShelf
import Derived.Shelf.Spec.TrailingZeros
import Derived.Deep.RegionHeld3
namespace Go.Proofs.YtfohgkabmdhhaaaGreatDoor
open Go.RowKit Cin

/-- The library's tables lie as its text lays them. -/
structure Tabs (w : World) : Prop where
  b32 : Lib.TabIs Tryz.prog w "math/bits.deBruijn32tab" .u8 (Lib.deBruijn32tab.map Int.ofNat)
  p10 : Lib.TabIs Tryz.prog w "internal/strconv.uint64pow10" .u64 Lib.pow10Tab
theorem glob32 : Tryz.prog.globalNamed "math/bits.deBruijn32tab" = some 1 := by kernel_rfl
theorem tab_below {P : Program} {w w' : World} {n : String} {k : IntKind} {zs : List Int} (h : Lib.TabIs P w n k zs) (hb : Below w.heap.size w w') : Lib.TabIs P w' n k zs := by
  unfold Lib.TabIs at *
  cases hg : P.globalNamed n with
  | none => unfold World.var? at h; rw [hg] at h; cases h
  | some g =>
    refine var?_below hb hg ?_ h
    unfold World.var? at h
    rw [hg] at h
    rcases Nat.lt_or_ge g w.heap.size with hl | hl
    · exact hl
    · simp [Array.getElem?_eq_none hl] at h
theorem Tabs.below {w w' : World} (h : Tabs w) (hb : Below w.heap.size w w') : Tabs w' := ⟨tab_below h.b32 hb, tab_below h.p10 hb⟩

theorem isBl_aux : ∀ (f x : Nat), x < 2 ^ f → IsBl x (Lib.bitLenAux f x)
  | 0, x, h => by
    have : x = 0 := by simpa using h
    subst this; exact IsBl.zero
  | f + 1, x, h => by
    unfold Lib.bitLenAux
    split
    · rename_i h0; subst h0; exact IsBl.zero
    · rename_i h0
      have ih := isBl_aux f (x / 2) (by rw [Nat.pow_succ] at h; omega)
      have h1 := ih.1
      refine ⟨by rw [Nat.add_comm, Nat.pow_succ]; omega, .inr ?_⟩
      rw [Nat.add_sub_cancel_left]
      rcases ih.2 with h2 | h2
      · rw [h2]; simp; omega
      · rcases Nat.eq_zero_or_pos (Lib.bitLenAux f (x / 2)) with e | e
        · rw [e]; simp; omega
        · obtain ⟨q, hq⟩ : ∃ q, Lib.bitLenAux f (x / 2) = q + 1 := ⟨_, (Nat.sub_add_cancel e).symm⟩
          rw [hq] at h2 ⊢
          rw [Nat.add_sub_cancel] at h2
          rw [Nat.pow_succ]; omega
theorem isBl_len (x : Nat) (h : x < 4294967296) : IsBl x (Lib.bitLen x) := isBl_aux 64 x (by omega)
theorem bitLen_le (x : Nat) (h : x < 4294967296) : Lib.bitLen x ≤ 32 := by
  rcases (isBl_len x h).2 with e | e
  · omega
  · rcases Nat.lt_or_ge 32 (Lib.bitLen x) with hl | hl
    · have := Nat.pow_le_pow_right (n := 2) (by decide) (show 32 ≤ Lib.bitLen x - 1 by omega)
      omega
    · exact hl

set_option maxHeartbeats 400000 in
/-- Bits: how many binary digits. -/
theorem bits_any (v : Value) (x L : Nat) (w : World) (h : NatV 146 w v x) (hx : x < pw L) (hL : L ≤ 100000000) :
    Calls Tryz.prog 151 #[v] w fun e w' => ∃ k : Nat, e = .returned (.int .i64 k) ∧ IsBl x k ∧ Below w.heap.size w w' := by
  obtain ⟨ad, len, cap, rfl, xs, hs, ho, hnm, rfl⟩ := h.shape
  have hlx := hs.len
  have hl : len ≤ 100000000 := by have := norm_len hnm hx; omega
  clear hx h
  rcases Nat.eq_zero_or_pos len with h0 | h0
  · subst h0
    have : xs = [] := List.length_eq_zero_iff.1 hlx
    subst this
    clear hs hlx hnm ho
    go_enter Tryz.func151, Tryz.ntmps151
    go_wp2
    go_ret
    exact ⟨0, rfl, IsBl.zero, bel_alloc _ _⟩
  · obtain ⟨n, rfl⟩ : ∃ n, len = n + 1 := ⟨len - 1, by omega⟩
    obtain ⟨b, off, rfl, hcell, hblt⟩ := hs.cell (i := n) (by omega)
    have hlim := lim_lt ho n
    have hne : xs ≠ [] := by intro e; subst e; simp at hlx
    have htop := bl_top (c := Lib.bitLen (lim xs n)) hne ho (by rw [hlx, Nat.add_sub_cancel]; exact isBl_len _ hlim) (by rcases hnm with e | e; exact absurd e hne; exact e)
    rw [hlx, Nat.add_sub_cancel] at htop
    have HT := Lib.hid htop
    have hbl := bitLen_le _ hlim
    have heq : ((n : Int) + 1 == 0) = false := by simp; omega
    generalize hbb : Lib.bitLen (lim xs n) = c at *
    have HBB := Lib.hid hbb
    have HLX := Lib.hid hlx
    clear htop hbb hs hlx hnm ho hne
    go_enter Tryz.func151, Tryz.ntmps151
    go_wp2_with (go_at_call 169; refine (Tryz.bits_Len32 _ _ (by omega) (by omega)).mono ?_; rintro e w' ⟨rfl, rfl⟩; rw [Int.toNat_natCast, HBB.out])
    go_ret
    exact ⟨32 * n + c, ret_int (by omega), HT.out, bel_alloc _ _⟩

theorem bits_and_u32 (a b : Nat) (ha : a < 4294967296) (hb : b < 4294967296) : bits .and .u32 (a : Int) (b : Int) = ((a &&& b : Nat) : Int) := u32_and_nat a b ha hb

set_option maxHeartbeats 400000 in
theorem tz32_core (x k idx : Nat) (w : World) (hx0 : ((x : Int) == 0) = false)
    (key : bits BinOp.and IntKind.u32 (x : Int) (-(x : Int) % 4294967296) * 125613361 % 4294967296 / 134217728 = (idx : Int))
    (hi : idx < 32) (hk : k < 32) (hcell : w.cell? ⟨1, idx, none⟩ = some (.int .u8 k)) :
    Calls Tryz.prog 184 #[.int .u32 x] w fun e w' => e = .returned (.int .i64 k) ∧ w = w' := by
  go_enter Tryz.func184, Tryz.ntmps184
  go_wp2
  go_ret
  exact ⟨rfl, rfl⟩

/-- TrailingZeros32 of a word that is not 0. -/
theorem tz32_any (x : Nat) (w : World) (hT : Tabs w) (hx : x < 4294967296) (h0 : x ≠ 0) :
    Calls Tryz.prog 184 #[.int .u32 x] w fun e w' => ∃ k : Nat, e = .returned (.int .i64 k) ∧ k < 32 ∧ (∃ m, x = 2 ^ k * (2 * m + 1)) ∧ w = w' := by
  obtain ⟨hlow, hk⟩ := Lib.lowest_bit 32 x h0 hx
  obtain ⟨hi, htab⟩ := Lib.deBruijn32_at _ hk
  obtain ⟨m, hm, _⟩ := Lib.ctzFrom_spec 32 x (by omega) hx
  have hcell := hT.b32.cell glob32 _ (show _ < (Lib.deBruijn32tab.map Int.ofNat).length from hi)
  have hkey := tz32_key x _ hx h0 hlow
  have hct : Lib.ctz 32 x = Lib.ctzFrom 32 x := by unfold Lib.ctz; rw [if_neg h0]
  rw [show ((Lib.deBruijn32tab.map Int.ofNat).getD (2 ^ Lib.ctz 32 x * 125613361 % 4294967296 / 134217728) 0) = ((Lib.deBruijn32tab.getD (2 ^ Lib.ctz 32 x * 125613361 % 4294967296 / 134217728) 0 : Nat) : Int) by
    rw [List.getD_eq_getElem?_getD, List.getElem?_map, List.getD_eq_getElem?_getD]; cases Lib.deBruijn32tab[2 ^ Lib.ctz 32 x * 125613361 % 4294967296 / 134217728]? <;> rfl, htab] at hcell
  refine (tz32_core x (Lib.ctz 32 x) _ w (by simp; omega) hkey hi hk hcell).mono fun e w' ⟨he, hw⟩ => ⟨_, he, hk, ⟨m, by rw [hct]; exact hm⟩, hw⟩

set_option maxHeartbeats 400000 in
/-- Zeros: how often 2 goes into it. -/
theorem zeros_any (v : Value) (x L : Nat) (w : World) (hT : Tabs w) (h : NatV 146 w v x) (hx : x < pw L) (hL : L ≤ 100000000) :
    Calls Tryz.prog 154 #[v] w fun e w' => ∃ k : Nat, e = .returned (.int .i64 k) ∧ IsTz x k ∧ Below w.heap.size w w' := by
  obtain ⟨ad, len, cap, rfl, xs, hs, ho, hnm, rfl⟩ := h.shape
  have hlx := hs.len
  have hl : len ≤ 100000000 := by have := norm_len hnm hx; omega
  have HT := Lib.hid (hT.below (bel_alloc w (Obj.cells #[Value.slice ad len cap] 27)))
  have H := Lib.hid hs
  have HN := Lib.hid hnm
  have HLX := Lib.hid hlx
  clear hx h hs hnm hlx hT
  go_enter Tryz.func154, Tryz.ntmps154
  go_wp2_with fail
  go_loop [3, 4, 8] (fun _ _ i => ∃ k : Nat, k ≤ len ∧ i = .int .i64 k ∧ ∀ j, j < k → lim xs j = 0) (fun _ _ i => len - (intOf i).toNat)
  case atStart => exact ⟨0, Nat.zero_le _, rfl, fun j hj => absurd hj (Nat.not_lt_zero _)⟩
  case round =>
    obtain ⟨k, hk, rfl, hz⟩ := hrel
    have HZ := Lib.hid hz
    clear hz
    by_cases hlt : k < len
    · obtain ⟨b, off, rfl, hcell, hblt⟩ := (H.out.alloc (Obj.cells #[Value.slice ad len cap] 27)).cell (i := k) (by have := HLX.out; omega)
      have hlim := lim_lt ho k
      by_cases h0 : lim xs k = 0
      · have hb : (((lim xs k : Nat) : Int) != 0) = false := by simp [h0]
        have H0 := Lib.hid h0
        clear h0
        go_wp2
        refine ⟨⟨k + 1, by omega, by go_num, fun j hj => ?_⟩, by simp [intOf]; omega⟩
        rcases Nat.lt_or_eq_of_le (Nat.le_of_lt_succ hj) with h1 | rfl
        · exact HZ.out j h1
        · exact H0.out
      · have hb : (((lim xs k : Nat) : Int) != 0) = true := by simp; omega
        have H0 := Lib.hid h0
        clear h0
        go_wp2_with (go_at_call 184; refine (tz32_any _ _ HT.out hlim H0.out).mono ?_; rintro e w' ⟨c, rfl, hc, hm, rfl⟩; obtain ⟨m, hm⟩ := hm; have HM := Lib.hid hm; clear hm)
        go_ret
        exact ⟨32 * k + c, ret_int (by omega), tz_low (by have := HLX.out; omega) HZ.out hc HM.out, bel_alloc _ _⟩
    · go_wp2
      go_ret
      refine ⟨0, rfl, .inl ⟨?_, rfl⟩, bel_alloc _ _⟩
      have : xs = List.replicate xs.length 0 := ext_lim (by simp) (fun i hi => by rw [lim_replicate]; exact HZ.out i (by have := HLX.out; omega))
      rw [this, val_replicate]

end Go.Proofs.YtfohgkabmdhhaaaGreatDoor
/- Contracts of nat's Shl, shiftDown, Shr. -/
namespace Go.Proofs.YtfohgkabmdhhaaaGreatDoor
open Go.RowKit Cin

theorem info_u32 : (Tryz.prog.info? 146).map (fun i => (i.zero, i.size, i.bytes)) = some (some (.int .u32 0), 1, 4) := by kernel_rfl

set_option maxHeartbeats 400000 in
/-- Shl: times a power of 2. -/
theorem shl_any (v : Value) (x : Nat) (m : Int) (L : Nat) (w : World) (h : NatV 146 w v x) (hx : x < pw L) (hL : L ≤ 100000000) :
    Calls Tryz.prog 183 #[v, .int .i64 m] w fun e w' => ∃ v', e = .returned v' ∧ NatV 146 w' v' (x * 2 ^ cut m) ∧ Below w.heap.size w w' := by
  have hk := cut_le m
  generalize hkk : cut m = k at *
  have HKK := Lib.hid hkk
  clear hkk
  obtain ⟨ad, len, cap, rfl, xs, hs, ho, hnm, rfl⟩ := h.shape
  obtain ⟨i0, hi0, hz0, hz1, hz2⟩ := info_parts info_u32
  have H := Lib.hid hs
  have hl : len ≤ 100000000 := by have := norm_len hnm hx; obtain ⟨_, _, e, _⟩ := hs.shape; cases e; omega
  have HN := Lib.hid hnm
  clear h hs hnm hx
  obtain ⟨i, hi, ei⟩ : ∃ i : Nat, (k : Int) / 32 = (i : Int) ∧ i = k / 32 := ⟨k / 32, by omega, rfl⟩
  obtain ⟨s, hs, es⟩ : ∃ s : Nat, (k : Int) % 32 = (s : Int) ∧ s = k % 32 := ⟨k % 32, by omega, rfl⟩
  obtain ⟨n, hn, en⟩ : ∃ n : Nat, (len : Int) + (i : Int) + 1 = (n : Int) ∧ n = len + i + 1 := ⟨len + i + 1, by omega, rfl⟩
  have hib : i ≤ 32768 := by omega
  have hsb : s < 32 := by omega
  have hni : ¬ (n = i) := by omega
  have hin : i ≤ n := by omega
  have hnb : n ≤ 200000000 := by omega
  have EK := Lib.hid (show 2 ^ k = pw i * 2 ^ s by rw [ei, es]; exact pow2_split32 k)
  have EN := Lib.hid en
  clear ei es en
  go_enter Tryz.func183, Tryz.ntmps183
  go_wp2_with fail
  refine (cutShift_any _ _).mono ?_
  rintro e w1 ⟨rfl, rfl⟩
  rw [HKK.out]
  go_wp2_with (at_make; refine wpList_make_ints _ rfl _ _ 25 rfl 146 i0 .u32 Tryz.underlying25 hi0 hz0 hz1 .i64 .i64 _ _ n n rfl rfl (by omega) (by omega) (Nat.le_refl _) (by rw [hz2]; omega) (by omega) ?_)
  have hsl3 : Sl 146 .u32 (((w.alloc (Obj.cells #[Value.slice ad len cap] 27)).alloc (Obj.cells #[Value.slice none 0 0] 27)).alloc (Obj.cells (ints IntKind.u32 (List.replicate n 0)) 146)).drew (.slice ad len cap) xs := ((H.out.alloc _).alloc _).alloc _
  have hbk3 : Blk (((w.alloc (Obj.cells #[Value.slice ad len cap] 27)).alloc (Obj.cells #[Value.slice none 0 0] 27)).alloc (Obj.cells (ints IntKind.u32 (List.replicate n 0)) 146)).drew (w.heap.size + 1 + 1) 146 .u32 (List.replicate n 0) := by
    have := Blk.new ((w.alloc (Obj.cells #[Value.slice ad len cap] 27)).alloc (Obj.cells #[Value.slice none 0 0] 27)) 146 .u32 (List.replicate n 0)
    simp only [World.size_alloc] at this
    exact this.drew
  have hne3 : ∀ b' o' n' c', Value.slice ad len cap = .slice (some ⟨b', o', none⟩) n' c' → b' ≠ w.heap.size + 1 + 1 := fun b' o' n' c' e => by
    have := H.out.lt e; omega
  have hlx : xs.length = len := by obtain ⟨_, _, e, _⟩ := H.out.shape; cases e; rfl
  have HSL := Lib.hid hsl3
  have HBK := Lib.hid hbk3
  have HNE := Lib.hid hne3
  have HLX := Lib.hid hlx
  clear hsl3 hbk3 hne3 hlx
  go_region_held3 (fun w' => w'.cell? ⟨w.heap.size, 0, none⟩ = some (.slice ad len cap)) (first | go_keep | exact hc1)
    (first | (go_at_call 191; refine (shiftUp_any (w.heap.size + 1 + 1) i (n - i) (n - i) (List.replicate n 0) (.slice ad len cap) xs s _ hsb HSL.out ho HBK.out HNE.out (by have := HLX.out; have := EN.out; omega) (Nat.le_refl _) (by rw [List.length_replicate]; omega) (by have := HLX.out; omega)).mono ?_; rintro e w1 ⟨rfl, os, r1, r2, r3, r4, r5⟩; have hc1 : w1.cell? ⟨w.heap.size, 0, none⟩ = some (.slice ad len cap) := (cell_of ((r5.block w.heap.size (by simp; omega) (by omega)).trans (new_block3 _ _ _ _)) 0)))
  have hk1 := (r5.block (w.heap.size + 1) (by simp) (by simp)).trans (nb31 _ _ _ _)
  have hbel1 : Below w.heap.size w w1 := (bel_alloc3 w _ _ _).drew.trans (r5.below (by simp; omega) (fun k e => by omega))
  have hlen : (splice (List.replicate n 0) i os).length = n := by rw [splice_length (by rw [r1, HLX.out, EN.out]; simp; omega)]; simp
  have hval : val (splice (List.replicate n 0) i os) = val xs * 2 ^ k := by
    rw [val_splice_zeros (by rw [r1, HLX.out, EN.out]; omega), r3, EK.out]; ac_rfl
  have hsl := Sl.of_blk r4
  rw [hlen] at hsl
  have hoks : Ok (splice (List.replicate n 0) i os) := splice_ok (Ok.replicate n) r2
  have HV := Lib.hid hval
  have HLE := Lib.hid hlen
  have HS := Lib.hid hsl
  have HK1 := Lib.hid hk1
  have HB1 := Lib.hid hbel1
  clear hval hlen hsl hk1 hbel1 r1 r3 r4 r5
  go_wp2_with fail
  refine (wrap_any _ _ _ HS.out hoks (by rw [HLE.out]; omega)).mono ?_
  rintro e w2 ⟨v', rfl, hn2, hb2⟩
  obtain ⟨ad2, len2, cap2, rfl, hr2⟩ := hn2.shape
  have hk2 := (hb2.block (w.heap.size + 1) (by have := HB1.out.size; have := HS.out.lt rfl; omega)).trans HK1.out
  have hc := cell_of hk2 0
  have hf := free_of hk2 0
  simp only [List.getElem?_toArray, List.getElem?_cons_zero] at hc
  have HR := Lib.hid (fin_nat (bel_on HB1.out hb2) hk2 (by decide) hr2 (by omega) 0)
  clear hr2 hb2 hk2 hn2
  go_wp2
  refine bodyPost_ret (v := .agg #[.slice ad2 len2 cap2]) (by simp [results, Tryz.results183, go_sem, World.cell?_setCell_same _ _ _ hc]) rfl ⟨_, rfl, ?_⟩
  have := HR.out
  rw [HV.out] at this
  exact this

end Go.Proofs.YtfohgkabmdhhaaaGreatDoor
/- Contracts of nat's shiftDown, Shr. -/
namespace Go.Proofs.YtfohgkabmdhhaaaGreatDoor
open Go.RowKit Cin

/-- What is left to read stays. -/
theorem shiftDown_read {t : TypeId} {w : World} {v : Value} {xs ys : List Nat} {b off len cap : Nat} (h : Sl t .u32 w v xs) (hB : Blk w b t .u32 ys)
    (hne : (∀ b' o' n' c', v = .slice (some ⟨b', o', none⟩) n' c' → b' ≠ b) ∨ ∃ n' c', v = .slice (some ⟨b, off, none⟩) n' c') (hlen : xs.length ≤ len) (hcl : len ≤ cap) (hoff : off + cap ≤ ys.length)
    (k : Nat) (os : List Nat) (wr : World) (hol : os.length = k) (hk : k ≤ xs.length) (hblk : Blk wr b t .u32 (splice ys off os)) (hkeep : Keep (· = b) w wr) :
    ∃ zs, Sl t .u32 wr v zs ∧ zs.length = xs.length ∧ ∀ j, k ≤ j → lim zs j = lim xs j := by
  rcases hne with hne | ⟨n', c', rfl⟩
  · exact ⟨xs, h.keep hkeep hne, rfl, fun _ _ => rfl⟩
  · rcases h with ⟨e, _⟩ | ⟨b1, o1, c1, cur, e, hb1, hc1, hl1, hx1⟩
    · cases e
    · cases e
      unfold Blk at hB
      rw [hB] at hb1
      simp only [Option.some.injEq, Obj.cells.injEq, and_true] at hb1
      subst hb1
      rw [ints_size] at hc1
      refine ⟨((splice ys off os).drop off).take xs.length, Sl.of_part hblk (by rw [splice_length (by omega)]; exact hc1) hl1, ?_, ?_⟩
      · rw [List.length_take, List.length_drop, splice_length (by omega)]; omega
      · intro j hj
        rcases Nat.lt_or_ge j xs.length with hjx | hjx
        · have e1 := hx1 j hjx
          rw [ints_get (by omega)] at e1
          simp only [Option.some.injEq, Value.int.injEq, true_and] at e1
          rw [lim_take hjx, lim_drop]
          unfold splice
          rw [lim_append_right (by simp; omega), lim_drop]
          have e2 : off + os.length + (off + j - (ys.take off ++ os).length) = off + j := by simp; omega
          rw [e2]; omega
        · rw [lim_ge (by rw [List.length_take]; omega), lim_ge hjx]

theorem shiftDown_step {t : TypeId} {w wr : World} {xs ys zs os : List Nat} {b off k s tm : Nat} (ho : Ok xs) (hs : s < 32) (hol : os.length = k) (hok : Ok os) (hv : val os = val xs / 2 ^ s % pw k)
    (hblk : Blk wr b t .u32 (splice ys off os)) (hkeep : Keep (· = b) w wr) (hzs : ∀ j, k ≤ j → lim zs j = lim xs j) (etm : tm = (lim zs k + lim zs (k + 1) * 4294967296) / 2 ^ s % 4294967296) (hlt : off + k < ys.length) (nq : Nat) :
    (os ++ [tm]).length = k + 1 ∧ Ok (os ++ [tm]) ∧ val (os ++ [tm]) = val xs / 2 ^ s % pw (k + 1) ∧
          Blk ((wr.drewN nq).setCell ⟨b, off + k, none⟩ (.int .u32 (tm : Nat))) b t .u32 (splice ys off (os ++ [tm])) ∧ Keep (· = b) w ((wr.drewN nq).setCell ⟨b, off + k, none⟩ (.int .u32 (tm : Nat))) := by
  have hb : Blk (wr.drewN nq) b t .u32 (splice ys off os) := hblk
  have hkk : Keep (· = b) w (wr.drewN nq) := ⟨hkeep.os, hkeep.tape, hkeep.output, hkeep.size, hkeep.block⟩
  have htm : tm < 4294967296 := by rw [etm]; exact Nat.mod_lt _ (by decide)
  have e1 := val_snoc os tm
  have e2 := mod_pw_succ (val xs / 2 ^ s) k
  have e3 := limb_shift ho k s hs
  rw [hol, hv] at e1
  rw [← hzs k (Nat.le_refl _), ← hzs (k + 1) (Nat.le_succ _), ← etm] at e3
  refine ⟨by rw [List.length_append, hol]; rfl, hok.append (Ok.cons htm Ok.nil), by rw [e1, e2, e3], ?_, hkk.setCell rfl _⟩
  have := hb.set (off + k) tm
  rw [← hol, splice_set (by omega), hol] at this
  exact this

set_option maxHeartbeats 1000000 in
/-- shiftDown, into another block, or into the place of what is shifted. -/
theorem shiftDown_any (b off len cap : Nat) (ys : List Nat) (v : Value) (xs : List Nat) (s : Nat) (w : World) (hs : s < 32) (h : Sl 146 .u32 w v xs) (ho : Ok xs) (hB : Blk w b 146 .u32 ys)
    (hne : (∀ b' o' n' c', v = .slice (some ⟨b', o', none⟩) n' c' → b' ≠ b) ∨ ∃ n' c', v = .slice (some ⟨b, off, none⟩) n' c') (hlen : xs.length ≤ len) (hcl : len ≤ cap) (hoff : off + cap ≤ ys.length) (hn : xs.length ≤ 1000000000000) :
    Calls Tryz.prog 186 #[.slice (some ⟨b, off, none⟩) len cap, v, .int .i64 s] w fun e w' => e = .returned (.tuple #[]) ∧
      ∃ os, os.length = xs.length ∧ Ok os ∧ val os = val xs / 2 ^ s ∧ Blk w' b 146 .u32 (splice ys off os) ∧ Keep (· = b) w w' := by
  have hfin : val xs / 2 ^ s % pw xs.length = val xs / 2 ^ s := Nat.mod_eq_of_lt (Nat.lt_of_le_of_lt (Nat.div_le_self _ _) (val_lt ho))
  have HR := Lib.hid (shiftDown_read h hB hne hlen hcl hoff)
  have HF := Lib.hid hfin
  have HB := Lib.hid hB
  obtain ⟨ad, xcap, rfl, hcap, had⟩ := h.shape
  clear h had hne hB hfin
  generalize hln : xs.length = n at *
  have HLN := Lib.hid hln
  clear hln
  go_enter Tryz.func186, Tryz.ntmps186
  go_wp2_with fail
  go_loopw [6, 7, 10] (fun _ _ i wr => ∃ (k : Nat) (os : List Nat), k ≤ n ∧ i = .int .i64 k ∧ os.length = k ∧ Ok os ∧ val os = val xs / 2 ^ s % pw k ∧
      Blk wr b 146 .u32 (splice ys off os) ∧ Keep (· = b) w wr) (fun _ _ i _ => n - (intOf i).toNat)
  case atStart => exact ⟨0, [], Nat.zero_le _, rfl, rfl, Ok.nil, by rw [pw_zero, Nat.mod_one]; rfl, by rw [splice_nil]; exact HB.out, Keep.refl _ _⟩
  case round =>
    obtain ⟨k, os, hk, rfl, hol, hok, hv, hblk, hkeep⟩ := hrel
    obtain ⟨zs, hsl, hzl, hzs⟩ := HR.out k os wr hol (by have := HLN.out; omega) hblk hkeep
    have HOL := Lib.hid hol
    have HV := Lib.hid hv
    have HBK := Lib.hid hblk
    have HK := Lib.hid hkeep
    have HZS := Lib.hid hzs
    have hzl' : zs.length = n := by have := HLN.out; omega
    clear hol hv hkeep hzl
    by_cases hlt : k < n
    · have hcell2 := hblk.cell (i := off + k) (by rw [splice_length (by have := HOL.out; omega)]; omega)
      have hf := hblk.free (off + k)
      obtain ⟨bx, offx, rfl, hcell, hblt⟩ := hsl.cell (i := k) (by omega)
      have l0 : lim zs k < 4294967296 := by rw [hzs k (Nat.le_refl _)]; exact lim_lt ho _
      have l1 : lim zs (k + 1) < 4294967296 := by rw [hzs _ (by omega)]; exact lim_lt ho _
      have hor : bits BinOp.or IntKind.u64 ((lim zs k : Nat) : Int) (((lim zs (k + 1) : Nat) : Int) * 4294967296) = ((lim zs k + lim zs (k + 1) * 4294967296 : Nat) : Int) := by
        have := or_u64' (x := lim zs (k + 1)) (y := lim zs k) (s := 32) (by omega) (by omega) (by omega)
        simpa using this
      obtain ⟨t, ht⟩ : ∃ t : Nat, t = lim zs k + lim zs (k + 1) * 4294967296 := ⟨_, rfl⟩
      rw [← ht] at hor
      obtain ⟨tm, htm, etm⟩ : ∃ tm : Nat, ((t : Int) / 2 ^ s % 4294967296) = (tm : Int) ∧ tm = t / 2 ^ s % 4294967296 := ⟨t / 2 ^ s % 4294967296, by simp, rfl⟩
      rw [ht] at etm
      have ETM := Lib.hid etm
      have w1 : IntKind.i64.wrap ((k : Int) + 1) = (k : Int) + 1 := IntWalk.i64_in _ (by omega)
      clear ht etm hblk hzs
      have hkl : k < len := by omega
      go_wp2_with fail
      go_quiet ((go_at_call 187; exact limbAt_quiet hsl _ (by omega)))
      go_wp2_with fail
      have R := shiftDown_step ho hs HOL.out hok HV.out HBK.out HK.out HZS.out ETM.out (by omega) nq
      exact ⟨⟨k + 1, os ++ [tm], by omega, by go_num, R⟩, by simp [intOf]; omega⟩
    · obtain rfl : k = n := by omega
      clear hblk hzs
      go_wp2
      go_end0
      exact ⟨rfl, os, HOL.out, hok, by rw [HV.out, HF.out], HBK.out, HK.out⟩

set_option maxRecDepth 100000 in
set_option maxHeartbeats 1000000 in
/-- Shr: by a power of 2. -/
theorem shr_any (v : Value) (x : Nat) (m : Int) (L : Nat) (w : World) (h : NatV 146 w v x) (hx : x < pw L) (hL : L ≤ 100000000) :
    Calls Tryz.prog 155 #[v, .int .i64 m] w fun e w' => ∃ v', e = .returned v' ∧ NatV 146 w' v' (x / 2 ^ cut m) ∧ Below w.heap.size w w' := by
  have hk := cut_le m
  generalize hkk : cut m = k at *
  have HKK := Lib.hid hkk
  clear hkk
  obtain ⟨ad, len, cap, rfl, xs, hs, ho, hnm, rfl⟩ := h.shape
  obtain ⟨i0, hi0, hz0, hz1, hz2⟩ := info_parts info_u32
  have hlx := hs.len
  have hl : len ≤ 100000000 := by have := norm_len hnm hx; omega
  obtain ⟨i, hi, ei⟩ : ∃ i : Nat, (k : Int) / 32 = (i : Int) ∧ i = k / 32 := ⟨k / 32, by omega, rfl⟩
  obtain ⟨s, hs', es⟩ : ∃ s : Nat, (k : Int) % 32 = (s : Int) ∧ s = k % 32 := ⟨k % 32, by omega, rfl⟩
  have hib : i ≤ 32768 := by omega
  have hsb : s < 32 := by omega
  have ek : 2 ^ k = pw i * 2 ^ s := by rw [ei, es]; exact pow2_split32 k
  have hlc : len ≤ cap := by obtain ⟨_, _, e, hc, _⟩ := hs.shape; cases e; omega
  clear ei es hx h hnm
  rcases Nat.lt_or_ge i len with hil | hil
  · obtain ⟨b, off, rfl, _, hblt⟩ := hs.cell (i := i) (by omega)
    obtain ⟨n, hn, en⟩ : ∃ n : Nat, (len : Int) - (i : Int) = (n : Int) ∧ n = len - i := ⟨len - i, by omega, rfl⟩
    have hnb : n ≤ 100000000 := by omega
    have hci : ¬ (cap = i) := by omega
    have hval : val (xs.drop i) / 2 ^ s = val xs / 2 ^ k := by rw [ek, ← Nat.div_div_eq_div_mul, val_div_pw ho]
    have hdl : (xs.drop i).length = n := by rw [List.length_drop]; omega
    have hsd := hs.dropS (i := i) (by omega)
    have HSD := Lib.hid hsd
    have HDL := Lib.hid hdl
    have HV := Lib.hid hval
    have EN := Lib.hid en
    have H := Lib.hid hs
    have hdec : decide (len ≤ i) = false := by rw [decide_eq_false_iff_not]; omega
    clear hsd hdl hval en ek hs hlx
    go_enter Tryz.func155, Tryz.ntmps155
    go_wp2_with fail
    refine (cutShift_any _ _).mono ?_
    rintro e w1 ⟨rfl, rfl⟩
    rw [HKK.out]
    go_wp2_with (at_make; refine wpList_make_ints _ rfl _ _ 25 rfl 146 i0 .u32 Tryz.underlying25 hi0 hz0 hz1 .i64 .i64 _ _ n n rfl rfl (by omega) (by omega) (Nat.le_refl _) (by rw [hz2]; omega) (by omega) ?_)
    go_wp2_with fail
    have hbk := Blk.new ((w.alloc (Obj.cells #[Value.slice (some ⟨b, off, none⟩) len cap] 27)).alloc (Obj.cells #[Value.slice none 0 0] 27)) 146 .u32 (List.replicate n 0)
    simp only [World.size_alloc] at hbk
    refine (shiftDown_any (w.heap.size + 1 + 1) 0 n n (List.replicate n 0) _ (xs.drop i) s _ hsb (((HSD.out.alloc _).alloc _).alloc _) (ho.drop i) hbk (.inl ?_) (by rw [HDL.out]; exact Nat.le_refl _) (Nat.le_refl _) (by rw [List.length_replicate]; omega) (by rw [HDL.out]; omega)).mono ?_
    · intro b' o' n' c' e; cases e; omega
    rintro e w1 ⟨rfl, os, r1, r2, r3, r4, r5⟩
    rw [HDL.out] at r1
    have hk1 := (r5.block (w.heap.size + 1) (by simp) (by omega)).trans (nb31 _ _ _ _)
    have hbel1 : Below w.heap.size w w1 := (bel_alloc3 w _ _ _).trans (r5.below (by simp; omega) (fun k e => by omega))
    have hspl : splice (List.replicate n 0) 0 os = os := by unfold splice; rw [List.drop_eq_nil_of_le (by simp; omega)]; simp
    rw [hspl] at r4
    have hsl := Sl.of_blk r4
    rw [r1] at hsl
    have HS := Lib.hid hsl
    have HK1 := Lib.hid hk1
    have HB1 := Lib.hid hbel1
    have HR1 := Lib.hid r1
    have HR3 := Lib.hid r3
    clear hspl hsl hk1 hbel1 r1 r3 r4 r5 hbk
    go_wp2_with fail
    refine (wrap_any _ _ _ HS.out r2 (by rw [HR1.out]; omega)).mono ?_
    rintro e w2 ⟨v', rfl, hn2, hb2⟩
    obtain ⟨ad2, len2, cap2, rfl, hr2⟩ := hn2.shape
    have hk2 := (hb2.block (w.heap.size + 1) (by have := HB1.out.size; have := HS.out.lt rfl; omega)).trans HK1.out
    have hc := cell_of hk2 0
    have hf := free_of hk2 0
    simp only [List.getElem?_toArray, List.getElem?_cons_zero] at hc
    have HR := Lib.hid (fin_nat (bel_on HB1.out hb2) hk2 (by decide) hr2 (by omega) 0)
    clear hr2 hb2 hk2 hn2
    go_wp2
    refine bodyPost_ret (v := .agg #[.slice ad2 len2 cap2]) (by simp [results, Tryz.results155, go_sem, World.cell?_setCell_same _ _ _ hc]) rfl ⟨_, rfl, ?_⟩
    have := HR.out
    rw [HR3.out, HV.out] at this
    exact this
  · have hz : val xs / 2 ^ k = 0 := by
      apply Nat.div_eq_of_lt
      have h1 := val_lt ho
      have h2 := pw_le (a := xs.length) (b := i) (by omega)
      have h3 : pw i * 1 ≤ pw i * 2 ^ s := Nat.mul_le_mul_left _ (pow2_pos s)
      omega
    rw [hz]
    have hdec : decide (len ≤ i) = true := by rw [decide_eq_true_iff]; omega
    clear hz ek hs hlx
    go_enter Tryz.func155, Tryz.ntmps155
    go_wp2_with fail
    refine (cutShift_any _ _).mono ?_
    rintro e w1 ⟨rfl, rfl⟩
    rw [HKK.out]
    go_wp2_with fail
    refine bodyPost_ret (v := .agg #[.slice none 0 0]) (by simp [results, Tryz.results155, go_sem]) rfl ⟨_, rfl, NatV.zero _ _, bel_alloc2 _ _ _⟩

end Go.Proofs.YtfohgkabmdhhaaaGreatDoor
/- The contract of nat's Cmp. -/
namespace Go.Proofs.YtfohgkabmdhhaaaGreatDoor
open Go.RowKit Cin

/-- -1, 0 or 1: less, the same, greater. -/
def cmpI (a b : Nat) : Int := if a < b then -1 else if b < a then 1 else 0

theorem cmpI_self (a : Nat) : cmpI a a = 0 := by unfold cmpI; rw [if_neg (by omega), if_neg (by omega)]

theorem order_quiet {w : World} {n : Nat} (b : Bool) :
    Calls Tryz.prog 171 #[.bool b] (w.drewN n) fun e w'' => e = .returned (.int .i64 (if b then -1 else 1)) ∧ ∃ m, w'' = w.drewN m :=
  (order_any b (w.drewN n)).mono fun _ _ hh => ⟨hh.1, n, hh.2.symm⟩

theorem order_quiet2 {w : World} {c n : Nat} (b : Bool) :
    Calls Tryz.prog 171 #[.bool b] (w.drewN (c + n)) fun e w'' => e = .returned (.int .i64 (if b then -1 else 1)) ∧ ∃ m, w'' = w.drewN (c + m) :=
  (order_any b (w.drewN (c + n))).mono fun _ _ hh => ⟨hh.1, n, hh.2.symm⟩

set_option maxRecDepth 100000 in
set_option maxHeartbeats 1000000 in
theorem cmp_any (v u : Value) (x y : Nat) (L : Nat) (w : World) (h : NatV 146 w v x) (h' : NatV 146 w u y) (hx : x < pw L) (hy : y < pw L) (hL : L ≤ 100000000) :
    Calls Tryz.prog 143 #[v, u] w fun e w' => e = .returned (.int .i64 (cmpI x y)) ∧ Below w.heap.size w w' := by
  obtain ⟨ad, len, cap, rfl, xs, hs, ho, hnm, rfl⟩ := h.shape
  obtain ⟨ad', len', cap', rfl, ys, hs', ho', hnm', rfl⟩ := h'.shape
  have hlx := hs.len
  have hly := hs'.len
  have hl : len ≤ 100000000 := by have := norm_len hnm hx; omega
  have hl' : len' ≤ 100000000 := by have := norm_len hnm' hy; omega
  clear hx hy h h'
  by_cases hll : len = len'
  · subst hll
    have hcmp : ((len : Int) != (len : Int)) = false := by simp
    have hlt : ∀ k, k < len → (∀ j, k < j → j < len → lim xs j = lim ys j) → lim xs k < lim ys k → cmpI (val xs) (val ys) = -1 := fun k hk hj hlt => by
      have := val_lt_of_top ho (by omega) (i := k) (by omega) (fun j h1 h2 => hj j h1 (by omega)) hlt
      unfold cmpI; rw [if_pos this]
    have hgt : ∀ k, k < len → (∀ j, k < j → j < len → lim xs j = lim ys j) → lim ys k < lim xs k → cmpI (val xs) (val ys) = 1 := fun k hk hj hlt => by
      have := val_lt_of_top ho' (by omega) (i := k) (by omega) (fun j h1 h2 => (hj j h1 (by omega)).symm) hlt
      unfold cmpI; rw [if_neg (by omega), if_pos this]
    have heq : (∀ j, j < len → lim xs j = lim ys j) → cmpI (val xs) (val ys) = 0 := fun hj => by
      have : xs = ys := ext_lim (by omega) (fun i hi => hj i (by omega))
      rw [this]; unfold cmpI; rw [if_neg (by omega), if_neg (by omega)]
    have HLT := Lib.hid hlt
    have HGT := Lib.hid hgt
    have HEQ := Lib.hid heq
    have H := Lib.hid hs
    have H' := Lib.hid hs'
    have HLX := Lib.hid hlx
    have HLY := Lib.hid hly
    clear hlt hgt heq hs hs' hlx hly hnm hnm'
    go_enter Tryz.func143, Tryz.ntmps143
    go_wp2_with fail
    have hbW := bel_alloc2 w (Obj.cells #[Value.slice ad len cap] 27) (Obj.cells #[Value.slice ad' len cap'] 27)
    have hca := cell_of (new_block2 w (Obj.cells #[Value.slice ad len cap] 27) (Obj.cells #[Value.slice ad' len cap'] 27)) 0
    have hcb := cell_of (nb21 w (Obj.cells #[Value.slice ad len cap] 27) (Obj.cells #[Value.slice ad' len cap'] 27)) 0
    simp only [List.getElem?_toArray, List.getElem?_cons_zero] at hca hcb
    have hsa := (H.out.alloc (Obj.cells #[Value.slice ad len cap] 27)).alloc (Obj.cells #[Value.slice ad' len cap'] 27)
    have hsb := (H'.out.alloc (Obj.cells #[Value.slice ad len cap] 27)).alloc (Obj.cells #[Value.slice ad' len cap'] 27)
    generalize (w.alloc (Obj.cells #[Value.slice ad len cap] 27)).alloc (Obj.cells #[Value.slice ad' len cap'] 27) = W at *
    have HBW := Lib.hid hbW
    have HSA := Lib.hid hsa
    have HSB := Lib.hid hsb
    clear hbW hsa hsb
    go_loopw [5] (fun i wr => ∃ nq, wr = W.drewN nq ∧ ((i = .int .i64 (-1) ∧ ∀ j, j < len → lim xs j = lim ys j) ∨ ∃ k : Nat, k < len ∧ i = .int .i64 k ∧ ∀ j, k < j → j < len → lim xs j = lim ys j)) (fun i _ => (intOf i + 1).toNat)
    case atStart =>
      refine ⟨0, rfl, ?_⟩
      rcases Nat.eq_zero_or_pos len with h0 | h0
      · subst h0; exact .inl ⟨rfl, fun j hj => absurd hj (Nat.not_lt_zero _)⟩
      · exact .inr ⟨len - 1, by omega, congrArg (Value.int IntKind.i64) (by omega), fun j h1 h2 => by omega⟩
    case round =>
      obtain ⟨nq, rfl, h | ⟨k, hk, rfl, hj⟩⟩ := hrel
      · obtain ⟨rfl, hj⟩ := h
        have HJ := Lib.hid hj
        clear hj
        go_wp2
        go_ret
        exact ⟨ret_int (HEQ.out HJ.out).symm, bel_drewN HBW.out _⟩
      · have HJ := Lib.hid hj
        clear hj
        obtain ⟨b, off, rfl, hcell, hblt⟩ := HSA.out.cell (i := k) (by have := HLX.out; omega)
        obtain ⟨b', off', rfl, hcell', hblt'⟩ := HSB.out.cell (i := k) (by have := HLY.out; omega)
        by_cases hne : lim xs k = lim ys k
        · have hnb : (((lim xs k : Nat) : Int) != ((lim ys k : Nat) : Int)) = false := by simp [hne]
          have HNE := Lib.hid hne
          clear hne
          go_wp2_with fail
          go_quiet (fail)
          go_wp2_with fail
          refine ⟨⟨_, rfl, ?_⟩, by simp only [intOf]; omega⟩
          have hstep : ∀ j, k ≤ j → j < len → lim xs j = lim ys j := fun j h1 h2 => by
            rcases Nat.eq_or_lt_of_le h1 with rfl | h1
            · exact HNE.out
            · exact HJ.out j h1 h2
          rcases Nat.eq_zero_or_pos k with h0 | h0
          · subst h0; exact .inl ⟨rfl, fun j hj => hstep j (Nat.zero_le _) hj⟩
          · exact .inr ⟨k - 1, by omega, congrArg (Value.int IntKind.i64) (by omega), fun j h1 h2 => hstep j (by omega) h2⟩
        · have hnb : (((lim xs k : Nat) : Int) != ((lim ys k : Nat) : Int)) = true := by simp; omega
          rcases Nat.lt_or_gt_of_ne hne with hlt | hlt
          · have hdec : decide (lim xs k < lim ys k) = true := by simpa using hlt
            go_wp2_with fail
            go_quiet (fail)
            go_wp2_with fail
            go_quiet ((go_at_call 171; exact order_quiet2 _))
            go_wp2_with fail
            go_ret
            exact ⟨ret_int (HLT.out k hk HJ.out hlt).symm, by first | exact bel_drewN HBW.out _ | exact bel_drewN (bel_drewN (bel_drewN HBW.out _) _) _⟩
          · have hdec : decide (lim xs k < lim ys k) = false := by simp; omega
            go_wp2_with fail
            go_quiet (fail)
            go_wp2_with fail
            go_quiet ((go_at_call 171; exact order_quiet2 _))
            go_wp2_with fail
            go_ret
            exact ⟨ret_int (HGT.out k hk HJ.out hlt).symm, by first | exact bel_drewN HBW.out _ | exact bel_drewN (bel_drewN (bel_drewN HBW.out _) _) _⟩
  · have hcmp : ((len : Int) != (len' : Int)) = true := by simp; omega
    rcases Nat.lt_or_gt_of_ne hll with hlt | hlt
    · have he : cmpI (val xs) (val ys) = -1 := by
        have := val_lt_of_len ho hnm' (by omega)
        unfold cmpI; rw [if_pos this]
      have HE := Lib.hid he
      have hdec : decide (len < len') = true := by simpa using hlt
      clear he hs hs' hlx hly hnm hnm' hll
      go_enter Tryz.func143, Tryz.ntmps143
      go_wp2_with (go_at_call 171; refine (order_any _ _).mono ?_; rintro e w' ⟨rfl, rfl⟩)
      go_ret
      exact ⟨ret_int HE.out.symm, bel_alloc2 _ _ _⟩
    · have he : cmpI (val xs) (val ys) = 1 := by
        have := val_lt_of_len ho' hnm (by omega)
        unfold cmpI; rw [if_neg (by omega), if_pos this]
      have HE := Lib.hid he
      have hdec : decide (len < len') = false := by simp; omega
      clear he hs hs' hlx hly hnm hnm' hll
      go_enter Tryz.func143, Tryz.ntmps143
      go_wp2_with (go_at_call 171; refine (order_any _ _).mono ?_; rintro e w' ⟨rfl, rfl⟩)
      go_ret
      exact ⟨ret_int HE.out.symm, bel_alloc2 _ _ _⟩

end Go.Proofs.YtfohgkabmdhhaaaGreatDoor
/- A region that leaves its order open, walked once: what only reads is taken as soon as it may come up; what is left comes up one by one. No program. -/
namespace Cin
open Go Go.RowKit

/-- What is asked of a row of operations: 'true': it only reads; 'false': nothing else may come up beside it. -/
def schedOk (md : Region.Mode) (ops : Array Oper) : List (Nat × Bool) → Array Bool → Bool
  | [], listed => (Region.ready md ops listed).isEmpty
  | (i, true) :: r, listed => Region.free md ops listed i && (Region.ready md ops listed).contains i && schedOk md ops r (listed.setIfInBounds i true)
  | (i, false) :: r, listed => (Region.ready md ops listed == [i]) && schedOk md ops r (listed.setIfInBounds i true)

section
variable {P : Program} {ops : Array Oper} {Q : Exit → Act → World → Prop} {md : Region.Mode} {S : World → Prop}

/-- The walk along such a row; S is known of the world at hand. -/
def wpSched (P : Program) (ops : Array Oper) (Q : Exit → Act → World → Prop) (S : World → Prop) : List (Nat × Bool) → Act → World → Prop
  | [], a, w => Q .normal a w
  | (i, true) :: r, a, w => ∃ o v, ops[i]? = some o ∧ YieldsIf P ops S o v a ∧ wpSched P ops Q S r (a.put o.dst v) w
  | (i, false) :: r, a, w => wpOp P ops Q i (fun a' w' => S w' ∧ wpSched P ops Q S r a' w') a w

theorem wpAnyH_of_sched (hs : Region.noSelect ops = true) (hQ : ∀ c a d v w, Q (.panic c) (Act.put a d v) w → Q (.panic c) a w) :
    ∀ (l : List (Nat × Bool)) (fuel : Nat) (listed : Array Bool) (a : Act) (w : World), l.length ≤ fuel → schedOk md ops l listed = true → S w → wpSched P ops Q S l a w → wpAnyH P md ops Q S fuel listed a w
  | [], fuel, listed, a, w, _, hc, _, h => wpAnyH_done (by simpa [schedOk] using hc) h fuel
  | (i, true) :: r, 0, _, _, _, hl, _, _, _ => by simp at hl
  | (i, false) :: r, 0, _, _, _, hl, _, _, _ => by simp at hl
  | (i, true) :: r, fuel + 1, listed, a, w, hl, hc, hS, h => by
    simp only [schedOk, Bool.and_eq_true] at hc
    obtain ⟨⟨hf, hr⟩, hc⟩ := hc
    obtain ⟨o, v, ho, hy, h⟩ := h
    exact wpAnyH_take ho hs hf hr (fun c a w => hQ c a _ _ w) hy hS (wpAnyH_of_sched hs hQ r fuel _ _ w (by simpa using hl) hc hS h)
  | (i, false) :: r, fuel + 1, listed, a, w, hl, hc, hS, h => by
    simp only [schedOk, Bool.and_eq_true, beq_iff_eq] at hc
    obtain ⟨hr, hc⟩ := hc
    refine wpAnyH_all hr (by simp) fun j hj => ?_
    obtain rfl := List.mem_singleton.1 hj
    exact wpOp_mono (fun a' w' ⟨hS', h'⟩ => ⟨hS', wpAnyH_of_sched hs hQ r fuel _ a' w' (by simpa using hl) hc hS' h'⟩) h

/-- The beginning. -/
theorem wp_region_sched {id : Nat} {a : Act} {w : World} (S : World → Prop) (l : List (Nat × Bool)) (hm : P.follows .mixedOrders = true)
    (hc : (Region.noSelect ops && decide (l.length ≤ ops.size) && schedOk .any ops l (Array.replicate ops.size false)) = true) (hS : S w.drew) (h : S w.drew → wpSched P ops (NoPanic Q) S l a w.drew) : (Code.region id ops true).wp P Q a w := by
  simp only [Bool.and_eq_true, decide_eq_true_eq] at hc
  exact wp_region_noPanic (wp_region_held hm (wpAnyH_of_sched hc.1.1 (fun _ _ _ _ _ h => h.elim) l _ _ a _ hc.1.2 hc.2 hS (h hS)))

variable {i : Nat} {b : Bool} {r : List (Nat × Bool)} {a : Act} {w : World} {o : Oper} {v : Value}

theorem wpSched_nil (h : Q .normal a w) : wpSched P ops (NoPanic Q) S [] a w := h
/-- What is asked of one operation, written out. -/
def wpAt (P : Program) (ops : Array Oper) (Q : Exit → Act → World → Prop) (S : World → Prop) (o : Oper) (b : Bool) (r : List (Nat × Bool)) (a : Act) (w : World) : Prop :=
  ∀ i, ops[i]? = some o → wpSched P ops Q S ((i, b) :: r) a w
theorem wpSched_at (ho : ops[i]? = some o) (h : wpAt P ops Q S o b r a w) : wpSched P ops Q S ((i, b) :: r) a w := h i ho
/-- It reads, and is wanted. -/
theorem wpAt_take (hw : Region.wanted o (yielded ops a.tmps) = true) (hy : ∀ w, S w → (execOp a.eval o).run P w = .ok (.value v) w)
    (h : wpSched P ops Q S r (a.put o.dst v) w) : wpAt P ops Q S o true r a w := fun _ ho => ⟨o, v, ho, .inl ⟨hw, hy⟩, h⟩
/-- It is not wanted. -/
theorem wpAt_skip (hw : Region.wanted o (yielded ops a.tmps) = false)
    (h : wpSched P ops Q S r (a.put o.dst undef) w) : wpAt P ops Q S o true r a w := fun _ ho => ⟨o, undef, ho, .inr ⟨hw, rfl⟩, h⟩
theorem wpAt_pass (hw : Region.wanted o (yielded ops a.tmps) = false) (hS : S w)
    (h : wpSched P ops Q S r (a.put o.dst undef) w) : wpAt P ops Q S o false r a w := fun i ho => by
  show wpOp P ops Q i _ a w
  unfold wpOp
  simp only [ho, hw]
  exact ⟨hS, h⟩
/-- It is carried out. -/
theorem wpAt_eff (hw : Region.wanted o (yielded ops a.tmps) = true)
    (h : ∀ K : Act → World → Prop, Hid (∀ a' w', S w' → (S w' → wpSched P ops Q S r a' w') → K a' w') → o.wp P a w K Q) : wpAt P ops Q S o false r a w := fun i ho => by
  show wpOp P ops Q i _ a w
  unfold wpOp
  simp only [ho, hw, if_true]
  exact .inl (h _ (fun a' w' hS hW => ⟨hS, hW hS⟩))
end

/-- What only reads, by its kind. -/
def readsOnly : Op → Bool
  | .call { callee := .builtin b, .. } => (match b with | .len | .cap | .min | .max => true | _ => false)
  | .move _ | .assign _ | .pick .. | .load .. | .binOp .. | .unOp .. | .convert .. | .slice .. | .fieldAddr .. | .field .. | .indexAddr .. | .index .. | .extract .. | .build .. | .nilCheck _ => true
  | _ => false
/-- The row for a region, reckoned. -/
def eager (ops : Array Oper) : Nat → Array Bool → List (Nat × Bool)
  | 0, _ => []
  | f + 1, listed =>
    let rs := Region.ready .any ops listed
    match rs.find? (fun i => Region.free .any ops listed i && ((ops[i]?).map (fun o => readsOnly o.op)).getD false) with
    | some i => (i, true) :: eager ops f (listed.setIfInBounds i true)
    | none => match rs with
      | i :: _ => (i, false) :: eager ops f (listed.setIfInBounds i true)
      | [] => []
/-- A region of a function, by its number. -/
def regionOf : Nat → Code → Nat → Option (Array Oper)
  | 0, _, _ => none
  | f + 1, c, n => match c with
    | .region id ops _ => if id = n then some ops else none
    | .seq a b => (regionOf f a n).orElse fun _ => regionOf f b n
    | .cond _ a b => (regionOf f a n).orElse fun _ => regionOf f b n
    | .block _ a => regionOf f a n
    | .loop a => regionOf f a n
    | _ => none

end Cin
/- alive: a first call whose answer the document fixes. -/
namespace Go.Proofs.YtfohgkabmdhhaaaGreatDoor
open Go.RowKit Cin

set_option maxHeartbeats 400000 in
theorem formatUintI_small (u : Nat) (w : World) (h : u < 100) :
    Calls Tryz.prog 200 #[.int .u64 u, .int .i64 10] w fun e w' => e = .returned (.string ⟨(Lib.decDigits u).toArray⟩) ∧ w = w' := by
  go_enter Tryz.func200, Tryz.ntmps200
  go_wp2_with (go_at_call 206; refine (Tryz.internal_strconv_small u h _).mono ?_; rintro e w' ⟨rfl, rfl⟩)
  go_ret
  exact ⟨rfl, rfl⟩

set_option maxHeartbeats 400000 in
theorem formatUint_small (u : Nat) (w : World) (h : u < 100) :
    Calls Tryz.prog 177 #[.int .u64 u, .int .i64 10] w fun e w' => e = .returned (.string ⟨(Lib.decDigits u).toArray⟩) ∧ w = w' := by
  go_enter Tryz.func177, Tryz.ntmps177
  go_wp2_with fail
  refine (formatUintI_small u _ h).mono ?_
  rintro e w' ⟨rfl, rfl⟩
  go_wp2
  go_ret
  exact ⟨rfl, rfl⟩

set_option maxHeartbeats 400000 in
theorem text_small (v : Value) (u : Nat) (w : World) (h : NatV 146 w v u) (hu : u < 100) :
    Calls Tryz.prog 148 #[v] w fun e w' => e = .returned (.string ⟨(Lib.decDigits u).toArray⟩) ∧ Below w.heap.size w w' := by
  have hnat := h
  obtain ⟨ad, len, cap, rfl, xs, hs, ho, hnm, hval⟩ := h.shape
  have hlx := hs.len
  have hl : len ≤ 1 := by
    have := norm_len (m := 1) hnm (by rw [hval]; exact Nat.lt_of_lt_of_le hu (by decide))
    omega
  have HN := Lib.hid hnat
  clear hnat h hs hnm hval ho hlx
  go_enter Tryz.func148, Tryz.ntmps148
  go_wp2_with fail
  refine (low_any _ u _ (HN.out.below (bel_alloc _ _))).mono ?_
  rintro e w1 ⟨rfl, hb⟩
  rw [Nat.mod_eq_of_lt (by omega)]
  have HB := Lib.hid (bel_on (bel_alloc _ _) hb)
  clear hb
  go_wp2_with fail
  refine (formatUint_small u _ hu).mono ?_
  rintro e w2 ⟨rfl, rfl⟩
  go_wp2
  go_ret
  exact ⟨rfl, HB.out⟩

end Go.Proofs.YtfohgkabmdhhaaaGreatDoor
