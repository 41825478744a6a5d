/- Contracts of math/bits.TrailingZeros32, nat's Bits, Zeros. -/
import Derived.Test.YtpchnejdbmoicaaDoorW4
import Derived.Test.YtpchnejdbmoicaaDoorShelf
import Derived.Shelf.Spec.TrailingZeros
namespace Go.Proofs.YtpchnejdbmoicaaDoor
open Go.RowKit Cin

/-- The library's tables lie as its text lays them. -/
structure Tabs (w : World) : Prop where
  b32 : Lib.TabIs Tryd.prog w "math/bits.deBruijn32tab" .u8 (Lib.deBruijn32tab.map Int.ofNat)
  p10 : Lib.TabIs Tryd.prog w "internal/strconv.uint64pow10" .u64 Lib.pow10Tab
theorem glob32 : Tryd.prog.globalNamed "math/bits.deBruijn32tab" = some 0 := by kernel_rfl
theorem tab_below {P : Program} {w w' : World} {n : String} {k : IntKind} {zs : List Int} (h : Lib.TabIs P w n k zs) (hb : Below w.heap.size w w') : Lib.TabIs P w' n k zs := by
  unfold Lib.TabIs at *
  cases hg : P.globalNamed n with
  | none => unfold World.var? at h; rw [hg] at h; cases h
  | some g =>
    refine var?_below hb hg ?_ h
    unfold World.var? at h
    rw [hg] at h
    rcases Nat.lt_or_ge g w.heap.size with hl | hl
    · exact hl
    · simp [Array.getElem?_eq_none hl] at h
theorem Tabs.below {w w' : World} (h : Tabs w) (hb : Below w.heap.size w w') : Tabs w' := ⟨tab_below h.b32 hb, tab_below h.p10 hb⟩

theorem isBl_aux : ∀ (f x : Nat), x < 2 ^ f → IsBl x (Lib.bitLenAux f x)
  | 0, x, h => by
    have : x = 0 := by simpa using h
    subst this; exact IsBl.zero
  | f + 1, x, h => by
    unfold Lib.bitLenAux
    split
    · rename_i h0; subst h0; exact IsBl.zero
    · rename_i h0
      have ih := isBl_aux f (x / 2) (by rw [Nat.pow_succ] at h; omega)
      have h1 := ih.1
      refine ⟨by rw [Nat.add_comm, Nat.pow_succ]; omega, .inr ?_⟩
      rw [Nat.add_sub_cancel_left]
      rcases ih.2 with h2 | h2
      · rw [h2]; simp; omega
      · rcases Nat.eq_zero_or_pos (Lib.bitLenAux f (x / 2)) with e | e
        · rw [e]; simp; omega
        · obtain ⟨q, hq⟩ : ∃ q, Lib.bitLenAux f (x / 2) = q + 1 := ⟨_, (Nat.sub_add_cancel e).symm⟩
          rw [hq] at h2 ⊢
          rw [Nat.add_sub_cancel] at h2
          rw [Nat.pow_succ]; omega
theorem isBl_len (x : Nat) (h : x < 4294967296) : IsBl x (Lib.bitLen x) := isBl_aux 64 x (by omega)
theorem bitLen_le (x : Nat) (h : x < 4294967296) : Lib.bitLen x ≤ 32 := by
  rcases (isBl_len x h).2 with e | e
  · omega
  · rcases Nat.lt_or_ge 32 (Lib.bitLen x) with hl | hl
    · have := Nat.pow_le_pow_right (n := 2) (by decide) (show 32 ≤ Lib.bitLen x - 1 by omega)
      omega
    · exact hl

set_option maxHeartbeats 400000 in
/-- Bits: how many binary digits. -/
theorem bits_any (v : Value) (x L : Nat) (w : World) (h : NatV 68 w v x) (hx : x < pw L) (hL : L ≤ 100000000) :
    Calls Tryd.prog 15 #[v] w fun e w' => ∃ k : Nat, e = .returned (.int .i64 k) ∧ IsBl x k ∧ Below w.heap.size w w' := by
  obtain ⟨ad, len, cap, rfl, xs, hs, ho, hnm, rfl⟩ := h.shape
  have hlx := hs.len
  have hl : len ≤ 100000000 := by have := norm_len hnm hx; omega
  clear hx h
  rcases Nat.eq_zero_or_pos len with h0 | h0
  · subst h0
    have : xs = [] := List.length_eq_zero_iff.1 hlx
    subst this
    clear hs hlx hnm ho
    go_enter Tryd.func15, Tryd.ntmps15
    go_wp2
    go_ret
    exact ⟨0, rfl, IsBl.zero, bel_alloc _ _⟩
  · obtain ⟨n, rfl⟩ : ∃ n, len = n + 1 := ⟨len - 1, by omega⟩
    obtain ⟨b, off, rfl, hcell, hblt⟩ := hs.cell (i := n) (by omega)
    have hlim := lim_lt ho n
    have hne : xs ≠ [] := by intro e; subst e; simp at hlx
    have htop := bl_top (c := Lib.bitLen (lim xs n)) hne ho (by rw [hlx, Nat.add_sub_cancel]; exact isBl_len _ hlim) (by rcases hnm with e | e; exact absurd e hne; exact e)
    rw [hlx, Nat.add_sub_cancel] at htop
    have HT := Lib.hid htop
    have hbl := bitLen_le _ hlim
    have heq : ((n : Int) + 1 == 0) = false := by simp; omega
    generalize hbb : Lib.bitLen (lim xs n) = c at *
    have HBB := Lib.hid hbb
    have HLX := Lib.hid hlx
    clear htop hbb hs hlx hnm ho hne
    go_enter Tryd.func15, Tryd.ntmps15
    go_wp2_with (go_at_call 54; refine (Tryd.bits_Len32 _ _ (by omega) (by omega)).mono ?_; rintro e w' ⟨rfl, rfl⟩; rw [Int.toNat_natCast, HBB.out])
    go_ret
    exact ⟨32 * n + c, ret_int (by omega), HT.out, bel_alloc _ _⟩

theorem bits_and_u32 (a b : Nat) (ha : a < 4294967296) (hb : b < 4294967296) : bits .and .u32 (a : Int) (b : Int) = ((a &&& b : Nat) : Int) := u32_and_nat a b ha hb

set_option maxHeartbeats 400000 in
theorem tz32_core (x k idx : Nat) (w : World) (hx0 : ((x : Int) == 0) = false)
    (key : bits BinOp.and IntKind.u32 (x : Int) (-(x : Int) % 4294967296) * 125613361 % 4294967296 / 134217728 = (idx : Int))
    (hi : idx < 32) (hk : k < 32) (hcell : w.cell? ⟨0, idx, none⟩ = some (.int .u8 k)) :
    Calls Tryd.prog 55 #[.int .u32 x] w fun e w' => e = .returned (.int .i64 k) ∧ w = w' := by
  go_enter Tryd.func55, Tryd.ntmps55
  go_wp2
  go_ret
  exact ⟨rfl, rfl⟩

/-- TrailingZeros32 of a word that is not 0. -/
theorem tz32_any (x : Nat) (w : World) (hT : Tabs w) (hx : x < 4294967296) (h0 : x ≠ 0) :
    Calls Tryd.prog 55 #[.int .u32 x] w fun e w' => ∃ k : Nat, e = .returned (.int .i64 k) ∧ k < 32 ∧ (∃ m, x = 2 ^ k * (2 * m + 1)) ∧ w = w' := by
  obtain ⟨hlow, hk⟩ := Lib.lowest_bit 32 x h0 hx
  obtain ⟨hi, htab⟩ := Lib.deBruijn32_at _ hk
  obtain ⟨m, hm, _⟩ := Lib.ctzFrom_spec 32 x (by omega) hx
  have hcell := hT.b32.cell glob32 _ (show _ < (Lib.deBruijn32tab.map Int.ofNat).length from hi)
  have hkey := tz32_key x _ hx h0 hlow
  have hct : Lib.ctz 32 x = Lib.ctzFrom 32 x := by unfold Lib.ctz; rw [if_neg h0]
  rw [show ((Lib.deBruijn32tab.map Int.ofNat).getD (2 ^ Lib.ctz 32 x * 125613361 % 4294967296 / 134217728) 0) = ((Lib.deBruijn32tab.getD (2 ^ Lib.ctz 32 x * 125613361 % 4294967296 / 134217728) 0 : Nat) : Int) by
    rw [List.getD_eq_getElem?_getD, List.getElem?_map, List.getD_eq_getElem?_getD]; cases Lib.deBruijn32tab[2 ^ Lib.ctz 32 x * 125613361 % 4294967296 / 134217728]? <;> rfl, htab] at hcell
  refine (tz32_core x (Lib.ctz 32 x) _ w (by simp; omega) hkey hi hk hcell).mono fun e w' ⟨he, hw⟩ => ⟨_, he, hk, ⟨m, by rw [hct]; exact hm⟩, hw⟩

set_option maxHeartbeats 400000 in
/-- Zeros: how often 2 goes into it. -/
theorem zeros_any (v : Value) (x L : Nat) (w : World) (hT : Tabs w) (h : NatV 68 w v x) (hx : x < pw L) (hL : L ≤ 100000000) :
    Calls Tryd.prog 17 #[v] w fun e w' => ∃ k : Nat, e = .returned (.int .i64 k) ∧ IsTz x k ∧ Below w.heap.size w w' := by
  obtain ⟨ad, len, cap, rfl, xs, hs, ho, hnm, rfl⟩ := h.shape
  have hlx := hs.len
  have hl : len ≤ 100000000 := by have := norm_len hnm hx; omega
  have HT := Lib.hid (hT.below (bel_alloc w (Obj.cells #[Value.slice ad len cap] 25)))
  have H := Lib.hid hs
  have HN := Lib.hid hnm
  have HLX := Lib.hid hlx
  clear hx h hs hnm hlx hT
  go_enter Tryd.func17, Tryd.ntmps17
  go_wp2_with fail
  go_loop [3, 4, 8] (fun _ _ i => ∃ k : Nat, k ≤ len ∧ i = .int .i64 k ∧ ∀ j, j < k → lim xs j = 0) (fun _ _ i => len - (intOf i).toNat)
  case atStart => exact ⟨0, Nat.zero_le _, rfl, fun j hj => absurd hj (Nat.not_lt_zero _)⟩
  case round =>
    obtain ⟨k, hk, rfl, hz⟩ := hrel
    have HZ := Lib.hid hz
    clear hz
    by_cases hlt : k < len
    · obtain ⟨b, off, rfl, hcell, hblt⟩ := (H.out.alloc (Obj.cells #[Value.slice ad len cap] 25)).cell (i := k) (by have := HLX.out; omega)
      have hlim := lim_lt ho k
      by_cases h0 : lim xs k = 0
      · have hb : (((lim xs k : Nat) : Int) != 0) = false := by simp [h0]
        have H0 := Lib.hid h0
        clear h0
        go_wp2
        refine ⟨⟨k + 1, by omega, by go_num, fun j hj => ?_⟩, by simp [intOf]; omega⟩
        rcases Nat.lt_or_eq_of_le (Nat.le_of_lt_succ hj) with h1 | rfl
        · exact HZ.out j h1
        · exact H0.out
      · have hb : (((lim xs k : Nat) : Int) != 0) = true := by simp; omega
        have H0 := Lib.hid h0
        clear h0
        go_wp2_with (go_at_call 55; refine (tz32_any _ _ HT.out hlim H0.out).mono ?_; rintro e w' ⟨c, rfl, hc, hm, rfl⟩; obtain ⟨m, hm⟩ := hm; have HM := Lib.hid hm; clear hm)
        go_ret
        exact ⟨32 * k + c, ret_int (by omega), tz_low (by have := HLX.out; omega) HZ.out hc HM.out, bel_alloc _ _⟩
    · go_wp2
      go_ret
      refine ⟨0, rfl, .inl ⟨?_, rfl⟩, bel_alloc _ _⟩
      have : xs = List.replicate xs.length 0 := ext_lim (by simp) (fun i hi => by rw [lim_replicate]; exact HZ.out i (by have := HLX.out; omega))
      rw [this, val_replicate]

end Go.Proofs.YtpchnejdbmoicaaDoor
