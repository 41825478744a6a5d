/- The contract of nat's Bytes: a number's bytes, the greatest first. -/
import Derived.Test.YtpchnejdbmoicaaDoorYc
import Derived.Lib.SlBytesRow
namespace Cin
open Go Go.RowKit
/-- A byte of a number lies in one of its words. -/
theorem lim_byte {xs : List Nat} (ho : Ok xs) (p : Nat) : lim xs (p / 4) / 2 ^ (p % 4 * 8) % 256 = val xs / 256 ^ p % 256 := by
  have e : 256 ^ p = pw (p / 4) * 2 ^ (p % 4 * 8) := by
    rw [pw_two, ← Nat.pow_add, show (256 : Nat) = 2 ^ 8 from rfl, ← Nat.pow_mul]
    congr 1; omega
  rw [e, ← Nat.div_div_eq_div_mul, val_div_pw ho, val_drop_step]
  generalize val (xs.drop (p / 4 + 1)) = y
  generalize lim xs (p / 4) = z
  have hr : p % 4 = 0 ∨ p % 4 = 1 ∨ p % 4 = 2 ∨ p % 4 = 3 := by omega
  rcases hr with h | h | h | h <;> rw [h] <;> simp only [Nat.zero_mul, Nat.one_mul, Nat.reduceMul, Nat.reducePow] <;> omega
/-- The s lowest bytes of a number, the greatest first. -/
def byL (x s : Nat) : List Nat := (List.range s).map fun i => x / 256 ^ (s - 1 - i) % 256
theorem byL_of {x s : Nat} {bs : List Nat} (hl : bs.length = s) (h : ∀ i, i < s → lim bs i = x / 256 ^ (s - 1 - i) % 256) : bs = byL x s := by
  apply List.ext_getElem
  · unfold byL; rw [List.length_map, List.length_range, hl]
  · intro i h1 h2
    simp only [byL, List.getElem_map, List.getElem_range]
    rw [← h i (by omega), lim_eq h1]
/-- A number's bytes as a text. -/
def byS (x s : Nat) : ByteArray := strOfNums ((byL x s).map fun x : Nat => (x : Int))
end Cin
namespace Go.Proofs.YtpchnejdbmoicaaDoor
open Go.RowKit Cin

theorem info_u8 : (Tryd.prog.info? 5).map (fun i => (i.zero, i.size, i.bytes)) = some (some (.int .u8 0), 1, 1) := by kernel_rfl
theorem bl_limb {x k s : Nat} {xs : List Nat} (hv : val xs = x) (ho : Ok xs) (hk : IsBl x k) (hs : s = (k + 7) / 8) {p : Nat} (hp : p < s) : p / 4 < xs.length := by
  subst hv
  rcases Nat.lt_or_ge (p / 4) xs.length with h | h
  · exact h
  · exfalso
    have h1 := val_lt ho
    rw [pw_two] at h1
    rcases hk.2 with h0 | h0
    · omega
    · have := (Nat.pow_lt_pow_iff_right (a := 2) (by decide)).1 (Nat.lt_of_le_of_lt h0 h1)
      omega

set_option maxRecDepth 100000 in
set_option maxHeartbeats 1000000 in
/-- Bytes: a byte for each eight binary digits. -/
theorem bytes_any (v : Value) (x L : Nat) (w : World) (h : NatV 68 w v x) (hx : x < pw L) (hL : L ≤ 100000000) :
    Calls Tryd.prog 13 #[v] w fun e w' => ∃ k : Nat, e = .returned (.string (byS x ((k + 7) / 8))) ∧ IsBl x k ∧ Below w.heap.size w w' := by
  have HX := Lib.hid hx
  have HN := Lib.hid h
  obtain ⟨ad, len, cap, rfl, xs, hs, ho, hnm, hv⟩ := h.shape
  have hlx := hs.len
  have hl : len ≤ 100000000 := by have := norm_len hnm (by rw [hv]; exact hx); omega
  have H := Lib.hid hs
  have HV := Lib.hid hv
  clear hx h hs hv hnm
  go_enter Tryd.func13, Tryd.ntmps13
  go_wp2_with fail
  refine (bits_any _ x L _ (HN.out.below (bel_alloc _ _)) HX.out hL).mono ?_
  rintro e w1 ⟨k, rfl, hk, hb1⟩
  have hkb : k ≤ 3200000000 := by
    rcases hk.2 with h0 | h0
    · omega
    · have := HX.out
      rw [pw_two] at this
      have := (Nat.pow_lt_pow_iff_right (a := 2) (by decide)).1 (Nat.lt_of_le_of_lt h0 this)
      omega
  obtain ⟨s, es, es'⟩ : ∃ s : Nat, ((k : Int) + 7) / 8 = (s : Int) ∧ s = (k + 7) / 8 := ⟨(k + 7) / 8, by omega, rfl⟩
  have ES := Lib.hid es'
  have HK := Lib.hid hk
  have hsb : s ≤ 400000001 := by omega
  obtain ⟨i0, hi0, hz0, hz1, hz2⟩ := info_parts info_u8
  have HS1 := Lib.hid ((H.out.below (bel_alloc w (Obj.cells #[Value.slice ad len cap] 25))).below hb1)
  have HB1 := Lib.hid (bel_on (bel_alloc w (Obj.cells #[Value.slice ad len cap] 25)) hb1)
  have hs1 := hb1.size
  have HC1 := Lib.hid ((hb1.block w.heap.size (by simp)).trans (new_block w (Obj.cells #[Value.slice ad len cap] 25)))
  have hs2 : w.heap.size < w1.heap.size := by simp at hs1; omega
  clear es' hk hb1 hs1 HN
  go_wp2_with (at_make; refine wpList_make_ints _ rfl _ _ 74 rfl 5 i0 .u8 Tryd.underlying74 hi0 hz0 hz1 .i64 .i64 _ _ s s rfl rfl (by omega) (by omega) (Nat.le_refl _) (by rw [hz2]; omega) (by omega) ?_)
  have hkW : Blk (w1.alloc (Obj.cells (ints IntKind.u8 (List.replicate s 0)) 5)) w1.heap.size 5 .u8 (List.replicate s 0) := Blk.new _ _ _ _
  have hbW := bel_alloc w1 (Obj.cells (ints IntKind.u8 (List.replicate s 0)) 5)
  generalize w1.alloc (Obj.cells (ints IntKind.u8 (List.replicate s 0)) 5) = W at *
  have HKW := Lib.hid hkW
  have HSW := Lib.hid (HS1.out.below hbW)
  have HCW := Lib.hid ((hbW.block w.heap.size hs2).trans HC1.out)
  have HBW := Lib.hid (bel_on HB1.out hbW)
  have hszW := hkW.lt
  have HD := Lib.hid (show ∀ b' o' n' c', Value.slice ad len cap = .slice (some ⟨b', o', none⟩) n' c' → ¬ (b' = w1.heap.size) from fun b' o' n' c' e => by have := HS1.out.lt e; omega)
  clear hkW hbW H HS1 HC1 HB1
  have HSZ := Lib.hid hs2
  generalize hB : w1.heap.size = B at *
  have HBB := Lib.hid hB
  clear hB hs2
  go_loopw [4, 5, 13] (fun _ _ cx wr => ∃ (j : Nat) (bs : List Nat), j ≤ s ∧ cx = .int .i64 j ∧ bs.length = s ∧ (∀ b ∈ bs, b < 256) ∧ Hid (∀ i, i < j → lim bs i = x / 256 ^ (s - 1 - i) % 256) ∧ Blk wr B 5 .u8 bs ∧ Keep (· = B) W wr) (fun _ _ cx _ => s - (intOf cx).toNat)
  case atStart => exact ⟨0, List.replicate s 0, Nat.zero_le _, rfl, by simp, fun b hb => by rw [List.eq_of_mem_replicate hb]; decide, Lib.hid (fun i hi => absurd hi (Nat.not_lt_zero i)), HKW.out, Keep.refl _ _⟩
  case round =>
    obtain ⟨j, bs, hj, rfl, hbl, hlt, HDG, hblk, hkeep⟩ := hrel
    have HBL := Lib.hid hbl
    have HLT := Lib.hid hlt
    have HBK := Lib.hid hblk
    have HK' := Lib.hid hkeep
    have hca := cell_of ((hkeep.block w.heap.size (by have := HSZ.out; omega) (by have := HSZ.out; omega)).trans HCW.out) 0
    simp only [List.getElem?_toArray, List.getElem?_cons_zero] at hca
    clear hbl hlt hkeep
    by_cases hjs : j < s
    · have hcell2 := hblk.cell (i := j) (by rw [HBL.out]; exact hjs)
      have hf := hblk.free j
      obtain ⟨p, ep, ep'⟩ : ∃ p : Nat, (s : Int) - 1 - (j : Int) = (p : Int) ∧ p = s - 1 - j := ⟨s - 1 - j, by omega, rfl⟩
      obtain ⟨q, eq, eq'⟩ : ∃ q : Nat, (p : Int) / 4 = (q : Int) ∧ q = p / 4 := ⟨p / 4, by omega, rfl⟩
      obtain ⟨r, er, er'⟩ : ∃ r : Nat, (p : Int) % 4 = (r : Int) ∧ r = p % 4 := ⟨p % 4, by omega, rfl⟩
      obtain ⟨t, et, et'⟩ : ∃ t : Nat, (r : Int) * 8 = (t : Int) ∧ t = r * 8 := ⟨r * 8, by omega, rfl⟩
      have hq : q < xs.length := by rw [eq']; exact bl_limb HV.out ho HK.out ES.out (by omega)
      have hql : q < len := by omega
      have ht : t < 32 := by omega
      have hpb : p ≤ 400000001 := by omega
      have hr4 : r < 4 := by omega
      obtain ⟨bx, offx, rfl, hcell, hblt⟩ := (HSW.out.keep HK'.out HD.out).cell (i := q) hq
      have hlim : lim xs q < 4294967296 := lim_lt ho _
      obtain ⟨z, ez, ez', ezz⟩ : ∃ z : Nat, ((lim xs q : Nat) : Int) / 2 ^ t % 256 = (z : Int) ∧ z < 256 ∧ z = x / 256 ^ (s - 1 - j) % 256 := ⟨lim xs q / 2 ^ t % 256, by simp, Nat.mod_lt _ (by decide), by rw [← ep', ← HV.out, ← lim_byte ho p, ← eq', et', er']⟩
      have HZ := Lib.hid ezz
      clear ezz
      have w1' : IntKind.i64.wrap ((j : Int) + 1) = (j : Int) + 1 := IntWalk.i64_in _ (by omega)
      clear ep' eq' er' et' hblk hq
      go_wp2_with fail
      refine ⟨⟨j + 1, bs.set j z, by omega, by go_num, by rw [List.length_set, HBL.out], ?_, ?_, HBK.out.set _ _, HK'.out.setCell rfl _⟩, by simp [intOf]; omega⟩
      · intro b hb
        rcases List.mem_or_eq_of_mem_set hb with h | h
        · exact HLT.out b h
        · rw [h]; exact ez'
      · refine Lib.hid fun i hi => ?_
        by_cases hij : i = j
        · rw [hij, lim_set_same (by rw [HBL.out]; exact hjs)]; exact HZ.out
        · rw [lim_set_other (fun h => hij h.symm)]; exact HDG.out i (by omega)
    · obtain rfl : j = s := by omega
      have hB : Lib.Bytes wr B 0 (strOfNums (bs.map fun x : Nat => (x : Int))) := Lib.bytes_of_nums (n := j) (by simp [HBL.out]) (fun x hx => by
        obtain ⟨y, hy, rfl⟩ := List.mem_map.1 hx
        have := HLT.out y hy
        omega) (fun i hi => by
        rw [Nat.zero_add, HBK.out.cell (by rw [HBL.out]; exact hi)]
        simp [lim, List.getD, List.getElem?_map]
        cases bs[i]? <;> simp)
      have hbs := byL_of HBL.out HDG.out
      have HSS0 := Lib.hid (congrArg (fun l : List Nat => strOfNums (l.map fun x : Nat => (x : Int))) hbs)
      clear hbs
      have hsz : (strOfNums (bs.map fun x : Nat => (x : Int))).size = j := by rw [strOfNums_size]; simp [HBL.out]
      have hcv := Lib.run_convert_whole (P := Tryd.prog) wr 74 5 9 Tryd.underlying74 Tryd.underlying5 Tryd.underlying9 B 0 _ hB j
      rw [hsz] at hcv
      have HSS : Hid (strOfNums (bs.map fun x : Nat => (x : Int)) = byS x j) := HSS0
      clear HSS0
      generalize strOfNums (bs.map fun x : Nat => (x : Int)) = S at *
      clear hblk hB hsz
      go_wp2_with fail
      go_ret
      refine ⟨k, by rw [← ES.out, ← HSS.out]; rfl, HK.out, ?_⟩
      exact HBW.out.trans (HK'.out.below (by have := HSZ.out; omega) (fun k hk => by have := HSZ.out; omega))

end Go.Proofs.YtpchnejdbmoicaaDoor
