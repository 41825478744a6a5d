/- The contract of the document's NatBytes. -/
import Derived.Test.YtpchnejdbmoicaaDoorYp
import Derived.Test.YtpchnejdbmoicaaDoorWC
namespace Go.Proofs.YtpchnejdbmoicaaDoor
open Go.RowKit Cin

set_option maxRecDepth 100000 in
set_option maxHeartbeats 1000000 in
/-- NatBytes: a byte for each eight binary digits. -/
theorem rbytes_any (v : Value) (x L : Nat) (w : World) (h : RefB w v x L) (hL : L ≤ 1000000) :
    Calls Tryd.prog 14 #[v] w fun e w' => ∃ k : Nat, e = .returned (.string (byS x ((k + 7) / 8))) ∧ IsBl x k ∧ Below w.heap.size w w' := by
  have HN := Lib.hid h
  obtain ⟨⟨xs, hs, ho, hnm, hv⟩, hx⟩ := h
  obtain ⟨ad, cap, rfl, hc, _⟩ := hs.shape
  have hl : xs.length ≤ L := norm_len hnm (by rw [hv]; exact hx)
  obtain ⟨len, hlx⟩ : ∃ n : Nat, xs.length = n := ⟨_, rfl⟩
  rw [hlx] at hs hl hc HN ⊢
  have H := Lib.hid hs
  have HV := Lib.hid hv
  clear hx hs hv hnm
  go_enter Tryd.func14, Tryd.ntmps14
  go_wp2_with fail
  refine (rbits_any _ x L _ HN.out hL).mono ?_
  rintro e w1 ⟨k, rfl, hk, hkb, rfl⟩
  obtain ⟨s, es, es'⟩ : ∃ s : Nat, ((k : Int) + 7) / 8 = (s : Int) ∧ s = (k + 7) / 8 := ⟨(k + 7) / 8, by omega, rfl⟩
  have ES := Lib.hid es'
  have HK := Lib.hid hk
  have hsb : s ≤ 400000001 := by omega
  obtain ⟨i0, hi0, hz0, hz1, hz2⟩ := info_parts info_u8
  clear es' hk HN
  go_wp2_with (at_make; refine wpList_make_ints _ rfl _ _ 74 rfl 5 i0 .u8 Tryd.underlying74 hi0 hz0 hz1 .i64 .i64 _ _ s s rfl rfl (by omega) (by omega) (Nat.le_refl _) (by rw [hz2]; omega) (by omega) ?_)
  have hkW : Blk (w1.alloc (Obj.cells (ints IntKind.u8 (List.replicate s 0)) 5)) w1.heap.size 5 .u8 (List.replicate s 0) := Blk.new _ _ _ _
  have hbW := bel_alloc w1 (Obj.cells (ints IntKind.u8 (List.replicate s 0)) 5)
  generalize w1.alloc (Obj.cells (ints IntKind.u8 (List.replicate s 0)) 5) = W at *
  have HKW := Lib.hid hkW
  have HSW := Lib.hid (H.out.below hbW)
  have HBW := Lib.hid hbW
  have HD := Lib.hid (show ∀ b' o' n' c', Value.slice ad len cap = .slice (some ⟨b', o', none⟩) n' c' → ¬ (b' = w1.heap.size) from fun b' o' n' c' e => by have := H.out.lt e; omega)
  clear hkW hbW H hi0 hz0 hz1 hz2
  go_loopw [5] (fun cx wr => ∃ (j : Nat) (bs : List Nat), j ≤ s ∧ cx = .int .i64 j ∧ bs.length = s ∧ (∀ b ∈ bs, b < 256) ∧ Hid (∀ i, s ≤ i + j → i < s → lim bs i = x / 256 ^ (s - 1 - i) % 256) ∧ Blk wr w1.heap.size 5 .u8 bs ∧ Keep (· = w1.heap.size) W wr) (fun cx _ => s - (intOf cx).toNat)
  case atStart => exact ⟨0, List.replicate s 0, Nat.zero_le _, rfl, by simp, fun b hb => by rw [List.eq_of_mem_replicate hb]; decide, Lib.hid (fun i h1 h2 => by omega), HKW.out, Keep.refl _ _⟩
  case round =>
    obtain ⟨j, bs, hj, rfl, hbl, hlt, HDG, hblk, hkeep⟩ := hrel
    have HBL := Lib.hid hbl
    have HLT := Lib.hid hlt
    have HBK := Lib.hid hblk
    have HK' := Lib.hid hkeep
    clear hbl hlt hkeep
    by_cases hjs : j < s
    · obtain ⟨p, ep, ep'⟩ : ∃ p : Nat, (s : Int) - 1 - (j : Int) = (p : Int) ∧ p = s - 1 - j := ⟨s - 1 - j, by omega, rfl⟩
      have hcell2 := hblk.cell (i := p) (by rw [HBL.out]; omega)
      have hf := hblk.free p
      obtain ⟨q, eq, eq'⟩ : ∃ q : Nat, (j : Int) / 4 = (q : Int) ∧ q = j / 4 := ⟨j / 4, by omega, rfl⟩
      obtain ⟨r, er, er'⟩ : ∃ r : Nat, (j : Int) % 4 = (r : Int) ∧ r = j % 4 := ⟨j % 4, by omega, rfl⟩
      obtain ⟨t, et, et'⟩ : ∃ t : Nat, 8 * (r : Int) = (t : Int) ∧ t = r * 8 := ⟨r * 8, by omega, rfl⟩
      have hq : q < xs.length := by rw [eq']; exact bl_limb HV.out ho HK.out ES.out hjs
      have hql : q < len := by omega
      have ht : t < 32 := by omega
      have hpb : p ≤ 400000001 := by omega
      have hr4 : r < 4 := by omega
      have hps : (p : Int) < (s : Int) := by omega
      obtain ⟨bx, offx, rfl, hcell, hblt⟩ := (HSW.out.keep HK'.out HD.out).cell (i := q) hq
      have hlim : lim xs q < 4294967296 := lim_lt ho _
      obtain ⟨z, ez, ez', ezz⟩ : ∃ z : Nat, ((lim xs q : Nat) : Int) / 2 ^ t % 256 = (z : Int) ∧ z < 256 ∧ z = x / 256 ^ (s - 1 - p) % 256 := ⟨lim xs q / 2 ^ t % 256, by simp, Nat.mod_lt _ (by decide), by rw [show s - 1 - p = j by omega, ← HV.out, ← lim_byte ho j, ← eq', et', er']⟩
      have HZ := Lib.hid ezz
      have EP := Lib.hid ep'
      have w1' : IntKind.i64.wrap ((j : Int) + 1) = (j : Int) + 1 := IntWalk.i64_in _ (by omega)
      clear ezz ep' eq' er' et' hblk hq
      go_wp2_with fail
      refine ⟨⟨j + 1, bs.set p z, by omega, by go_num, by rw [List.length_set, HBL.out], ?_, ?_, HBK.out.set _ _, HK'.out.setCell rfl _⟩, by simp [intOf]; omega⟩
      · intro b hb
        rcases List.mem_or_eq_of_mem_set hb with h | h
        · exact HLT.out b h
        · rw [h]; exact ez'
      · refine Lib.hid fun i h1 h2 => ?_
        have e := EP.out
        by_cases hij : i = p
        · rw [hij, lim_set_same (by rw [HBL.out]; omega)]; exact HZ.out
        · rw [lim_set_other (fun h => hij h.symm)]; exact HDG.out i (by omega) h2
    · obtain rfl : j = s := by omega
      have hB : Lib.Bytes wr w1.heap.size 0 (strOfNums (bs.map fun x : Nat => (x : Int))) := Lib.bytes_of_nums (n := j) (by simp [HBL.out]) (fun x hx => by
        obtain ⟨y, hy, rfl⟩ := List.mem_map.1 hx
        have := HLT.out y hy
        omega) (fun i hi => by
        rw [Nat.zero_add, HBK.out.cell (by rw [HBL.out]; exact hi)]
        simp [lim, List.getD, List.getElem?_map]
        cases bs[i]? <;> simp)
      have hbs := byL_of HBL.out (fun i hi => HDG.out i (by omega) hi)
      have HSS : Hid (strOfNums (bs.map fun x : Nat => (x : Int)) = byS x j) := Lib.hid (congrArg (fun l : List Nat => strOfNums (l.map fun x : Nat => (x : Int))) hbs)
      clear hbs
      have hsz : (strOfNums (bs.map fun x : Nat => (x : Int))).size = j := by rw [strOfNums_size]; simp [HBL.out]
      have hcv := Lib.run_convert_whole (P := Tryd.prog) wr 74 5 9 Tryd.underlying74 Tryd.underlying5 Tryd.underlying9 w1.heap.size 0 _ hB j
      rw [hsz] at hcv
      generalize strOfNums (bs.map fun x : Nat => (x : Int)) = S at *
      clear hblk hB hsz
      go_wp2_with fail
      go_ret
      refine ⟨k, by rw [← ES.out, ← HSS.out]; rfl, HK.out, ?_⟩
      exact HBW.out.trans (HK'.out.below HBW.out.size (fun k hk => by omega))

end Go.Proofs.YtpchnejdbmoicaaDoor
