/- Contracts of nat's Of, shiftUp. -/
import Derived.Test.YtpchnejdbmoicaaDoorW1
namespace Go.Proofs.YtpchnejdbmoicaaDoor
open Go.RowKit Cin

set_option maxHeartbeats 400000 in
theorem of_any (v : Nat) (w : World) (hv : v < 18446744073709551616) :
    Calls Tryd.prog 45 #[.int .u64 v] w fun e w' => ∃ v', e = .returned v' ∧ NatV 68 w' v' v ∧ Below w.heap.size w w' := by
  obtain ⟨lo, hlo⟩ : ∃ lo : Nat, ((v : Int) % 4294967296) = (lo : Int) ∧ lo < 4294967296 ∧ lo = v % 4294967296 := ⟨v % 4294967296, by omega, by omega, rfl⟩
  obtain ⟨hi, hhi⟩ : ∃ hi : Nat, ((v : Int) / 4294967296) = (hi : Int) ∧ hi < 4294967296 ∧ hi = v / 4294967296 := ⟨v / 4294967296, by omega, by omega, rfl⟩
  obtain ⟨e1, b1, r1⟩ := hlo
  obtain ⟨e2, b2, r2⟩ := hhi
  have HV := Lib.hid (show val [lo, hi] = v by simp [val]; omega)
  have HO := Lib.hid (show Ok [lo, hi] from Ok.cons b1 (Ok.cons b2 Ok.nil))
  clear r1 r2
  go_enter Tryd.func45, Tryd.ntmps45
  go_wp2_with fail
  have hblk := Blk.new (w.alloc (Obj.cells #[Value.slice none 0 0] 25)) 68 .u32 [lo, hi]
  simp only [World.size_alloc] at hblk
  refine (wrap_any _ [lo, hi] _ (Sl.of_blk hblk) HO.out (by simp)).mono ?_
  rintro e w1 ⟨v', rfl, hn, hb⟩
  have hk := (hb.block w.heap.size (by simp; omega)).trans (new_block2 _ _ _)
  have hc := cell_of hk 0
  have hf := free_of hk 0
  simp only [List.getElem?_toArray, List.getElem?_cons_zero] at hc
  obtain ⟨ad, len, cap, rfl, hr⟩ := hn.shape
  have HR := Lib.hid (fin_nat ((((Below.refl _ _).alloc (Nat.le_refl _) _).alloc (by simp) _).trans (hb.mono (by simp; omega))) hk (by decide) hr (Nat.le_refl _) 0)
  clear hr hb hblk hk hn
  go_wp2
  refine bodyPost_ret (v := .agg #[.slice ad len cap]) (by simp [results, Tryd.results45, go_sem, World.cell?_setCell_same _ _ _ hc]) rfl ⟨_, rfl, ?_⟩
  have := HR.out
  rw [HV.out] at this
  exact this

set_option maxHeartbeats 800000 in
theorem shiftUp_any (b off len cap : Nat) (ys : List Nat) (v : Value) (xs : List Nat) (s : Nat) (w : World) (hs : s < 32) (h : Sl 68 .u32 w v xs) (ho : Ok xs) (hB : Blk w b 68 .u32 ys)
    (hne : ∀ b' o' n' c', v = .slice (some ⟨b', o', none⟩) n' c' → b' ≠ b) (hlen : xs.length < len) (hcl : len ≤ cap) (hoff : off + cap ≤ ys.length) (hn : xs.length ≤ 1000000000000) :
    Calls Tryd.prog 85 #[.slice (some ⟨b, off, none⟩) len cap, v, .int .i64 s] w fun e w' => e = .returned (.tuple #[]) ∧
      ∃ os, os.length = xs.length + 1 ∧ Ok os ∧ val os = val xs * 2 ^ s ∧ Blk w' b 68 .u32 (splice ys off os) ∧ Keep (· = b) w w' := by
  obtain ⟨ad, xcap, rfl, hcap, had⟩ := h.shape
  have hp : 2 ^ s ≤ 2147483648 := by have := Nat.pow_le_pow_right (n := 2) (by decide) (show s ≤ 31 by omega); simpa using this
  have HP := Lib.hid hp
  clear hp
  have H := Lib.hid h
  have HNE := Lib.hid hne
  have HB := Lib.hid hB
  clear h had hne hB
  generalize hln : xs.length = n at *
  have HLN := Lib.hid hln
  clear hln
  go_enter Tryd.func85, Tryd.ntmps85
  go_wp2_with fail
  go_loopw [6, 7, 8, 11] (fun c _ _ i wr => ∃ (k q : Nat) (os : List Nat), k ≤ n ∧ i = .int .i64 k ∧ c = .int .u64 q ∧ q < 2 ^ s ∧ os.length = k ∧ Ok os ∧ val os + pw k * q = val (xs.take k) * 2 ^ s ∧
      Blk wr b 68 .u32 (splice ys off os) ∧ Keep (· = b) w wr) (fun _ _ _ i _ => n - (intOf i).toNat)
  case atStart => exact ⟨0, 0, [], Nat.zero_le _, rfl, rfl, Nat.pow_pos (by decide), rfl, Ok.nil, by simp [val], by rw [splice_nil]; exact HB.out, Keep.refl _ _⟩
  case round =>
    obtain ⟨k, q, os, hk, rfl, rfl, hq, hol, hok, hv, hblk, hkeep⟩ := hrel
    have HQ := Lib.hid hq
    have HOL := Lib.hid hol
    have HV := Lib.hid hv
    have hcell2 := hblk.cell (i := off + k) (by rw [splice_length (by omega)]; omega)
    have hf := hblk.free (off + k)
    have HBK := Lib.hid hblk
    have HK := Lib.hid hkeep
    clear hq hol hv hblk hkeep
    by_cases hlt : k < n
    · obtain ⟨bx, offx, rfl, hcell, hblt⟩ := (H.out.keep HK.out (fun b' o' n' c' e => HNE.out b' o' n' c' e)).cell (i := k) (by have := HLN.out; omega)
      have hlim : lim xs k < 4294967296 := lim_lt ho _
      obtain ⟨t, ht⟩ : ∃ t : Nat, t = q + lim xs k * 2 ^ s := ⟨_, rfl⟩
      have ht2 : t < 9223372036854775808 := by
        have h1 := HP.out; have h2 := HQ.out
        have h3 : lim xs k * 2 ^ s ≤ 4294967295 * 2147483648 := Nat.mul_le_mul (by omega) h1
        omega
      have hor : bits BinOp.or IntKind.u64 (q : Int) (IntKind.u64.wrap (((lim xs k : Nat) : Int) * 2 ^ s)) = (t : Int) := by
        have h1 := HP.out; have h2 := HQ.out
        have h3 : lim xs k * 2 ^ s ≤ 4294967295 * 2147483648 := Nat.mul_le_mul (by omega) h1
        have e1 : IntKind.u64.wrap (((lim xs k : Nat) : Int) * 2 ^ s) = ((lim xs k * 2 ^ s : Nat) : Int) := by
          rw [IntKind.wrap_u64, show (((lim xs k : Nat) : Int) * 2 ^ s) = ((lim xs k * 2 ^ s : Nat) : Int) by simp]; omega
        rw [e1, u64_or_nat _ _ (by omega) (by omega), Nat.or_comm, nat_join s _ _ (Nat.mul_mod_left _ _) h2, ht]; simp [Nat.add_comm]
      obtain ⟨td, htd, etd⟩ : ∃ td : Nat, ((t : Int) / 4294967296) = (td : Int) ∧ td = t / 4294967296 := ⟨t / 4294967296, by omega, rfl⟩
      obtain ⟨tm, htm, etm⟩ : ∃ tm : Nat, ((t : Int) % 4294967296) = (tm : Int) ∧ tm = t % 4294967296 := ⟨t % 4294967296, by omega, rfl⟩
      have R : td < 2 ^ s ∧ (os ++ [tm]).length = k + 1 ∧ Ok (os ++ [tm]) ∧ val (os ++ [tm]) + pw (k + 1) * td = val (xs.take (k + 1)) * 2 ^ s ∧
          Blk (wr.setCell ⟨b, off + k, none⟩ (.int .u32 (tm : Nat))) b 68 .u32 (splice ys off (os ++ [tm])) ∧ Keep (· = b) w (wr.setCell ⟨b, off + k, none⟩ (.int .u32 (tm : Nat))) := by
        have e0 := HOL.out
        refine ⟨?_, by simp [e0], hok.append (Ok.cons (by omega) Ok.nil), ?_, ?_, HK.out.setCell rfl _⟩
        · rw [etd, Nat.div_lt_iff_lt_mul (by decide)]
          have h2 := HQ.out
          have h3 : (lim xs k + 1) * 2 ^ s ≤ 4294967296 * 2 ^ s := Nat.mul_le_mul_right _ hlim
          rw [Nat.add_mul] at h3
          rw [ht, Nat.mul_comm (2 ^ s)]; omega
        · rw [val_append, val_take_succ (by have := HLN.out; omega), e0, pw_succ, Nat.add_mul, ← HV.out]
          have : t = tm + 4294967296 * td := by omega
          have e3 : pw k * lim xs k * 2 ^ s = pw k * (lim xs k * 2 ^ s) := Nat.mul_assoc _ _ _
          have e4 : lim xs k * 2 ^ s = tm + 4294967296 * td - q := by omega
          have e5 : q + lim xs k * 2 ^ s = tm + 4294967296 * td := by omega
          have e6 : pw k * (q + lim xs k * 2 ^ s) = pw k * (tm + 4294967296 * td) := by rw [e5]
          rw [Nat.mul_add, Nat.mul_add] at e6
          have e7 : 4294967296 * pw k * td = pw k * (4294967296 * td) := by rw [Nat.mul_comm 4294967296, Nat.mul_assoc]
          simp only [val, Nat.mul_zero, Nat.add_zero]
          omega
        · have := HBK.out.set (off + k) tm
          rw [← e0, splice_set (by omega), e0] at this
          exact this
      have HR := Lib.hid R
      clear R ht etd etm ht2
      go_wp2
      obtain ⟨r1, r2, r3, r4, r5, r6⟩ := HR.out
      exact ⟨⟨k + 1, td, os ++ [tm], by omega, by go_num, rfl, r1, r2, r3, r4, r5, r6⟩, by simp [intOf]; omega⟩
    · obtain rfl : k = n := by omega
      obtain ⟨qm, hqm, eqm⟩ : ∃ qm : Nat, ((q : Int) % 4294967296) = (qm : Int) ∧ qm = q := ⟨q, by have := HP.out; have := HQ.out; omega, rfl⟩
      have HE := Lib.hid eqm
      clear eqm
      go_wp2
      go_end0
      refine ⟨rfl, os ++ [qm], by simp [HOL.out], hok.append (Ok.cons (by have := HP.out; have := HQ.out; have := HE.out; omega) Ok.nil), ?_, ?_, HK.out.setCell rfl _⟩
      · have h1 := HV.out
        rw [val_append, HE.out, HOL.out]
        rw [← HLN.out, List.take_length, HLN.out] at h1
        simp [val]; exact h1
      · have e0 := HOL.out
        have := HBK.out.set (off + k) qm
        rw [← e0, splice_set (by omega)] at this
        rw [← e0]; exact this

end Go.Proofs.YtpchnejdbmoicaaDoor
