/- Contracts of nat's shiftDown, Shr. -/
import Derived.Test.YtpchnejdbmoicaaDoorW5
namespace Go.Proofs.YtpchnejdbmoicaaDoor
open Go.RowKit Cin

/-- What is left to read stays. -/
theorem shiftDown_read {t : TypeId} {w : World} {v : Value} {xs ys : List Nat} {b off len cap : Nat} (h : Sl t .u32 w v xs) (hB : Blk w b t .u32 ys)
    (hne : (∀ b' o' n' c', v = .slice (some ⟨b', o', none⟩) n' c' → b' ≠ b) ∨ ∃ n' c', v = .slice (some ⟨b, off, none⟩) n' c') (hlen : xs.length ≤ len) (hcl : len ≤ cap) (hoff : off + cap ≤ ys.length)
    (k : Nat) (os : List Nat) (wr : World) (hol : os.length = k) (hk : k ≤ xs.length) (hblk : Blk wr b t .u32 (splice ys off os)) (hkeep : Keep (· = b) w wr) :
    ∃ zs, Sl t .u32 wr v zs ∧ zs.length = xs.length ∧ ∀ j, k ≤ j → lim zs j = lim xs j := by
  rcases hne with hne | ⟨n', c', rfl⟩
  · exact ⟨xs, h.keep hkeep hne, rfl, fun _ _ => rfl⟩
  · rcases h with ⟨e, _⟩ | ⟨b1, o1, c1, cur, e, hb1, hc1, hl1, hx1⟩
    · cases e
    · cases e
      unfold Blk at hB
      rw [hB] at hb1
      simp only [Option.some.injEq, Obj.cells.injEq, and_true] at hb1
      subst hb1
      rw [ints_size] at hc1
      refine ⟨((splice ys off os).drop off).take xs.length, Sl.of_part hblk (by rw [splice_length (by omega)]; exact hc1) hl1, ?_, ?_⟩
      · rw [List.length_take, List.length_drop, splice_length (by omega)]; omega
      · intro j hj
        rcases Nat.lt_or_ge j xs.length with hjx | hjx
        · have e1 := hx1 j hjx
          rw [ints_get (by omega)] at e1
          simp only [Option.some.injEq, Value.int.injEq, true_and] at e1
          rw [lim_take hjx, lim_drop]
          unfold splice
          rw [lim_append_right (by simp; omega), lim_drop]
          have e2 : off + os.length + (off + j - (ys.take off ++ os).length) = off + j := by simp; omega
          rw [e2]; omega
        · rw [lim_ge (by rw [List.length_take]; omega), lim_ge hjx]

theorem shiftDown_step {t : TypeId} {w wr : World} {xs ys zs os : List Nat} {b off k s tm : Nat} (ho : Ok xs) (hs : s < 32) (hol : os.length = k) (hok : Ok os) (hv : val os = val xs / 2 ^ s % pw k)
    (hblk : Blk wr b t .u32 (splice ys off os)) (hkeep : Keep (· = b) w wr) (hzs : ∀ j, k ≤ j → lim zs j = lim xs j) (etm : tm = (lim zs k + lim zs (k + 1) * 4294967296) / 2 ^ s % 4294967296) (hlt : off + k < ys.length) (nq : Nat) :
    (os ++ [tm]).length = k + 1 ∧ Ok (os ++ [tm]) ∧ val (os ++ [tm]) = val xs / 2 ^ s % pw (k + 1) ∧
          Blk ((wr.drewN nq).setCell ⟨b, off + k, none⟩ (.int .u32 (tm : Nat))) b t .u32 (splice ys off (os ++ [tm])) ∧ Keep (· = b) w ((wr.drewN nq).setCell ⟨b, off + k, none⟩ (.int .u32 (tm : Nat))) := by
  have hb : Blk (wr.drewN nq) b t .u32 (splice ys off os) := hblk
  have hkk : Keep (· = b) w (wr.drewN nq) := ⟨hkeep.os, hkeep.tape, hkeep.output, hkeep.size, hkeep.block⟩
  have htm : tm < 4294967296 := by rw [etm]; exact Nat.mod_lt _ (by decide)
  have e1 := val_snoc os tm
  have e2 := mod_pw_succ (val xs / 2 ^ s) k
  have e3 := limb_shift ho k s hs
  rw [hol, hv] at e1
  rw [← hzs k (Nat.le_refl _), ← hzs (k + 1) (Nat.le_succ _), ← etm] at e3
  refine ⟨by rw [List.length_append, hol]; rfl, hok.append (Ok.cons htm Ok.nil), by rw [e1, e2, e3], ?_, hkk.setCell rfl _⟩
  have := hb.set (off + k) tm
  rw [← hol, splice_set (by omega), hol] at this
  exact this

set_option maxHeartbeats 1000000 in
/-- shiftDown, into another block, or into the place of what is shifted. -/
theorem shiftDown_any (b off len cap : Nat) (ys : List Nat) (v : Value) (xs : List Nat) (s : Nat) (w : World) (hs : s < 32) (h : Sl 68 .u32 w v xs) (ho : Ok xs) (hB : Blk w b 68 .u32 ys)
    (hne : (∀ b' o' n' c', v = .slice (some ⟨b', o', none⟩) n' c' → b' ≠ b) ∨ ∃ n' c', v = .slice (some ⟨b, off, none⟩) n' c') (hlen : xs.length ≤ len) (hcl : len ≤ cap) (hoff : off + cap ≤ ys.length) (hn : xs.length ≤ 1000000000000) :
    Calls Tryd.prog 94 #[.slice (some ⟨b, off, none⟩) len cap, v, .int .i64 s] w fun e w' => e = .returned (.tuple #[]) ∧
      ∃ os, os.length = xs.length ∧ Ok os ∧ val os = val xs / 2 ^ s ∧ Blk w' b 68 .u32 (splice ys off os) ∧ Keep (· = b) w w' := by
  have hfin : val xs / 2 ^ s % pw xs.length = val xs / 2 ^ s := Nat.mod_eq_of_lt (Nat.lt_of_le_of_lt (Nat.div_le_self _ _) (val_lt ho))
  have HR := Lib.hid (shiftDown_read h hB hne hlen hcl hoff)
  have HF := Lib.hid hfin
  have HB := Lib.hid hB
  obtain ⟨ad, xcap, rfl, hcap, had⟩ := h.shape
  clear h had hne hB hfin
  generalize hln : xs.length = n at *
  have HLN := Lib.hid hln
  clear hln
  go_enter Tryd.func94, Tryd.ntmps94
  go_wp2_with fail
  go_loopw [6, 7, 10] (fun _ _ i wr => ∃ (k : Nat) (os : List Nat), k ≤ n ∧ i = .int .i64 k ∧ os.length = k ∧ Ok os ∧ val os = val xs / 2 ^ s % pw k ∧
      Blk wr b 68 .u32 (splice ys off os) ∧ Keep (· = b) w wr) (fun _ _ i _ => n - (intOf i).toNat)
  case atStart => exact ⟨0, [], Nat.zero_le _, rfl, rfl, Ok.nil, by rw [pw_zero, Nat.mod_one]; rfl, by rw [splice_nil]; exact HB.out, Keep.refl _ _⟩
  case round =>
    obtain ⟨k, os, hk, rfl, hol, hok, hv, hblk, hkeep⟩ := hrel
    obtain ⟨zs, hsl, hzl, hzs⟩ := HR.out k os wr hol (by have := HLN.out; omega) hblk hkeep
    have HOL := Lib.hid hol
    have HV := Lib.hid hv
    have HBK := Lib.hid hblk
    have HK := Lib.hid hkeep
    have HZS := Lib.hid hzs
    have hzl' : zs.length = n := by have := HLN.out; omega
    clear hol hv hkeep hzl
    by_cases hlt : k < n
    · have hcell2 := hblk.cell (i := off + k) (by rw [splice_length (by have := HOL.out; omega)]; omega)
      have hf := hblk.free (off + k)
      obtain ⟨bx, offx, rfl, hcell, hblt⟩ := hsl.cell (i := k) (by omega)
      have l0 : lim zs k < 4294967296 := by rw [hzs k (Nat.le_refl _)]; exact lim_lt ho _
      have l1 : lim zs (k + 1) < 4294967296 := by rw [hzs _ (by omega)]; exact lim_lt ho _
      have hor : bits BinOp.or IntKind.u64 ((lim zs k : Nat) : Int) (((lim zs (k + 1) : Nat) : Int) * 4294967296) = ((lim zs k + lim zs (k + 1) * 4294967296 : Nat) : Int) := by
        have := or_u64' (x := lim zs (k + 1)) (y := lim zs k) (s := 32) (by omega) (by omega) (by omega)
        simpa using this
      obtain ⟨t, ht⟩ : ∃ t : Nat, t = lim zs k + lim zs (k + 1) * 4294967296 := ⟨_, rfl⟩
      rw [← ht] at hor
      obtain ⟨tm, htm, etm⟩ : ∃ tm : Nat, ((t : Int) / 2 ^ s % 4294967296) = (tm : Int) ∧ tm = t / 2 ^ s % 4294967296 := ⟨t / 2 ^ s % 4294967296, by simp, rfl⟩
      rw [ht] at etm
      have ETM := Lib.hid etm
      have w1 : IntKind.i64.wrap ((k : Int) + 1) = (k : Int) + 1 := IntWalk.i64_in _ (by omega)
      clear ht etm hblk hzs
      have hkl : k < len := by omega
      go_wp2_with fail
      go_quiet ((go_at_call 74; exact limbAt_quiet hsl _ (by omega)))
      go_wp2_with fail
      have R := shiftDown_step ho hs HOL.out hok HV.out HBK.out HK.out HZS.out ETM.out (by omega) nq
      exact ⟨⟨k + 1, os ++ [tm], by omega, by go_num, R⟩, by simp [intOf]; omega⟩
    · obtain rfl : k = n := by omega
      clear hblk hzs
      go_wp2
      go_end0
      exact ⟨rfl, os, HOL.out, hok, by rw [HV.out, HF.out], HBK.out, HK.out⟩

end Go.Proofs.YtpchnejdbmoicaaDoor
