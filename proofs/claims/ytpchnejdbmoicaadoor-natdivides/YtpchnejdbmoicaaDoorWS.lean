/- The contract of nat's Sub. -/
import Derived.Test.YtpchnejdbmoicaaDoorWM
namespace Go.Proofs.YtpchnejdbmoicaaDoor
open Go.RowKit Cin

theorem step_sub {t0 : TypeId} {w wr : World} {xs ys os ys0 : List Nat} {b k q td tm : Nat} {t : Int} (hol : os.length = k) (hok : Ok os) (hv : val (xs.take k) + pw k * q = val os + val (ys.take k))
    (hblk : Blk wr b t0 .u32 (splice ys0 0 os)) (hkeep : Keep (· = b) w wr) (et : t = -(q : Int) + ((lim xs k : Int) - (lim ys k : Int))) (etd : t / 4294967296 = -(td : Int)) (etm : t % 4294967296 = (tm : Int)) (hlt : k < ys0.length)
    (hq : q ≤ 1) (hx : lim xs k < 4294967296) (hy : lim ys k < 4294967296) :
    td ≤ 1 ∧ (os ++ [tm]).length = k + 1 ∧ Ok (os ++ [tm]) ∧ val (xs.take (k + 1)) + pw (k + 1) * td = val (os ++ [tm]) + val (ys.take (k + 1)) ∧
      Blk (wr.setCell ⟨b, k, none⟩ (.int .u32 (tm : Nat))) b t0 .u32 (splice ys0 0 (os ++ [tm])) ∧ Keep (· = b) w (wr.setCell ⟨b, k, none⟩ (.int .u32 (tm : Nat))) := by
  have htm : tm < 4294967296 := by omega
  refine ⟨by omega, by rw [List.length_append, hol]; rfl, hok.append (Ok.cons htm Ok.nil), ?_, ?_, hkeep.setCell rfl _⟩
  · rw [val_snoc, hol, val_take_step xs, val_take_step ys, pw_succ]
    have e1 : lim xs k + 4294967296 * td = tm + lim ys k + q := by omega
    have e2 : pw k * lim xs k + 4294967296 * pw k * td = pw k * tm + pw k * lim ys k + pw k * q := by
      have := congrArg (pw k * ·) e1
      simp only [Nat.mul_add] at this
      rw [← this, Nat.mul_comm 4294967296 (pw k), Nat.mul_assoc]
    omega
  · have := hblk.set (0 + k) tm
    rw [← hol, splice_set (by omega), hol, Nat.zero_add] at this
    exact this

/-- What is known at the end. -/
theorem end_sub {xs ys os : List Nat} {n q : Nat} (hol : os.length = n) (hok : Ok os) (hv : val (xs.take n) + pw n * q = val os + val (ys.take n)) (hx : xs.length = n) (hy : ys.length ≤ n) (hle : val ys ≤ val xs) : val os = val xs - val ys := by
  rw [List.take_of_length_le (by omega), List.take_of_length_le hy] at hv
  have h1 := val_lt hok
  rw [hol] at h1
  rcases Nat.eq_zero_or_pos q with h0 | h0
  · subst h0; omega
  · have : pw n * 1 ≤ pw n * q := Nat.mul_le_mul_left _ h0
    omega

set_option maxRecDepth 100000 in
set_option maxHeartbeats 2000000 in
/-- Sub, where b is greater: nothing, and false. -/
theorem sub_less (v u : Value) (x y : Nat) (L : Nat) (w : World) (h : NatV 68 w v x) (h' : NatV 68 w u y) (hx : x < pw L) (hy : y < pw L) (hL : L ≤ 100000000) (hlt : x < y) :
    Calls Tryd.prog 79 #[v, u] w fun e w' => e = .returned (.tuple #[.agg #[.slice none 0 0], .bool false]) ∧ Below w.heap.size w w' := by
  have hn := h
  have hn' := h'
  obtain ⟨ad, n, cap, rfl, _⟩ := h.shape
  obtain ⟨ad', m, cap', rfl, _⟩ := h'.shape
  have HN := Lib.hid hn
  have HN' := Lib.hid hn'
  have HX := Lib.hid hx
  have HY := Lib.hid hy
  have HC := Lib.hid (show cmpI x y = -1 by unfold cmpI; rw [if_pos hlt])
  clear h h' hn hn' hx hy hlt
  go_enter Tryd.func79, Tryd.ntmps79
  go_wp2_with fail
  refine (cmp_any _ _ x y L _ (HN.out.below (bel_alloc3 _ _ _ _)) (HN'.out.below (bel_alloc3 _ _ _ _)) HX.out HY.out hL).mono ?_
  rintro e w1 ⟨rfl, hb⟩
  rw [HC.out]
  have hk := (hb.block (w.heap.size + 1 + 1) (by simp)).trans (nb32 _ _ _ _)
  have hc := cell_of hk 0
  have hf := free_of hk 0
  simp only [List.getElem?_toArray, List.getElem?_cons_zero] at hc
  have HB := Lib.hid ((bel_on (bel_alloc3 _ _ _ _) hb).setCell (p := ⟨w.heap.size + 1 + 1, 0, none⟩) (by show w.heap.size ≤ w.heap.size + 1 + 1; omega) (.slice none 0 0))
  clear hb hk
  go_wp2
  refine bodyPost_ret (v := .tuple #[.agg #[.slice none 0 0], .bool false]) (by simp [results, Tryd.results79, go_sem, World.cell?_setCell_same _ _ _ hc]) rfl ⟨rfl, HB.out⟩

set_option maxRecDepth 100000 in
set_option maxHeartbeats 2000000 in
/-- Sub: a less b. -/
theorem sub_any (v u : Value) (x y : Nat) (L : Nat) (w : World) (h : NatV 68 w v x) (h' : NatV 68 w u y) (hx : x < pw L) (hy : y < pw L) (hL : L ≤ 100000000) (hle : y ≤ x) :
    Calls Tryd.prog 79 #[v, u] w fun e w' => ∃ v', e = .returned (.tuple #[v', .bool true]) ∧ NatV 68 w' v' (x - y) ∧ Below w.heap.size w w' := by
  have hn := h
  have hn' := h'
  obtain ⟨ad, n, cap, rfl, xs, hs, ho, hnm, rfl⟩ := h.shape
  obtain ⟨ad', m, cap', rfl, ys, hs', ho', hnm', rfl⟩ := h'.shape
  obtain ⟨i0, hi0, hz0, hz1, hz2⟩ := info_parts info_u32
  have hlx := hs.len
  have hly := hs'.len
  have hmn : m ≤ n := by have := len_of_val_le hnm' ho hle; omega
  have hl : n ≤ 100000000 := by have := norm_len hnm hx; omega
  have HN := Lib.hid hn
  have HN' := Lib.hid hn'
  have HX := Lib.hid hx
  have HY := Lib.hid hy
  have HLE := Lib.hid hle
  have HC := Lib.hid (show cmpI (val xs) (val ys) = 0 ∨ cmpI (val xs) (val ys) = 1 by unfold cmpI; rw [if_neg (by omega)]; split; exact .inr rfl; exact .inl rfl)
  have H := Lib.hid hs
  have H' := Lib.hid hs'
  have HLX := Lib.hid hlx
  have HLY := Lib.hid hly
  clear hx hy h h' hn hn' hs hs' hlx hly hnm hnm' hle
  go_enter Tryd.func79, Tryd.ntmps79
  go_wp2_with fail
  refine (cmp_any _ _ (val xs) (val ys) L _ (HN.out.below (bel_alloc3 _ _ _ _)) (HN'.out.below (bel_alloc3 _ _ _ _)) HX.out HY.out hL).mono ?_
  rintro e w1 ⟨rfl, hb⟩
  obtain ⟨c, hc0, hcc⟩ : ∃ c : Int, 0 ≤ c ∧ cmpI (val xs) (val ys) = c := by rcases HC.out with e | e <;> exact ⟨_, by rw [e]; decide, rfl⟩
  rw [hcc]
  have hr1 := (hb.block (w.heap.size + 1 + 1) (by simp)).trans (nb32 _ _ _ _)
  have hra := (hb.block (w.heap.size) (by simp; omega)).trans (new_block3 _ _ _ _)
  have hrb := (hb.block (w.heap.size + 1) (by simp)).trans (nb31 _ _ _ _)
  have hbw := bel_on (bel_alloc3 _ _ _ _) hb
  have hsz : w.heap.size + 1 + 1 + 1 ≤ w1.heap.size := by have := hb.size; simpa using this
  have hca := cell_of hra 0
  simp only [List.getElem?_toArray, List.getElem?_cons_zero] at hca
  have hca2 : (w1.alloc (Obj.cells (ints IntKind.u32 (List.replicate n 0)) 68)).cell? ⟨w.heap.size, 0, none⟩ = some (.slice ad n cap) := by rw [(bel_alloc w1 _).cell (by show w.heap.size < _; omega)]; exact hca
  have hcd : decide (c < 0) = false := by rw [decide_eq_false_iff_not]; omega
  have HCC := Lib.hid hcc
  have HR1 := Lib.hid hr1
  have HRB := Lib.hid hrb
  have HBW := Lib.hid hbw
  clear hcc hr1 hra hrb hbw hb
  go_wp2_with (at_make; refine wpList_make_ints _ rfl _ _ 23 rfl 68 i0 .u32 Tryd.underlying23 hi0 hz0 hz1 .i64 .i64 _ _ n n rfl rfl (by omega) (by omega) (Nat.le_refl _) (by rw [hz2]; omega) (by omega) ?_)
  have hbX := bel_on HBW.out (bel_alloc w1 (Obj.cells (ints IntKind.u32 (List.replicate n 0)) 68))
  have hrX := ((bel_alloc w1 (Obj.cells (ints IntKind.u32 (List.replicate n 0)) 68)).block (w.heap.size + 1 + 1) (by omega)).trans HR1.out
  have hbbX := ((bel_alloc w1 (Obj.cells (ints IntKind.u32 (List.replicate n 0)) 68)).block (w.heap.size + 1) (by omega)).trans HRB.out
  have hkX : Blk (w1.alloc (Obj.cells (ints IntKind.u32 (List.replicate n 0)) 68)) w1.heap.size 68 .u32 (List.replicate n 0) := Blk.new _ _ _ _
  have HD := Lib.hid (show ∀ b' o' n' c', Value.slice ad n cap = .slice (some ⟨b', o', none⟩) n' c' → ¬ (b' = w1.heap.size) from fun b' o' n' c' e => by have := H.out.lt e; omega)
  have HD' := Lib.hid (show ∀ b' o' n' c', Value.slice ad' m cap' = .slice (some ⟨b', o', none⟩) n' c' → ¬ (b' = w1.heap.size) from fun b' o' n' c' e => by have := H'.out.lt e; omega)
  generalize w1.alloc (Obj.cells (ints IntKind.u32 (List.replicate n 0)) 68) = X at *
  have hszX := hkX.lt
  generalize w1.heap.size = B at *
  have HL := Lib.hid (H.out.below hbX)
  have HS := Lib.hid (H'.out.below hbX)
  have HBX := Lib.hid hbX
  have HRX := Lib.hid hrX
  have HBBX := Lib.hid hbbX
  have HKX := Lib.hid hkX
  clear hbX hrX hbbX hkX H H' HR1 HRB HBW hca hca2
  go_loopw [7, 8, 9, 22] (fun c _ _ i wr => ∃ (k q : Nat) (os : List Nat), k ≤ n ∧ i = .int .i64 k ∧ c = .int .i64 (-(q : Int)) ∧ q ≤ 1 ∧ os.length = k ∧ Ok os ∧ val (xs.take k) + pw k * q = val os + val (ys.take k) ∧
      Blk wr B 68 .u32 (splice (List.replicate n 0) 0 os) ∧ Keep (· = B) X wr) (fun _ _ _ i _ => n - (intOf i).toNat)
  case atStart => exact ⟨0, 0, [], Nat.zero_le _, rfl, rfl, by omega, rfl, Ok.nil, rfl, by rw [splice_nil]; exact HKX.out, Keep.refl _ _⟩
  case round =>
    obtain ⟨k, q, os, hk, rfl, rfl, hq, hol, hok, hv, hblk, hkeep⟩ := hrel
    have HOL := Lib.hid hol
    have HV := Lib.hid hv
    have HBK := Lib.hid hblk
    have HK := Lib.hid hkeep
    have hcb := cell_of ((hkeep.block (w.heap.size + 1) (by omega) (by omega)).trans HBBX.out) 0
    simp only [List.getElem?_toArray, List.getElem?_cons_zero] at hcb
    by_cases hlt : k < n
    · have hcell2 := hblk.cell (i := k) (by rw [splice_length (by simp; omega)]; simp; omega)
      have hf := hblk.free k
      obtain ⟨bx, offx, rfl, hcell, hblt⟩ := (HL.out.keep HK.out HD.out).cell (i := k) (by have := HLX.out; omega)
      have HSr := Lib.hid (HS.out.keep HK.out HD'.out)
      have hlim : lim xs k < 4294967296 := lim_lt ho _
      have hlim2 : lim ys k < 4294967296 := lim_lt ho' _
      obtain ⟨t, ht, et⟩ : ∃ t : Int, -(q : Int) + (((lim xs k : Nat) : Int) - ((lim ys k : Nat) : Int)) = t ∧ t = -(q : Int) + (((lim xs k : Nat) : Int) - ((lim ys k : Nat) : Int)) := ⟨_, rfl, rfl⟩
      have htb : -4294967296 ≤ t ∧ t < 4294967296 := by omega
      obtain ⟨htb1, htb2⟩ := htb
      obtain ⟨td, htd⟩ : ∃ td : Nat, (t / 4294967296) = -(td : Int) := ⟨(-(t / 4294967296)).toNat, by omega⟩
      obtain ⟨tm, htm⟩ : ∃ tm : Nat, (t % 4294967296) = (tm : Int) := ⟨(t % 4294967296).toNat, by omega⟩
      have R := step_sub (xs := xs) (ys := ys) (ys0 := List.replicate n 0) HOL.out hok HV.out HBK.out HK.out et htd htm (by simp; omega) hq hlim hlim2
      have HR := Lib.hid R
      clear R et hblk hkeep hol hv
      go_wp2_with (go_at_call 74; refine (limbAt_any _ ys _ _ HSr.out (by omega)).mono ?_; rintro e w' ⟨rfl, rfl⟩; rw [Int.toNat_natCast])
      obtain ⟨r1, r2, r3, r4, r5, r6⟩ := HR.out
      exact ⟨⟨k + 1, td, os ++ [tm], by omega, by go_num, rfl, r1, r2, r3, r4, r5, r6⟩, by simp [intOf]; omega⟩
    · obtain rfl : k = n := by omega
      have hval := end_sub HOL.out hok HV.out HLX.out (by have := HLY.out; omega) HLE.out
      rw [splice_zeros_all HOL.out] at hblk
      have hsl := Sl.of_blk hblk
      rw [HOL.out] at hsl
      have hr3 := (HK.out.block (w.heap.size + 1 + 1) (by omega) (by omega)).trans HRX.out
      have hb3 := HBX.out.trans (HK.out.below (B := w.heap.size) (by omega) (fun k e => by omega))
      have hlen2 : os.length ≤ 1000000000000 := by rw [HOL.out]; omega
      have HV2 := Lib.hid hval
      have HSL := Lib.hid hsl
      have HR3 := Lib.hid hr3
      have HB5 := Lib.hid hb3
      clear hval hsl hr3 hb3 hblk hkeep hol hv
      go_wp2_with fail
      refine (wrap_any _ _ _ HSL.out hok hlen2).mono ?_
      rintro e w2 ⟨v', rfl, hn2, hb2⟩
      obtain ⟨ad2, len2, cap2, rfl, hr2⟩ := hn2.shape
      have hk2 := (hb2.block (w.heap.size + 1 + 1) (by have := HSL.out.lt rfl; omega)).trans HR3.out
      have hc := cell_of hk2 0
      have hf := free_of hk2 0
      simp only [List.getElem?_toArray, List.getElem?_cons_zero] at hc
      have HR := Lib.hid (fin_nat (bel_on HB5.out hb2) hk2 (by decide) hr2 (by omega) 0)
      clear hr2 hb2 hk2 hn2
      go_wp2
      refine bodyPost_ret (v := .tuple #[.agg #[.slice ad2 len2 cap2], .bool true]) (by simp [results, Tryd.results79, go_sem, World.cell?_setCell_same _ _ _ hc]) rfl ⟨_, rfl, ?_⟩
      have := HR.out
      rw [HV2.out] at this
      exact this

end Go.Proofs.YtpchnejdbmoicaaDoor
