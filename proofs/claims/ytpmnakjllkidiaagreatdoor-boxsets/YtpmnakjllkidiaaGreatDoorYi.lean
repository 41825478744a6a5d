/- The contract of nat's Sub. -/
import Derived.Test.YtpmnakjllkidiaaGreatDoorYh
import Derived.Test.YtpmnakjllkidiaaGreatDoorYb
import Derived.Test.YtpmnakjllkidiaaGreatDoorYg
import Derived.Test.YtpmnakjllkidiaaGreatDoorYf
import Derived.Lib.ItoaNum
namespace Go.Proofs.YtpmnakjllkidiaaGreatDoor
open Go.RowKit Cin
theorem step_sub {t0 : TypeId} {w wr : World} {xs ys os ys0 : List Nat} {b k q td tm : Nat} {t : Int} (hol : os.length = k) (hok : Ok os) (hv : val (xs.take k) + pw k * q = val os + val (ys.take k))
    (hblk : Blk wr b t0 .u32 (splice ys0 0 os)) (hkeep : Keep (· = b) w wr) (et : t = -(q : Int) + ((lim xs k : Int) - (lim ys k : Int))) (etd : t / 4294967296 = -(td : Int)) (etm : t % 4294967296 = (tm : Int)) (hlt : k < ys0.length)
    (hq : q ≤ 1) (hx : lim xs k < 4294967296) (hy : lim ys k < 4294967296) :
    td ≤ 1 ∧ (os ++ [tm]).length = k + 1 ∧ Ok (os ++ [tm]) ∧ val (xs.take (k + 1)) + pw (k + 1) * td = val (os ++ [tm]) + val (ys.take (k + 1)) ∧
      Blk (wr.setCell ⟨b, k, none⟩ (.int .u32 (tm : Nat))) b t0 .u32 (splice ys0 0 (os ++ [tm])) ∧ Keep (· = b) w (wr.setCell ⟨b, k, none⟩ (.int .u32 (tm : Nat))) := by
  have htm : tm < 4294967296 := by omega
  refine ⟨by omega, by rw [List.length_append, hol]; rfl, hok.append (Ok.cons htm Ok.nil), ?_, ?_, hkeep.setCell rfl _⟩
  · rw [val_snoc, hol, val_take_step xs, val_take_step ys, pw_succ]
    have e1 : lim xs k + 4294967296 * td = tm + lim ys k + q := by omega
    have e2 : pw k * lim xs k + 4294967296 * pw k * td = pw k * tm + pw k * lim ys k + pw k * q := by
      have := congrArg (pw k * ·) e1
      simp only [Nat.mul_add] at this
      rw [← this, Nat.mul_comm 4294967296 (pw k), Nat.mul_assoc]
    omega
  · have := hblk.set (0 + k) tm
    rw [← hol, splice_set (by omega), hol, Nat.zero_add] at this
    exact this
theorem end_sub {xs ys os : List Nat} {n q : Nat} (hol : os.length = n) (hok : Ok os) (hv : val (xs.take n) + pw n * q = val os + val (ys.take n)) (hx : xs.length = n) (hy : ys.length ≤ n) (hle : val ys ≤ val xs) : val os = val xs - val ys := by
  rw [List.take_of_length_le (by omega), List.take_of_length_le hy] at hv
  have h1 := val_lt hok
  rw [hol] at h1
  rcases Nat.eq_zero_or_pos q with h0 | h0
  · subst h0; omega
  · have : pw n * 1 ≤ pw n * q := Nat.mul_le_mul_left _ h0
    omega
set_option maxRecDepth 100000 in
set_option maxHeartbeats 2000000 in
theorem sub_less (v u : Value) (x y : Nat) (L : Nat) (w : World) (h : NatV 161 w v x) (h' : NatV 161 w u y) (hx : x < pw L) (hy : y < pw L) (hL : L ≤ 100000000) (hlt : x < y) :
    Calls Tryz.prog 213 #[v, u] w fun e w' => e = .returned (.tuple #[.agg #[.slice none 0 0], .bool false]) ∧ Below w.heap.size w w' := by
  have hn := h
  have hn' := h'
  obtain ⟨ad, n, cap, rfl, _⟩ := h.shape
  obtain ⟨ad', m, cap', rfl, _⟩ := h'.shape
  have HN := Lib.hid hn
  have HN' := Lib.hid hn'
  have HX := Lib.hid hx
  have HY := Lib.hid hy
  have HC := Lib.hid (show cmpI x y = -1 by unfold cmpI; rw [if_pos hlt])
  clear h h' hn hn' hx hy hlt
  go_enter Tryz.func213, Tryz.ntmps213
  go_wp2_with fail
  refine (cmp_any _ _ x y L _ (HN.out.below (bel_alloc3 _ _ _ _)) (HN'.out.below (bel_alloc3 _ _ _ _)) HX.out HY.out hL).mono ?_
  rintro e w1 ⟨rfl, hb⟩
  rw [HC.out]
  have hk := (hb.block (w.heap.size + 1 + 1) (by simp)).trans (nb32 _ _ _ _)
  have hc := cell_of hk 0
  have hf := free_of hk 0
  simp only [List.getElem?_toArray, List.getElem?_cons_zero] at hc
  have HB := Lib.hid ((bel_on (bel_alloc3 _ _ _ _) hb).setCell (p := ⟨w.heap.size + 1 + 1, 0, none⟩) (by show w.heap.size ≤ w.heap.size + 1 + 1; omega) (.slice none 0 0))
  clear hb hk
  go_wp2
  refine bodyPost_ret (v := .tuple #[.agg #[.slice none 0 0], .bool false]) (by simp [results, Tryz.results213, go_sem, World.cell?_setCell_same _ _ _ hc]) rfl ⟨rfl, HB.out⟩
set_option maxRecDepth 100000 in
set_option maxHeartbeats 2000000 in
theorem sub_any (v u : Value) (x y : Nat) (L : Nat) (w : World) (h : NatV 161 w v x) (h' : NatV 161 w u y) (hx : x < pw L) (hy : y < pw L) (hL : L ≤ 100000000) (hle : y ≤ x) :
    Calls Tryz.prog 213 #[v, u] w fun e w' => ∃ v', e = .returned (.tuple #[v', .bool true]) ∧ NatV 161 w' v' (x - y) ∧ Below w.heap.size w w' := by
  have hn := h
  have hn' := h'
  obtain ⟨ad, n, cap, rfl, xs, hs, ho, hnm, rfl⟩ := h.shape
  obtain ⟨ad', m, cap', rfl, ys, hs', ho', hnm', rfl⟩ := h'.shape
  obtain ⟨i0, hi0, hz0, hz1, hz2⟩ := info_parts info_u32
  have hlx := hs.len
  have hly := hs'.len
  have hmn : m ≤ n := by have := len_of_val_le hnm' ho hle; omega
  have hl : n ≤ 100000000 := by have := norm_len hnm hx; omega
  have HN := Lib.hid hn
  have HN' := Lib.hid hn'
  have HX := Lib.hid hx
  have HY := Lib.hid hy
  have HLE := Lib.hid hle
  have HC := Lib.hid (show cmpI (val xs) (val ys) = 0 ∨ cmpI (val xs) (val ys) = 1 by unfold cmpI; rw [if_neg (by omega)]; split; exact .inr rfl; exact .inl rfl)
  have H := Lib.hid hs
  have H' := Lib.hid hs'
  have HLX := Lib.hid hlx
  have HLY := Lib.hid hly
  clear hx hy h h' hn hn' hs hs' hlx hly hnm hnm' hle
  go_enter Tryz.func213, Tryz.ntmps213
  go_wp2_with fail
  refine (cmp_any _ _ (val xs) (val ys) L _ (HN.out.below (bel_alloc3 _ _ _ _)) (HN'.out.below (bel_alloc3 _ _ _ _)) HX.out HY.out hL).mono ?_
  rintro e w1 ⟨rfl, hb⟩
  obtain ⟨c, hc0, hcc⟩ : ∃ c : Int, 0 ≤ c ∧ cmpI (val xs) (val ys) = c := by rcases HC.out with e | e <;> exact ⟨_, by rw [e]; decide, rfl⟩
  rw [hcc]
  have hr1 := (hb.block (w.heap.size + 1 + 1) (by simp)).trans (nb32 _ _ _ _)
  have hra := (hb.block (w.heap.size) (by simp; omega)).trans (new_block3 _ _ _ _)
  have hrb := (hb.block (w.heap.size + 1) (by simp)).trans (nb31 _ _ _ _)
  have hbw := bel_on (bel_alloc3 _ _ _ _) hb
  have hsz : w.heap.size + 1 + 1 + 1 ≤ w1.heap.size := by have := hb.size; simpa using this
  have hca := cell_of hra 0
  simp only [List.getElem?_toArray, List.getElem?_cons_zero] at hca
  have hca2 : (w1.alloc (Obj.cells (ints IntKind.u32 (List.replicate n 0)) 161)).cell? ⟨w.heap.size, 0, none⟩ = some (.slice ad n cap) := by rw [(bel_alloc w1 _).cell (by show w.heap.size < _; omega)]; exact hca
  have hcd : decide (c < 0) = false := by rw [decide_eq_false_iff_not]; omega
  have HCC := Lib.hid hcc
  have HR1 := Lib.hid hr1
  have HRB := Lib.hid hrb
  have HBW := Lib.hid hbw
  clear hcc hr1 hra hrb hbw hb
  go_wp2_with (at_make; refine wpList_make_ints _ rfl _ _ 37 rfl 161 i0 .u32 Tryz.underlying37 hi0 hz0 hz1 .i64 .i64 _ _ n n rfl rfl (by omega) (by omega) (Nat.le_refl _) (by rw [hz2]; omega) (by omega) ?_)
  have hbX := bel_on HBW.out (bel_alloc w1 (Obj.cells (ints IntKind.u32 (List.replicate n 0)) 161))
  have hrX := ((bel_alloc w1 (Obj.cells (ints IntKind.u32 (List.replicate n 0)) 161)).block (w.heap.size + 1 + 1) (by omega)).trans HR1.out
  have hbbX := ((bel_alloc w1 (Obj.cells (ints IntKind.u32 (List.replicate n 0)) 161)).block (w.heap.size + 1) (by omega)).trans HRB.out
  have hkX : Blk (w1.alloc (Obj.cells (ints IntKind.u32 (List.replicate n 0)) 161)) w1.heap.size 161 .u32 (List.replicate n 0) := Blk.new _ _ _ _
  have HD := Lib.hid (show ∀ b' o' n' c', Value.slice ad n cap = .slice (some ⟨b', o', none⟩) n' c' → ¬ (b' = w1.heap.size) from fun b' o' n' c' e => by have := H.out.lt e; omega)
  have HD' := Lib.hid (show ∀ b' o' n' c', Value.slice ad' m cap' = .slice (some ⟨b', o', none⟩) n' c' → ¬ (b' = w1.heap.size) from fun b' o' n' c' e => by have := H'.out.lt e; omega)
  generalize w1.alloc (Obj.cells (ints IntKind.u32 (List.replicate n 0)) 161) = X at *
  have hszX := hkX.lt
  generalize w1.heap.size = B at *
  have HL := Lib.hid (H.out.below hbX)
  have HS := Lib.hid (H'.out.below hbX)
  have HBX := Lib.hid hbX
  have HRX := Lib.hid hrX
  have HBBX := Lib.hid hbbX
  have HKX := Lib.hid hkX
  clear hbX hrX hbbX hkX H H' HR1 HRB HBW hca hca2
  go_loopw [7, 8, 9, 22] (fun c _ _ i wr => ∃ (k q : Nat) (os : List Nat), k ≤ n ∧ i = .int .i64 k ∧ c = .int .i64 (-(q : Int)) ∧ q ≤ 1 ∧ os.length = k ∧ Ok os ∧ val (xs.take k) + pw k * q = val os + val (ys.take k) ∧
      Blk wr B 161 .u32 (splice (List.replicate n 0) 0 os) ∧ Keep (· = B) X wr) (fun _ _ _ i _ => n - (intOf i).toNat)
  case atStart => exact ⟨0, 0, [], Nat.zero_le _, rfl, rfl, by omega, rfl, Ok.nil, rfl, by rw [splice_nil]; exact HKX.out, Keep.refl _ _⟩
  case round =>
    obtain ⟨k, q, os, hk, rfl, rfl, hq, hol, hok, hv, hblk, hkeep⟩ := hrel
    have HOL := Lib.hid hol
    have HV := Lib.hid hv
    have HBK := Lib.hid hblk
    have HK := Lib.hid hkeep
    have hcb := cell_of ((hkeep.block (w.heap.size + 1) (by omega) (by omega)).trans HBBX.out) 0
    simp only [List.getElem?_toArray, List.getElem?_cons_zero] at hcb
    by_cases hlt : k < n
    · have hcell2 := hblk.cell (i := k) (by rw [splice_length (by simp; omega)]; simp; omega)
      have hf := hblk.free k
      obtain ⟨bx, offx, rfl, hcell, hblt⟩ := (HL.out.keep HK.out HD.out).cell (i := k) (by have := HLX.out; omega)
      have HSr := Lib.hid (HS.out.keep HK.out HD'.out)
      have hlim : lim xs k < 4294967296 := lim_lt ho _
      have hlim2 : lim ys k < 4294967296 := lim_lt ho' _
      obtain ⟨t, ht, et⟩ : ∃ t : Int, -(q : Int) + (((lim xs k : Nat) : Int) - ((lim ys k : Nat) : Int)) = t ∧ t = -(q : Int) + (((lim xs k : Nat) : Int) - ((lim ys k : Nat) : Int)) := ⟨_, rfl, rfl⟩
      have htb : -4294967296 ≤ t ∧ t < 4294967296 := by omega
      obtain ⟨htb1, htb2⟩ := htb
      obtain ⟨td, htd⟩ : ∃ td : Nat, (t / 4294967296) = -(td : Int) := ⟨(-(t / 4294967296)).toNat, by omega⟩
      obtain ⟨tm, htm⟩ : ∃ tm : Nat, (t % 4294967296) = (tm : Int) := ⟨(t % 4294967296).toNat, by omega⟩
      have R := step_sub (xs := xs) (ys := ys) (ys0 := List.replicate n 0) HOL.out hok HV.out HBK.out HK.out et htd htm (by simp; omega) hq hlim hlim2
      have HR := Lib.hid R
      clear R et hblk hkeep hol hv
      go_wp2_with (go_at_call 195; refine (limbAt_any _ ys _ _ HSr.out (by omega)).mono ?_; rintro e w' ⟨rfl, rfl⟩; rw [Int.toNat_natCast])
      obtain ⟨r1, r2, r3, r4, r5, r6⟩ := HR.out
      exact ⟨⟨k + 1, td, os ++ [tm], by omega, by go_num, rfl, r1, r2, r3, r4, r5, r6⟩, by simp [intOf]; omega⟩
    · obtain rfl : k = n := by omega
      have hval := end_sub HOL.out hok HV.out HLX.out (by have := HLY.out; omega) HLE.out
      rw [splice_zeros_all HOL.out] at hblk
      have hsl := Sl.of_blk hblk
      rw [HOL.out] at hsl
      have hr3 := (HK.out.block (w.heap.size + 1 + 1) (by omega) (by omega)).trans HRX.out
      have hb3 := HBX.out.trans (HK.out.below (B := w.heap.size) (by omega) (fun k e => by omega))
      have hlen2 : os.length ≤ 1000000000000 := by rw [HOL.out]; omega
      have HV2 := Lib.hid hval
      have HSL := Lib.hid hsl
      have HR3 := Lib.hid hr3
      have HB5 := Lib.hid hb3
      clear hval hsl hr3 hb3 hblk hkeep hol hv
      go_wp2_with fail
      refine (wrap_any _ _ _ HSL.out hok hlen2).mono ?_
      rintro e w2 ⟨v', rfl, hn2, hb2⟩
      obtain ⟨ad2, len2, cap2, rfl, hr2⟩ := hn2.shape
      have hk2 := (hb2.block (w.heap.size + 1 + 1) (by have := HSL.out.lt rfl; omega)).trans HR3.out
      have hc := cell_of hk2 0
      have hf := free_of hk2 0
      simp only [List.getElem?_toArray, List.getElem?_cons_zero] at hc
      have HR := Lib.hid (fin_nat (bel_on HB5.out hb2) hk2 (by decide) hr2 (by omega) 0)
      clear hr2 hb2 hk2 hn2
      go_wp2
      refine bodyPost_ret (v := .tuple #[.agg #[.slice ad2 len2 cap2], .bool true]) (by simp [results, Tryz.results213, go_sem, World.cell?_setCell_same _ _ _ hc]) rfl ⟨_, rfl, ?_⟩
      have := HR.out
      rw [HV2.out] at this
      exact this
end Go.Proofs.YtpmnakjllkidiaaGreatDoor

namespace Go.Proofs.YtpmnakjllkidiaaGreatDoor
open Go.RowKit Cin
set_option maxHeartbeats 400000 in
theorem isZero_any (v : Value) (n k : Nat) (w : World) (h : NatB 161 w v n k) (hk : k ≤ 10000000) :
    Calls Tryz.prog 106 #[v] w fun e w' => e = .returned (.bool (decide (n = 0))) ∧ Below w.heap.size w w' := by
  obtain ⟨ad, len, cap, rfl, hr⟩ := h.shape
  have H := Lib.hid h
  clear h hr
  go_enter Tryz.func106, Tryz.ntmps106
  go_wp2_with fail
  refine (bits_any _ n k _ (H.out.1.below (bel_alloc _ _)) H.out.2 (by omega)).mono ?_
  rintro e w1 ⟨j, rfl, hj, hb⟩
  have he : ((j : Int) == 0) = decide (n = 0) := by
    by_cases h0 : n = 0
    · subst h0
      rw [hj.unique IsBl.zero]; rfl
    · rw [decide_eq_false h0, beq_eq_false_iff_ne]
      intro e
      have := hj.1
      rw [show j = 0 by omega] at this
      omega
  have HB := Lib.hid (bel_on (bel_alloc _ _) hb)
  clear hb hj
  go_wp2
  go_ret
  exact ⟨rfl, HB.out⟩
theorem addB (v u : Value) (x y a b : Nat) (w : World) (h : NatB 161 w v x a) (h' : NatB 161 w u y b) (ha : a ≤ 10000000) (hb : b ≤ 10000000) :
    Calls Tryz.prog 185 #[v, u] w fun e w' => ∃ v', e = .returned v' ∧ NatB 161 w' v' (x + y) (a + b + 1) ∧ Below w.heap.size w w' :=
  (add_any v u x y (a + b) w h.1 h'.1 (lt_pw_mono h.2 (by omega)) (lt_pw_mono h'.2 (by omega)) (by omega)).mono fun _ _ ⟨v', e, hn, hw⟩ => ⟨v', e, ⟨hn, by have := pw_big a b; have := h.2; have := h'.2; omega⟩, hw⟩
theorem mulB (v u : Value) (x y a b : Nat) (w : World) (h : NatB 161 w v x a) (h' : NatB 161 w u y b) (ha : a ≤ 10000000) (hb : b ≤ 10000000) :
    Calls Tryz.prog 131 #[v, u] w fun e w' => ∃ v', e = .returned v' ∧ NatB 161 w' v' (x * y) (a + b) ∧ Below w.heap.size w w' :=
  (mul_any v u x y (a + b) w h.1 h'.1 (lt_pw_mono h.2 (by omega)) (lt_pw_mono h'.2 (by omega)) (by omega)).mono fun _ _ ⟨v', e, hn, hw⟩ => ⟨v', e, ⟨hn, lt_pw_mul h.2 h'.2⟩, hw⟩
theorem subB (v u : Value) (x y a b : Nat) (w : World) (h : NatB 161 w v x a) (h' : NatB 161 w u y b) (ha : a ≤ 10000000) (hb : b ≤ 10000000) (hle : y ≤ x) :
    Calls Tryz.prog 213 #[v, u] w fun e w' => ∃ v', e = .returned (.tuple #[v', .bool true]) ∧ NatB 161 w' v' (x - y) a ∧ Below w.heap.size w w' :=
  (sub_any v u x y (a + b) w h.1 h'.1 (lt_pw_mono h.2 (by omega)) (lt_pw_mono h'.2 (by omega)) (by omega) hle).mono fun _ _ ⟨v', e, hn, hw⟩ => ⟨v', e, ⟨hn, by have := h.2; omega⟩, hw⟩
theorem subLessB (v u : Value) (x y a b : Nat) (w : World) (h : NatB 161 w v x a) (h' : NatB 161 w u y b) (ha : a ≤ 10000000) (hb : b ≤ 10000000) (hlt : x < y) :
    Calls Tryz.prog 213 #[v, u] w fun e w' => e = .returned (.tuple #[.agg #[.slice none 0 0], .bool false]) ∧ Below w.heap.size w w' :=
  sub_less v u x y (a + b) w h.1 h'.1 (lt_pw_mono h.2 (by omega)) (lt_pw_mono h'.2 (by omega)) (by omega) hlt
theorem cmpB (v u : Value) (x y a b : Nat) (w : World) (h : NatB 161 w v x a) (h' : NatB 161 w u y b) (ha : a ≤ 10000000) (hb : b ≤ 10000000) :
    Calls Tryz.prog 108 #[v, u] w fun e w' => e = .returned (.int .i64 (cmpI x y)) ∧ Below w.heap.size w w' :=
  cmp_any v u x y (a + b) w h.1 h'.1 (lt_pw_mono h.2 (by omega)) (lt_pw_mono h'.2 (by omega)) (by omega)
theorem ofB (v : Nat) (w : World) (hv : v < 18446744073709551616) :
    Calls Tryz.prog 109 #[.int .u64 v] w fun e w' => ∃ v', e = .returned v' ∧ NatB 161 w' v' v 2 ∧ Below w.heap.size w w' :=
  (of_any v w hv).mono fun _ _ ⟨v', e, hn, hw⟩ => ⟨v', e, ⟨hn, hv⟩, hw⟩
set_option maxHeartbeats 400000 in
theorem fresh_any (v : Value) (n k : Nat) (w : World) (h : NatB 161 w v n k) (hk : k ≤ 10000000) :
    Calls Tryz.prog 144 #[v] w fun e w' => ∃ v', e = .returned v' ∧ NatB 161 w' v' n k ∧ Below w.heap.size w w' := by
  obtain ⟨ad, len, cap, rfl, hr⟩ := h.shape
  have H := Lib.hid h
  clear h hr
  go_enter Tryz.func144, Tryz.ntmps144
  go_wp2_with fail
  refine (addB _ _ n 0 k 0 _ (H.out.below (bel_alloc2 _ _ _)) ⟨NatV.zero _ _, by decide⟩ hk (by decide)).mono ?_
  rintro e w1 ⟨v1, rfl, hn, hb⟩
  obtain ⟨ad1, len1, cap1, rfl, hr⟩ := hn.shape
  have hh := (heldN2 (w := w)).below hb
  have hc := cell0 hh.2.1
  have hf := free_of hh.2.1 0
  have HR := Lib.hid (fin_nat (tn := 39) (bel_on (bel_alloc2 _ _ _) hb) hh.2.1 (by decide) hr (by omega) 0)
  clear hb hn hr hh
  go_wp2
  refine bodyPost_ret (v := .agg #[.slice ad1 len1 cap1]) (by simp [results, Tryz.results144, go_sem, World.cell?_setCell_same _ _ _ hc]) rfl ⟨_, rfl, ?_⟩
  exact ⟨⟨HR.out.1, H.out.2⟩, HR.out.2⟩
set_option maxRecDepth 100000 in
set_option maxHeartbeats 800000 in
theorem signed_any (b : Bool) (v : Value) (n k : Nat) (w : World) (h : NatB 161 w v n k) (hk : k ≤ 10000000) :
    Calls Tryz.prog 107 #[.bool b, v] w fun e w' => ∃ v', e = .returned v' ∧ IntB 161 w' v' (sg b n) k ∧ Below w.heap.size w w' := by
  obtain ⟨ad, len, cap, rfl, hr⟩ := h.shape
  have H := Lib.hid h
  clear h hr
  go_enter Tryz.func107, Tryz.ntmps107
  go_wp2_with fail
  have hh := heldN2 (w := w) (c0 := #[Value.slice ad len cap]) (t0 := 39) (c1 := #[Value.bool false, Value.slice none 0 0]) (t1 := 41)
  have hbX := bel_alloc2 w (Obj.cells #[Value.slice ad len cap] 39) (Obj.cells #[Value.bool false, Value.slice none 0 0] 41)
  have hsX : w.heap.size + 1 < ((w.alloc (Obj.cells #[Value.slice ad len cap] 39)).alloc (Obj.cells #[Value.bool false, Value.slice none 0 0] 41)).heap.size := by simp
  generalize (w.alloc (Obj.cells #[Value.slice ad len cap] 39)).alloc (Obj.cells #[Value.bool false, Value.slice none 0 0] 41) = X at *
  have hc0 := cell0 hh.1
  have HSL := Lib.hid (Slot.of (n := 2) hh.2.1 rfl)
  have HX := Lib.hid (H.out.below hbX)
  have HBX := Lib.hid hbX
  clear hh hbX
  have HR0 := Lib.hid (show RefV 161 w (.slice ad len cap) n from by obtain ⟨s, e, hs⟩ := H.out.1; injection e with e; injection e with e; simp only [List.cons.injEq, and_true] at e; rw [e]; exact hs)
  cases b
  ·
    refine wp_region_sched (fun w' => w'.cell? ⟨w.heap.size, 0, none⟩ = some (.slice ad len cap) ∧ Slot w' (w.heap.size + 1) 41 2 ∧ Below w.heap.size w w') [(0, true), (1, true), (2, true), (6, true), (3, false), (4, true), (5, true), (7, true), (8, false)] (by kernel_rfl) (by kernel_rfl) ?_ (fun hHeld => ?_)
    · (try dsimp only)
      exact ⟨hc0, HSL.out.drew, HBX.out.drew⟩
    try dsimp only at hHeld
    repeat (refine wpSched_at (by simp only [List.getElem?_toArray, List.getElem?_cons_zero, List.getElem?_cons_succ]; rfl) ?_; (first | (apply wpAt_take rfl; (intro wx hSx; (try dsimp only at hSx); go_simp; (try with_reducible rfl)); simp only [Act.put, List.setIfInBounds_toArray, List.set_cons_zero, List.set_cons_succ]) | (refine wpAt_skip rfl ?_; simp only [Act.put, List.setIfInBounds_toArray, List.set_cons_zero, List.set_cons_succ]) | (refine wpAt_pass rfl hHeld ?_; simp only [Act.put, List.setIfInBounds_toArray, List.set_cons_zero, List.set_cons_succ]) | (refine wpAt_eff rfl (fun K hK => ?_); ((obtain ⟨x0, y0, hx0, hy0, hfx0, hfy0⟩ := hHeld.2.1.two); (try simp only [cell_drew, frozen_drew] at hx0 hy0 hfx0 hfy0)); go_simp; (first | (try simp only [cell_drew, slot_drew, below_drew] at hHeld)); (refine hK.out _ _ ?_ (fun hHeld => ?_)); ((try dsimp only); ((try simp only [cell_drew, slot_drew, below_drew]); refine ⟨?_, ?_, ?_⟩; (first | exact hS.2.1 | with_reducible exact cell_set hHeld.1 (by omega) | with_reducible exact cell_set (cell_set hHeld.1 (by omega)) (by omega)); (first | exact hS.2.2.1 | with_reducible exact hHeld.2.1.set _ _ _ | with_reducible exact (hHeld.2.1.set _ _ _).set _ _ _); (first | exact hS.2.2.2 | with_reducible exact bel_set1 hHeld.2.2 (by omega) | with_reducible exact bel_set2 hHeld.2.2 (by omega) (by omega)))); clear hK K; (try clear hS); (try clear hfx0 hx0 x0); (try clear hfy0 hy0 y0); (try clear hfx1 hx1 x1); (try clear hfy1 hy1 y1); (try dsimp only at hHeld))))
    refine wpSched_nil ?_
    go_wp2_with fail
    obtain ⟨hr0, hr1⟩ := HSL.out.set2 (.bool false) (.slice ad len cap)
    have hrf := ((HR0.out.below HBX.out).slot HSL.out (by decide) 0 (.bool false)).slot (HSL.out.set (w.heap.size + 1) 0 _) (by decide) 1 (.slice ad len cap)
    refine bodyPost_ret (v := .agg #[.bool false, .slice ad len cap]) (by simp [results, Tryz.results107, go_sem, hr0, hr1]) rfl ⟨_, rfl, intB_of hrf H.out.2 (by simp), hHeld.2.2⟩
  ·
    refine wp_region_sched (fun w' => w'.cell? ⟨w.heap.size, 0, none⟩ = some (.slice ad len cap) ∧ Slot w' (w.heap.size + 1) 41 2 ∧ Below w.heap.size w w') [(0, true), (1, true), (2, true), (6, true), (3, false), (4, true), (5, true), (7, true), (8, false)] (by kernel_rfl) (by kernel_rfl) ?_ (fun hHeld => ?_)
    · (try dsimp only)
      exact ⟨hc0, HSL.out.drew, HBX.out.drew⟩
    try dsimp only at hHeld
    repeat (refine wpSched_at (by simp only [List.getElem?_toArray, List.getElem?_cons_zero, List.getElem?_cons_succ]; rfl) ?_; (first | (apply wpAt_take rfl; (intro wx hSx; (try dsimp only at hSx); go_simp; (try with_reducible rfl)); simp only [Act.put, List.setIfInBounds_toArray, List.set_cons_zero, List.set_cons_succ]) | (refine wpAt_skip rfl ?_; simp only [Act.put, List.setIfInBounds_toArray, List.set_cons_zero, List.set_cons_succ]) | (refine wpAt_pass rfl hHeld ?_; simp only [Act.put, List.setIfInBounds_toArray, List.set_cons_zero, List.set_cons_succ]) | (refine wpAt_eff rfl (fun K hK => ?_); ((obtain ⟨x0, y0, hx0, hy0, hfx0, hfy0⟩ := hHeld.2.1.two); (try simp only [cell_drew, frozen_drew] at hx0 hy0 hfx0 hfy0)); go_simp; (first | (go_at_call 106; (with_reducible refine (isZero_any (.agg #[.slice ad len cap]) n k _ ?_ hk).mono ?_); (exact H.out.below hHeld.2.2); rintro e w' ⟨rfl, hb⟩; have hS := And.intro trivial (And.intro (cell_below hHeld.1 hb) (And.intro (hHeld.2.1.below hb) (bel_on hHeld.2.2 hb))); clear hb hHeld) | (try simp only [cell_drew, slot_drew, below_drew] at hHeld)); (refine hK.out _ _ ?_ (fun hHeld => ?_)); ((try dsimp only); ((try simp only [cell_drew, slot_drew, below_drew]); refine ⟨?_, ?_, ?_⟩; (first | exact hS.2.1 | with_reducible exact cell_set hHeld.1 (by omega) | with_reducible exact cell_set (cell_set hHeld.1 (by omega)) (by omega)); (first | exact hS.2.2.1 | with_reducible exact hHeld.2.1.set _ _ _ | with_reducible exact (hHeld.2.1.set _ _ _).set _ _ _); (first | exact hS.2.2.2 | with_reducible exact bel_set1 hHeld.2.2 (by omega) | with_reducible exact bel_set2 hHeld.2.2 (by omega) (by omega)))); clear hK K; (try clear hS); (try clear hfx0 hx0 x0); (try clear hfy0 hy0 y0); (try clear hfx1 hx1 x1); (try clear hfy1 hy1 y1); (try dsimp only at hHeld))))
    refine wpSched_nil ?_
    rename_i hOld
    go_wp2_with fail
    obtain ⟨hr0, hr1⟩ := hOld.2.1.set2 (.bool (!decide (n = 0))) (.slice ad len cap)
    have hrf := ((HR0.out.below hOld.2.2).slot hOld.2.1 (by decide) 0 (.bool (!decide (n = 0)))).slot (hOld.2.1.set (w.heap.size + 1) 0 _) (by decide) 1 (.slice ad len cap)
    refine bodyPost_ret (v := .agg #[.bool (!decide (n = 0)), .slice ad len cap]) (by simp [results, Tryz.results107, go_sem, hr0, hr1]) rfl ⟨_, rfl, intB_of hrf H.out.2 (by simp), hHeld.2.2⟩
end Go.Proofs.YtpmnakjllkidiaaGreatDoor

namespace Go.Proofs.YtpmnakjllkidiaaGreatDoor
open Go.RowKit Cin
set_option maxHeartbeats 800000 in
theorem from_any (b : Bool) (v : Value) (n k : Nat) (w : World) (h : NatB 161 w v n k) (hk : k ≤ 10000000) :
    Calls Tryz.prog 110 #[.bool b, v] w fun e w' => ∃ v', e = .returned v' ∧ IntB 161 w' v' (sg b n) k ∧ Below w.heap.size w w' := by
  obtain ⟨ad, len, cap, rfl, hr⟩ := h.shape
  have H := Lib.hid h
  clear h hr
  go_enter Tryz.func110, Tryz.ntmps110
  go_wp2_with fail
  refine (fresh_any _ n k _ (H.out.below (bel_alloc2 _ _ _)) hk).mono ?_
  rintro e w1 ⟨v1, rfl, hn1, hb1⟩
  have HN1 := Lib.hid hn1
  have HB1 := Lib.hid hb1
  clear hn1 hb1
  go_wp2_with fail
  refine (signed_any b v1 n k _ HN1.out hk).mono ?_
  rintro e w2 ⟨v2, rfl, hn2, hb2⟩
  obtain ⟨bbR, adR, lenR, capR, rfl, hrR⟩ := hn2.shape2
  have hslR := (Slot.of (n := 2) (((heldN2 (w := w)).below HB1.out).below hb2).2.1 rfl)
  obtain ⟨xR, yR, hxR, hyR, hfxR, hfyR⟩ := hslR.two
  have HRR := Lib.hid (fin_int hn2 hslR (by decide) (bel_on (bel_on (bel_alloc2 _ _ _) HB1.out) hb2) (by omega))
  clear hrR hslR hn2 hb2
  go_wp2
  refine bodyPost_ret (v := .agg #[.bool bbR, .slice adR lenR capR]) (by simp [results, Tryz.results110, go_sem, HRR.out.2.2.1, HRR.out.2.2.2]) rfl (⟨_, rfl, HRR.out.1, HRR.out.2.1⟩)
set_option maxHeartbeats 800000 in
theorem abs_any (v : Value) (z : Int) (k : Nat) (w : World) (h : IntB 161 w v z k) (hk : k ≤ 10000000) :
    Calls Tryz.prog 112 #[v] w fun e w' => ∃ v', e = .returned v' ∧ NatB 161 w' v' z.natAbs k ∧ Below w.heap.size w w' := by
  obtain ⟨ad, len, cap, rfl, hr⟩ := h.shape
  have H := Lib.hid h.part.1
  clear h hr
  go_enter Tryz.func112, Tryz.ntmps112
  go_wp2_with fail
  refine (fresh_any _ z.natAbs k _ (H.out.below (bel_alloc2 _ _ _)) hk).mono ?_
  rintro e w1 ⟨v1, rfl, hn1, hb1⟩
  obtain ⟨ad1, len1, cap1, rfl, hr⟩ := hn1.shape
  have hh := (heldN2 (w := w)).below hb1
  have hc := cell0 hh.2.1
  have hf := free_of hh.2.1 0
  have HR := Lib.hid (fin_nat (tn := 39) (bel_on (bel_alloc2 _ _ _) hb1) hh.2.1 (by decide) hr (by omega) 0)
  clear hb1 hn1 hr hh
  go_wp2
  refine bodyPost_ret (v := .agg #[.slice ad1 len1 cap1]) (by simp [results, Tryz.results112, go_sem, World.cell?_setCell_same _ _ _ hc]) rfl ⟨_, rfl, ?_⟩
  exact ⟨⟨HR.out.1, H.out.2⟩, HR.out.2⟩
set_option maxHeartbeats 800000 in
theorem sign_any (v : Value) (z : Int) (k : Nat) (w : World) (h : IntB 161 w v z k) (hk : k ≤ 10000000) :
    Calls Tryz.prog 132 #[v] w fun e w' => e = .returned (.int .i64 (sgnZ z)) ∧ Below w.heap.size w w' := by
  obtain ⟨ad, len, cap, rfl, hr⟩ := h.shape
  have H := Lib.hid h.part.1
  clear h hr
  by_cases hz : z < 0
  · have hd : decide (z < 0) = true := decide_eq_true hz
    rw [hd, show sgnZ z = -1 by unfold sgnZ; rw [if_pos hz]]
    clear hd
    go_enter Tryz.func132, Tryz.ntmps132
    go_wp2_with fail
    go_ret
    exact ⟨rfl, bel_alloc _ _⟩
  · have hd : decide (z < 0) = false := decide_eq_false hz
    rw [hd]
    clear hd
    go_enter Tryz.func132, Tryz.ntmps132
    go_wp2_with fail
    refine (isZero_any _ z.natAbs k _ (H.out.below (bel_alloc _ _)) hk).mono ?_
    rintro e w1 ⟨rfl, hb⟩
    have HB := Lib.hid (bel_on (bel_alloc _ _) hb)
    clear hb
    by_cases h0 : z = 0
    · have hd : decide (z.natAbs = 0) = true := decide_eq_true (by omega)
      rw [hd]
      clear hd
      go_wp2_with fail
      go_ret
      exact ⟨ret_int (by unfold sgnZ; rw [if_neg (by omega), if_neg (by omega)]), HB.out⟩
    · have hd : decide (z.natAbs = 0) = false := decide_eq_false (by omega)
      rw [hd]
      clear hd
      go_wp2_with fail
      go_ret
      exact ⟨ret_int (by unfold sgnZ; rw [if_neg (by omega), if_pos (by omega)]), HB.out⟩
theorem sg_not (z : Int) : sg (!decide (z < 0)) z.natAbs = -z := by unfold sg; by_cases h : z < 0 <;> simp [h] <;> omega
set_option maxRecDepth 100000 in
set_option maxHeartbeats 800000 in
theorem neg_any (v : Value) (z : Int) (k : Nat) (w : World) (h : IntB 161 w v z k) (hk : k ≤ 10000000) :
    Calls Tryz.prog 133 #[v] w fun e w' => ∃ v', e = .returned v' ∧ IntB 161 w' v' (-z) k ∧ Below w.heap.size w w' := by
  obtain ⟨ad, len, cap, rfl, hr⟩ := h.shape
  have H := Lib.hid h.part.1
  clear h hr
  generalize hbz : decide (z < 0) = bz
  have HSG := Lib.hid (show sg (!bz) z.natAbs = -z by rw [← hbz]; exact sg_not z)
  clear hbz
  go_enter Tryz.func133, Tryz.ntmps133
  go_wp2_with fail
  have hh := heldN2 (w := w) (c0 := #[Value.bool bz, Value.slice ad len cap]) (t0 := 41) (c1 := #[Value.bool false, Value.slice none 0 0]) (t1 := 41)
  have hbX := bel_alloc2 w (Obj.cells #[Value.bool bz, Value.slice ad len cap] 41) (Obj.cells #[Value.bool false, Value.slice none 0 0] 41)
  generalize (w.alloc (Obj.cells #[Value.bool bz, Value.slice ad len cap] 41)).alloc (Obj.cells #[Value.bool false, Value.slice none 0 0] 41) = X at *
  have hc0 := cell0 hh.1
  have hc1 := cell1 hh.1
  have HSL := Lib.hid (Slot.of (n := 2) hh.2.1 rfl)
  have HBX := Lib.hid hbX
  clear hh hbX
  refine wp_region_sched (fun w' => w'.cell? ⟨w.heap.size, 0, none⟩ = some (.bool bz) ∧ w'.cell? ⟨w.heap.size, 1, none⟩ = some (.slice ad len cap) ∧ Slot w' (w.heap.size + 1) 41 2 ∧ Below w.heap.size w w') [(0, true), (1, true), (2, true), (3, true), (4, true), (5, false), (6, false), (7, false)] (by kernel_rfl) (by kernel_rfl) ?_ (fun hHeld => ?_)
  · (try dsimp only)
    exact ⟨hc0, hc1, HSL.out.drew, HBX.out.drew⟩
  try dsimp only at hHeld
  repeat (refine wpSched_at (by simp only [List.getElem?_toArray, List.getElem?_cons_zero, List.getElem?_cons_succ]; rfl) ?_; (first | (apply wpAt_take rfl; (intro wx hSx; (try dsimp only at hSx); go_simp; (try with_reducible rfl)); simp only [Act.put, List.setIfInBounds_toArray, List.set_cons_zero, List.set_cons_succ]) | (refine wpAt_skip rfl ?_; simp only [Act.put, List.setIfInBounds_toArray, List.set_cons_zero, List.set_cons_succ]) | (refine wpAt_pass rfl hHeld ?_; simp only [Act.put, List.setIfInBounds_toArray, List.set_cons_zero, List.set_cons_succ]) | (refine wpAt_eff rfl (fun K hK => ?_); ((obtain ⟨x0, y0, hx0, hy0, hfx0, hfy0⟩ := hHeld.2.2.1.two); (try simp only [cell_drew, frozen_drew] at hx0 hy0 hfx0 hfy0)); go_simp; (first | (go_at_call 144; (with_reducible refine (fresh_any (.agg #[.slice ad len cap]) z.natAbs k _ ?_ hk).mono ?_); (exact H.out.below hHeld.2.2.2); rintro e w' ⟨vf, rfl, hn, hb⟩; (try replace NF := Lib.hid (NF.out.below hb)); have NF := Lib.hid hn; have hS := And.intro trivial (And.intro (cell_below hHeld.1 hb) (And.intro (cell_below hHeld.2.1 hb) (And.intro (hHeld.2.2.1.below hb) (bel_on hHeld.2.2.2 hb)))); clear hb hHeld hn) | (go_at_call 107; (with_reducible refine (signed_any (!bz) vf z.natAbs k _ ?_ hk).mono ?_); (exact NF.out); rintro e w' ⟨vs, rfl, hn, hb⟩; (try replace NF := Lib.hid (NF.out.below hb)); have NS := Lib.hid hn; (rw [HSG.out] at NS); obtain ⟨bbR, adR, lenR, capR, rfl, hrR⟩ := NS.out.shape2; have hS := And.intro trivial (And.intro (cell_below hHeld.1 hb) (And.intro (cell_below hHeld.2.1 hb) (And.intro (hHeld.2.2.1.below hb) (bel_on hHeld.2.2.2 hb)))); clear hb hHeld hn) | (try simp only [cell_drew, slot_drew, below_drew] at hHeld)); (refine hK.out _ _ ?_ (fun hHeld => ?_)); ((try dsimp only); ((try simp only [cell_drew, slot_drew, below_drew]); refine ⟨?_, ?_, ?_, ?_⟩; (first | exact hS.2.1 | with_reducible exact cell_set hHeld.1 (by omega) | with_reducible exact cell_set (cell_set hHeld.1 (by omega)) (by omega)); (first | exact hS.2.2.1 | with_reducible exact cell_set hHeld.2.1 (by omega) | with_reducible exact cell_set (cell_set hHeld.2.1 (by omega)) (by omega)); (first | exact hS.2.2.2.1 | with_reducible exact hHeld.2.2.1.set _ _ _ | with_reducible exact (hHeld.2.2.1.set _ _ _).set _ _ _); (first | exact hS.2.2.2.2 | with_reducible exact bel_set1 hHeld.2.2.2 (by omega) | with_reducible exact bel_set2 hHeld.2.2.2 (by omega) (by omega)))); clear hK K; (try clear hS); (try clear hfx0 hx0 x0); (try clear hfy0 hy0 y0); (try clear hfx1 hx1 x1); (try clear hfy1 hy1 y1); (try dsimp only at hHeld))))
  refine wpSched_nil ?_
  rename_i hOld
  have HRR := Lib.hid (fin_int NS.out hOld.2.2.1 (by decide) hOld.2.2.2 (by omega))
  clear hOld hHeld
  go_wp2_with fail
  refine bodyPost_ret (v := .agg #[.bool bbR, .slice adR lenR capR]) (by simp [results, Tryz.results133, go_sem, HRR.out.2.2.1, HRR.out.2.2.2]) rfl (⟨_, rfl, HRR.out.1, HRR.out.2.1⟩)
theorem sg_mul (x y : Int) : sg (decide (x < 0) != decide (y < 0)) (x.natAbs * y.natAbs) = x * y := by
  unfold sg
  rw [← Int.natAbs_mul]
  by_cases hx : x < 0 <;> by_cases hy : y < 0
  · have := Int.mul_nonneg (show 0 ≤ -x by omega) (show 0 ≤ -y by omega)
    rw [Int.neg_mul_neg] at this
    simp [hx, hy]; omega
  · have := Int.mul_nonneg (show 0 ≤ -x by omega) (show 0 ≤ y by omega)
    rw [Int.neg_mul] at this
    simp [hx, hy]; omega
  · have := Int.mul_nonneg (show 0 ≤ x by omega) (show 0 ≤ -y by omega)
    rw [Int.mul_neg] at this
    simp [hx, hy]; omega
  · have := Int.mul_nonneg (show 0 ≤ x by omega) (show 0 ≤ y by omega)
    simp [hx, hy]; omega
set_option maxRecDepth 100000 in
set_option maxHeartbeats 800000 in
theorem imul_any (v u : Value) (x y : Int) (k j : Nat) (w : World) (h : IntB 161 w v x k) (h' : IntB 161 w u y j) (hk : k ≤ 5000000) (hj : j ≤ 5000000) :
    Calls Tryz.prog 94 #[v, u] w fun e w' => ∃ v', e = .returned v' ∧ IntB 161 w' v' (x * y) (k + j) ∧ Below w.heap.size w w' := by
  obtain ⟨ad, len, cap, rfl, hr⟩ := h.shape
  obtain ⟨ad', len', cap', rfl, hr'⟩ := h'.shape
  have H := Lib.hid h.part.1
  have H' := Lib.hid h'.part.1
  clear h hr h' hr'
  generalize hbx : decide (x < 0) = bx
  generalize hby : decide (y < 0) = bz
  have HSG := Lib.hid (show sg (!(bx == bz)) (x.natAbs * y.natAbs) = x * y by rw [← hbx, ← hby]; exact sg_mul x y)
  have hkj : k + j ≤ 10000000 := by omega
  clear hbx hby
  go_enter Tryz.func94, Tryz.ntmps94
  go_wp2_with fail
  have hh := heldN3 (w := w) (c0 := #[Value.bool bx, Value.slice ad len cap]) (t0 := 41) (c1 := #[Value.bool bz, Value.slice ad' len' cap']) (t1 := 41) (c2 := #[Value.bool false, Value.slice none 0 0]) (t2 := 41)
  have hbX := bel_alloc3 w (Obj.cells #[Value.bool bx, Value.slice ad len cap] 41) (Obj.cells #[Value.bool bz, Value.slice ad' len' cap'] 41) (Obj.cells #[Value.bool false, Value.slice none 0 0] 41)
  generalize ((w.alloc (Obj.cells #[Value.bool bx, Value.slice ad len cap] 41)).alloc (Obj.cells #[Value.bool bz, Value.slice ad' len' cap'] 41)).alloc (Obj.cells #[Value.bool false, Value.slice none 0 0] 41) = X at *
  have hc0 := cell0 hh.1
  have hc1 := cell1 hh.1
  have hd0 := cell0 hh.2.1
  have hd1 := cell1 hh.2.1
  have HSL := Lib.hid (Slot.of (n := 2) hh.2.2.1 rfl)
  have HBX := Lib.hid hbX
  clear hh hbX
  refine wp_region_sched (fun w' => w'.cell? ⟨w.heap.size, 0, none⟩ = some (.bool bx) ∧ w'.cell? ⟨w.heap.size, 1, none⟩ = some (.slice ad len cap) ∧ w'.cell? ⟨w.heap.size + 1, 0, none⟩ = some (.bool bz) ∧ w'.cell? ⟨w.heap.size + 1, 1, none⟩ = some (.slice ad' len' cap') ∧ Slot w' (w.heap.size + 1 + 1) 41 2 ∧ Below w.heap.size w w') [(0, true), (1, true), (2, true), (3, true), (4, true), (5, true), (6, true), (7, true), (8, true), (9, false), (10, false), (11, false)] (by kernel_rfl) (by kernel_rfl) ?_ (fun hHeld => ?_)
  · (try dsimp only)
    exact ⟨hc0, hc1, hd0, hd1, HSL.out.drew, HBX.out.drew⟩
  try dsimp only at hHeld
  repeat (refine wpSched_at (by simp only [List.getElem?_toArray, List.getElem?_cons_zero, List.getElem?_cons_succ]; rfl) ?_; (first | (apply wpAt_take rfl; (intro wx hSx; (try dsimp only at hSx); go_simp; (try with_reducible rfl)); simp only [Act.put, List.setIfInBounds_toArray, List.set_cons_zero, List.set_cons_succ]) | (refine wpAt_skip rfl ?_; simp only [Act.put, List.setIfInBounds_toArray, List.set_cons_zero, List.set_cons_succ]) | (refine wpAt_pass rfl hHeld ?_; simp only [Act.put, List.setIfInBounds_toArray, List.set_cons_zero, List.set_cons_succ]) | (refine wpAt_eff rfl (fun K hK => ?_); ((obtain ⟨x0, y0, hx0, hy0, hfx0, hfy0⟩ := hHeld.2.2.2.2.1.two); (try simp only [cell_drew, frozen_drew] at hx0 hy0 hfx0 hfy0)); go_simp; (first | (go_at_call 131; (with_reducible refine (mulB (.agg #[.slice ad len cap]) (.agg #[.slice ad' len' cap']) x.natAbs y.natAbs k j _ ?_ ?_ (by omega) (by omega)).mono ?_); (exact H.out.below hHeld.2.2.2.2.2); (exact H'.out.below hHeld.2.2.2.2.2); rintro e w' ⟨vf, rfl, hn, hb⟩; (try replace NF := Lib.hid (NF.out.below hb)); have NF := Lib.hid hn; have hS := And.intro trivial (And.intro (cell_below hHeld.1 hb) (And.intro (cell_below hHeld.2.1 hb) (And.intro (cell_below hHeld.2.2.1 hb) (And.intro (cell_below hHeld.2.2.2.1 hb) (And.intro (hHeld.2.2.2.2.1.below hb) (bel_on hHeld.2.2.2.2.2 hb)))))); clear hb hHeld hn) | (go_at_call 107; (with_reducible refine (signed_any (!(bx == bz)) vf (x.natAbs * y.natAbs) (k + j) _ ?_ hkj).mono ?_); (exact NF.out); rintro e w' ⟨vs, rfl, hn, hb⟩; (try replace NF := Lib.hid (NF.out.below hb)); have NS := Lib.hid hn; (rw [HSG.out] at NS); obtain ⟨bbR, adR, lenR, capR, rfl, hrR⟩ := NS.out.shape2; have hS := And.intro trivial (And.intro (cell_below hHeld.1 hb) (And.intro (cell_below hHeld.2.1 hb) (And.intro (cell_below hHeld.2.2.1 hb) (And.intro (cell_below hHeld.2.2.2.1 hb) (And.intro (hHeld.2.2.2.2.1.below hb) (bel_on hHeld.2.2.2.2.2 hb)))))); clear hb hHeld hn) | (try simp only [cell_drew, slot_drew, below_drew] at hHeld)); (refine hK.out _ _ ?_ (fun hHeld => ?_)); ((try dsimp only); ((try simp only [cell_drew, slot_drew, below_drew]); refine ⟨?_, ?_, ?_, ?_, ?_, ?_⟩; (first | exact hS.2.1 | with_reducible exact cell_set hHeld.1 (by omega) | with_reducible exact cell_set (cell_set hHeld.1 (by omega)) (by omega)); (first | exact hS.2.2.1 | with_reducible exact cell_set hHeld.2.1 (by omega) | with_reducible exact cell_set (cell_set hHeld.2.1 (by omega)) (by omega)); (first | exact hS.2.2.2.1 | with_reducible exact cell_set hHeld.2.2.1 (by omega) | with_reducible exact cell_set (cell_set hHeld.2.2.1 (by omega)) (by omega)); (first | exact hS.2.2.2.2.1 | with_reducible exact cell_set hHeld.2.2.2.1 (by omega) | with_reducible exact cell_set (cell_set hHeld.2.2.2.1 (by omega)) (by omega)); (first | exact hS.2.2.2.2.2.1 | with_reducible exact hHeld.2.2.2.2.1.set _ _ _ | with_reducible exact (hHeld.2.2.2.2.1.set _ _ _).set _ _ _); (first | exact hS.2.2.2.2.2.2 | with_reducible exact bel_set1 hHeld.2.2.2.2.2 (by omega) | with_reducible exact bel_set2 hHeld.2.2.2.2.2 (by omega) (by omega)))); clear hK K; (try clear hS); (try clear hfx0 hx0 x0); (try clear hfy0 hy0 y0); (try clear hfx1 hx1 x1); (try clear hfy1 hy1 y1); (try dsimp only at hHeld))))
  refine wpSched_nil ?_
  rename_i hOld
  have HRR := Lib.hid (fin_int NS.out hOld.2.2.2.2.1 (by decide) hOld.2.2.2.2.2 (by omega))
  clear hOld hHeld
  go_wp2_with fail
  refine bodyPost_ret (v := .agg #[.bool bbR, .slice adR lenR capR]) (by simp [results, Tryz.results94, go_sem, HRR.out.2.2.1, HRR.out.2.2.2]) rfl (⟨_, rfl, HRR.out.1, HRR.out.2.1⟩)
set_option maxHeartbeats 800000 in
theorem icmp_any (v u : Value) (x y : Int) (k j : Nat) (w : World) (h : IntB 161 w v x k) (h' : IntB 161 w u y j) (hk : k ≤ 10000000) (hj : j ≤ 10000000) :
    Calls Tryz.prog 69 #[v, u] w fun e w' => e = .returned (.int .i64 (cmpZ x y)) ∧ Below w.heap.size w w' := by
  obtain ⟨ad, len, cap, rfl, hr⟩ := h.shape
  obtain ⟨ad', len', cap', rfl, hr'⟩ := h'.shape
  have H := Lib.hid h.part.1
  have H' := Lib.hid h'.part.1
  clear h hr h' hr'
  by_cases hx : x < 0 <;> by_cases hy : y < 0
  · rw [decide_eq_true hx, decide_eq_true hy]
    go_enter Tryz.func69, Tryz.ntmps69
    go_wp2_with fail
    refine (cmpB _ _ y.natAbs x.natAbs j k _ (H'.out.below (bel_alloc2 _ _ _)) (H.out.below (bel_alloc2 _ _ _)) hj hk).mono ?_
    rintro e w1 ⟨rfl, hb⟩
    have HB := Lib.hid (bel_on (bel_alloc2 _ _ _) hb)
    clear hb
    go_wp2
    go_ret
    refine ⟨ret_int ?_, HB.out⟩
    unfold cmpI cmpZ
    split <;> split <;> (try split) <;> (try split) <;> omega
  · rw [decide_eq_true hx, decide_eq_false hy, show cmpZ x y = -1 by unfold cmpZ; rw [if_pos (by omega)]]
    go_enter Tryz.func69, Tryz.ntmps69
    go_wp2_with fail
    go_ret
    exact ⟨rfl, bel_alloc2 _ _ _⟩
  · rw [decide_eq_false hx, decide_eq_true hy, show cmpZ x y = 1 by unfold cmpZ; rw [if_neg (by omega), if_pos (by omega)]]
    go_enter Tryz.func69, Tryz.ntmps69
    go_wp2_with fail
    go_ret
    exact ⟨rfl, bel_alloc2 _ _ _⟩
  · rw [decide_eq_false hx, decide_eq_false hy]
    go_enter Tryz.func69, Tryz.ntmps69
    go_wp2_with fail
    refine (cmpB _ _ x.natAbs y.natAbs k j _ (H.out.below (bel_alloc2 _ _ _)) (H'.out.below (bel_alloc2 _ _ _)) hk hj).mono ?_
    rintro e w1 ⟨rfl, hb⟩
    have HB := Lib.hid (bel_on (bel_alloc2 _ _ _) hb)
    clear hb
    go_wp2
    go_ret
    refine ⟨ret_int ?_, HB.out⟩
    unfold cmpI cmpZ
    split <;> split <;> (try split) <;> (try split) <;> omega
theorem sg_same {x : Int} {b : Bool} {n : Nat} (h : decide (x < 0) = b) : sg b (x.natAbs + n) = x + sg b n := by
  subst h; unfold sg; by_cases hx : x < 0 <;> simp [hx] <;> omega
theorem sg_left {x : Int} {b : Bool} {n : Nat} (h : decide (x < 0) = !b) (hl : n ≤ x.natAbs) : sg (!b) (x.natAbs - n) = x + sg b n := by
  cases b <;> simp [sg] at h ⊢ <;> omega
theorem sg_right {x : Int} {b : Bool} {n : Nat} (h : decide (x < 0) = !b) (hl : x.natAbs < n) : sg b (n - x.natAbs) = x + sg b n := by
  cases b <;> simp [sg] at h ⊢ <;> omega
theorem eq_not_of_ne {a b : Bool} (h : (a == b) = false) : a = !b := by cases a <;> cases b <;> simp at h ⊢
set_option maxRecDepth 100000 in
set_option maxHeartbeats 1600000 in
theorem join_any (v u : Value) (x : Int) (n : Nat) (b : Bool) (k j : Nat) (w : World) (h : IntB 161 w v x k) (h' : NatB 161 w u n j) (hk : k ≤ 4000000) (hj : j ≤ 4000000) :
    Calls Tryz.prog 203 #[v, u, .bool b] w fun e w' => ∃ v', e = .returned v' ∧ IntB 161 w' v' (x + sg b n) (k + j + 1) ∧ Below w.heap.size w w' := by
  obtain ⟨ad, len, cap, rfl, hr⟩ := h.shape
  obtain ⟨ad', len', cap', rfl, hr'⟩ := h'.shape
  have H := Lib.hid h.part.1
  have H' := Lib.hid h'
  clear h hr h' hr'
  generalize hbx : decide (x < 0) = bx
  by_cases hs : (bx == b) = true
  · have HSG := Lib.hid (show sg b (x.natAbs + n) = x + sg b n from sg_same (hbx.trans (by simpa using hs)))
    clear hbx
    go_enter Tryz.func203, Tryz.ntmps203
    go_wp2_with fail
    refine (addB _ _ x.natAbs n k j _ (H.out.below (bel_alloc3 _ _ _ _)) (H'.out.below (bel_alloc3 _ _ _ _)) (by omega) (by omega)).mono ?_
    rintro e w1 ⟨v1, rfl, hn1, hb1⟩
    have HN1 := Lib.hid hn1
    have HB1 := Lib.hid hb1
    clear hn1 hb1
    go_wp2_with fail
    refine (signed_any b v1 (x.natAbs + n) (k + j + 1) _ HN1.out (by omega)).mono ?_
    rintro e w2 ⟨v2, rfl, hn2, hb2⟩
    rw [HSG.out] at hn2
    obtain ⟨bbR, adR, lenR, capR, rfl, hrR⟩ := hn2.shape2
    have hslR := (Slot.of (n := 2) (((heldN3 (w := w)).below HB1.out).below hb2).2.2.1 rfl)
    obtain ⟨xR, yR, hxR, hyR, hfxR, hfyR⟩ := hslR.two
    have HRR := Lib.hid (fin_int hn2 hslR (by decide) (bel_on (bel_on (bel_alloc3 _ _ _ _) HB1.out) hb2) (by omega))
    clear hrR hslR hn2 hb2
    go_wp2
    refine bodyPost_ret (v := .agg #[.bool bbR, .slice adR lenR capR]) (by simp [results, Tryz.results203, go_sem, HRR.out.2.2.1, HRR.out.2.2.2]) rfl (⟨_, rfl, HRR.out.1, HRR.out.2.1⟩)
  · have hs' : (bx == b) = false := by simpa using hs
    have hnb := hbx.trans (eq_not_of_ne hs')
    have hbb : bx = !b := eq_not_of_ne hs'
    clear hs hs' hbx
    subst hbb
    have hs' : ((!b) == b) = false := by cases b <;> rfl
    by_cases hl : n ≤ x.natAbs
    · have HSG := Lib.hid (sg_left hnb hl)
      clear hnb
      go_enter Tryz.func203, Tryz.ntmps203
      go_wp2_with fail
      refine (subB _ _ x.natAbs n k j _ (H.out.below (bel_alloc3 _ _ _ _)) (H'.out.below (bel_alloc3 _ _ _ _)) (by omega) (by omega) hl).mono ?_
      rintro e w1 ⟨v1, rfl, hn1, hb1⟩
      obtain ⟨ad1, len1, cap1, rfl, hr1⟩ := hn1.shape
      have hh := ((heldN3 (w := w)).below hb1).new #[Value.slice ad1 len1 cap1] 39
      have hca := cell0 hh.2.1
      have hcc := cell0 hh.1
      have HN1 := Lib.hid (hn1.below (bel_alloc w1 (Obj.cells #[Value.slice ad1 len1 cap1] 39)))
      have HB1 := Lib.hid (bel_on (bel_on (bel_alloc3 _ _ _ _) hb1) (bel_alloc w1 (Obj.cells #[Value.slice ad1 len1 cap1] 39)))
      have HH := Lib.hid hh
      clear hn1 hb1 hr1 hh
      go_wp2_with fail
      refine (signed_any (!b) _ (x.natAbs - n) k _ HN1.out (by omega)).mono ?_
      rintro e w2 ⟨v2, rfl, hn2, hb2⟩
      rw [HSG.out] at hn2
      replace hn2 := hn2.mono (show k ≤ k + j + 1 by omega)
      clear hca hcc
      obtain ⟨bbR, adR, lenR, capR, rfl, hrR⟩ := hn2.shape2
      have hslR := (Slot.of (n := 2) (HH.out.below hb2).2.2.2.1 rfl)
      obtain ⟨xR, yR, hxR, hyR, hfxR, hfyR⟩ := hslR.two
      have HRR := Lib.hid (fin_int hn2 hslR (by decide) (bel_on HB1.out hb2) (by omega))
      clear hrR hslR hn2 hb2
      go_wp2
      refine bodyPost_ret (v := .agg #[.bool bbR, .slice adR lenR capR]) (by simp [results, Tryz.results203, go_sem, HRR.out.2.2.1, HRR.out.2.2.2]) rfl (⟨_, rfl, HRR.out.1, HRR.out.2.1⟩)
    · have hl' : x.natAbs < n := by omega
      have HSG := Lib.hid (sg_right hnb hl')
      clear hnb hl
      go_enter Tryz.func203, Tryz.ntmps203
      go_wp2_with fail
      refine (subLessB _ _ x.natAbs n k j _ (H.out.below (bel_alloc3 _ _ _ _)) (H'.out.below (bel_alloc3 _ _ _ _)) (by omega) (by omega) hl').mono ?_
      rintro e w1 ⟨rfl, hb1⟩
      have hh := ((heldN3 (w := w)).below hb1).new #[Value.slice none 0 0] 39
      have hca := cell0 hh.2.2.1
      have hcc := cell1 hh.2.1
      have HB1 := Lib.hid (bel_on (bel_on (bel_alloc3 _ _ _ _) hb1) (bel_alloc w1 (Obj.cells #[Value.slice none 0 0] 39)))
      have HH := Lib.hid hh
      clear hb1 hh
      go_wp2_with fail
      generalize w1.alloc (Obj.cells #[Value.slice none 0 0] 39) = W1 at *
      refine (subB _ _ n x.natAbs j k _ (H'.out.below HB1.out) (H.out.below HB1.out) (by omega) (by omega) (by omega)).mono ?_
      rintro e w2 ⟨v2, rfl, hn2, hb2⟩
      obtain ⟨ad2, len2, cap2, rfl, hr2⟩ := hn2.shape
      have hh := (HH.out.below hb2).new #[Value.slice ad2 len2 cap2] 39
      have hcc2 := cell0 hh.1
      have HN2 := Lib.hid (hn2.below (bel_alloc w2 (Obj.cells #[Value.slice ad2 len2 cap2] 39)))
      have HB2 := Lib.hid (bel_on (bel_on HB1.out hb2) (bel_alloc w2 (Obj.cells #[Value.slice ad2 len2 cap2] 39)))
      have HH2 := Lib.hid hh
      clear hn2 hb2 hr2 hh hca hcc
      go_wp2_with fail
      refine (signed_any b _ (n - x.natAbs) j _ HN2.out (by omega)).mono ?_
      rintro e w3 ⟨v3, rfl, hn3, hb3⟩
      rw [HSG.out] at hn3
      replace hn3 := hn3.mono (show j ≤ k + j + 1 by omega)
      clear hcc2
      obtain ⟨bbR, adR, lenR, capR, rfl, hrR⟩ := hn3.shape2
      have hslR := (Slot.of (n := 2) (HH2.out.below hb3).2.2.2.2.1 rfl)
      obtain ⟨xR, yR, hxR, hyR, hfxR, hfyR⟩ := hslR.two
      have HRR := Lib.hid (fin_int hn3 hslR (by decide) (bel_on HB2.out hb3) (by omega))
      clear hrR hslR hn3 hb3
      go_wp2
      refine bodyPost_ret (v := .agg #[.bool bbR, .slice adR lenR capR]) (by simp [results, Tryz.results203, go_sem, HRR.out.2.2.1, HRR.out.2.2.2]) rfl (⟨_, rfl, HRR.out.1, HRR.out.2.1⟩)
set_option maxHeartbeats 800000 in
theorem iadd_any (v u : Value) (x y : Int) (k j : Nat) (w : World) (h : IntB 161 w v x k) (h' : IntB 161 w u y j) (hk : k ≤ 4000000) (hj : j ≤ 4000000) :
    Calls Tryz.prog 174 #[v, u] w fun e w' => ∃ v', e = .returned v' ∧ IntB 161 w' v' (x + y) (k + j + 1) ∧ Below w.heap.size w w' := by
  obtain ⟨bx, ad, len, cap, rfl, hr⟩ := h.shape2
  obtain ⟨by', ad', len', cap', rfl, hr'⟩ := h'.shape2
  have H := Lib.hid h
  have H' := Lib.hid h'.part.1
  have HY := Lib.hid (show sg by' y.natAbs = y by rw [hr'.out]; exact sg_of y)
  clear h hr h' hr'
  go_enter Tryz.func174, Tryz.ntmps174
  go_wp2_with fail
  refine (join_any _ _ x y.natAbs by' k j _ (H.out.below (bel_alloc3 _ _ _ _)) (H'.out.below (bel_alloc3 _ _ _ _)) hk hj).mono ?_
  rintro e w1 ⟨v1, rfl, hn1, hb1⟩
  rw [HY.out] at hn1
  obtain ⟨bbR, adR, lenR, capR, rfl, hrR⟩ := hn1.shape2
  have hslR := (Slot.of (n := 2) ((heldN3 (w := w)).below hb1).2.2.1 rfl)
  obtain ⟨xR, yR, hxR, hyR, hfxR, hfyR⟩ := hslR.two
  have HRR := Lib.hid (fin_int hn1 hslR (by decide) (bel_on (bel_alloc3 _ _ _ _) hb1) (by omega))
  clear hrR hslR hn1 hb1
  go_wp2
  refine bodyPost_ret (v := .agg #[.bool bbR, .slice adR lenR capR]) (by simp [results, Tryz.results174, go_sem, HRR.out.2.2.1, HRR.out.2.2.2]) rfl (⟨_, rfl, HRR.out.1, HRR.out.2.1⟩)
set_option maxHeartbeats 800000 in
theorem iof_any (z : Int) (w : World) (h0 : -9223372036854775808 ≤ z) (h1 : z < 9223372036854775808) :
    Calls Tryz.prog 70 #[.int .i64 z] w fun e w' => ∃ v', e = .returned v' ∧ IntB 161 w' v' z 2 ∧ Below w.heap.size w w' := by
  by_cases hz : z < 0
  · have hd : decide (z < 0) = true := decide_eq_true hz
    obtain ⟨n, hn⟩ : ∃ n : Nat, z = -(n : Int) ∧ 0 < n ∧ n ≤ 9223372036854775808 := ⟨z.natAbs, by omega, by omega, by omega⟩
    obtain ⟨rfl, hn0, hn1⟩ := hn
    have ew : IntKind.u64.wrap (-IntKind.u64.wrap (-(n : Int))) = (n : Int) := by
      have e1 : IntKind.u64.wrap (-(n : Int)) = 18446744073709551616 - (n : Int) := by rw [IntKind.wrap_u64]; omega
      rw [e1]
      rw [IntKind.wrap_u64]; omega
    have HSG := Lib.hid (show sg true n = -(n : Int) from rfl)
    clear h0 h1 hz
    go_enter Tryz.func70, Tryz.ntmps70
    go_wp2_with fail
    refine (ofB n _ (by omega)).mono ?_
    rintro e w1 ⟨v1, rfl, hn2, hb1⟩
    have HN1 := Lib.hid hn2
    have HB1 := Lib.hid hb1
    clear hn2 hb1 ew
    go_wp2_with fail
    refine (signed_any true v1 n 2 _ HN1.out (by decide)).mono ?_
    rintro e w2 ⟨v2, rfl, hn2, hb2⟩
    rw [HSG.out] at hn2
    obtain ⟨bbR, adR, lenR, capR, rfl, hrR⟩ := hn2.shape2
    have hslR := (Slot.of (n := 2) (((heldN1 (w := w)).below HB1.out).below hb2).1 rfl)
    obtain ⟨xR, yR, hxR, hyR, hfxR, hfyR⟩ := hslR.two
    have HRR := Lib.hid (fin_int hn2 hslR (by decide) (bel_on (bel_on (bel_alloc _ _) HB1.out) hb2) (by omega))
    clear hrR hslR hn2 hb2 hd hn0
    go_wp2
    refine bodyPost_ret (v := .agg #[.bool bbR, .slice adR lenR capR]) (by simp [results, Tryz.results70, go_sem, HRR.out.2.2.1, HRR.out.2.2.2]) rfl (⟨_, rfl, HRR.out.1, HRR.out.2.1⟩)
  · have hd : decide (z < 0) = false := decide_eq_false hz
    obtain ⟨n, rfl⟩ := Int.eq_ofNat_of_zero_le (show 0 ≤ z by omega)
    have HSG := Lib.hid (show sg false n = (n : Int) from rfl)
    clear h0 hz
    go_enter Tryz.func70, Tryz.ntmps70
    go_wp2_with fail
    refine (ofB n _ (by omega)).mono ?_
    rintro e w1 ⟨v1, rfl, hn2, hb1⟩
    have HN1 := Lib.hid hn2
    have HB1 := Lib.hid hb1
    clear hn2 hb1
    go_wp2_with fail
    refine (signed_any false v1 n 2 _ HN1.out (by decide)).mono ?_
    rintro e w2 ⟨v2, rfl, hn2, hb2⟩
    rw [HSG.out] at hn2
    obtain ⟨bbR, adR, lenR, capR, rfl, hrR⟩ := hn2.shape2
    have hslR := (Slot.of (n := 2) (((heldN1 (w := w)).below HB1.out).below hb2).1 rfl)
    obtain ⟨xR, yR, hxR, hyR, hfxR, hfyR⟩ := hslR.two
    have HRR := Lib.hid (fin_int hn2 hslR (by decide) (bel_on (bel_on (bel_alloc _ _) HB1.out) hb2) (by omega))
    clear hrR hslR hn2 hb2 hd
    go_wp2
    refine bodyPost_ret (v := .agg #[.bool bbR, .slice adR lenR capR]) (by simp [results, Tryz.results70, go_sem, HRR.out.2.2.1, HRR.out.2.2.2]) rfl (⟨_, rfl, HRR.out.1, HRR.out.2.1⟩)
end Go.Proofs.YtpmnakjllkidiaaGreatDoor

namespace Go.Proofs.YtpmnakjllkidiaaGreatDoor
open Go.RowKit Cin
set_option maxHeartbeats 400000 in
theorem formatUintI_small (u : Nat) (w : World) (h : u < 100) :
    Calls Tryz.prog 215 #[.int .u64 u, .int .i64 10] w fun e w' => e = .returned (.string ⟨(Lib.decDigits u).toArray⟩) ∧ w = w' := by
  go_enter Tryz.func215, Tryz.ntmps215
  go_wp2_with (go_at_call 220; refine (Tryz.internal_strconv_small u h _).mono ?_; rintro e w' ⟨rfl, rfl⟩)
  go_ret
  exact ⟨rfl, rfl⟩
set_option maxHeartbeats 400000 in
theorem formatUint_small (u : Nat) (w : World) (h : u < 100) :
    Calls Tryz.prog 208 #[.int .u64 u, .int .i64 10] w fun e w' => e = .returned (.string ⟨(Lib.decDigits u).toArray⟩) ∧ w = w' := by
  go_enter Tryz.func208, Tryz.ntmps208
  go_wp2_with fail
  refine (formatUintI_small u _ h).mono ?_
  rintro e w' ⟨rfl, rfl⟩
  go_wp2
  go_ret
  exact ⟨rfl, rfl⟩
end Go.Proofs.YtpmnakjllkidiaaGreatDoor

namespace Cin
open Go
def decS (n : Nat) : ByteArray := ⟨(Lib.decDigits n).toArray⟩
def dd (n : Nat) : List UInt8 := if n = 0 then [] else Lib.decDigits n
theorem dd_zero : dd 0 = [] := if_pos rfl
theorem dd_pos {n : Nat} (h : n ≠ 0) : dd n = Lib.decDigits n := if_neg h
theorem dec_small {n : Nat} (h : n < 10) : Lib.decDigits n = [UInt8.ofNat (48 + n)] := by rw [Lib.decDigits, dif_pos h]
theorem dec_big {n : Nat} (h : ¬ n < 10) : Lib.decDigits n = Lib.decDigits (n / 10) ++ [UInt8.ofNat (48 + n % 10)] := by rw [Lib.decDigits, dif_neg h]
theorem dd_step {n : Nat} (h : n ≠ 0) : dd n = dd (n / 10) ++ [UInt8.ofNat (48 + n % 10)] := by
  rw [dd_pos h]
  by_cases h1 : n < 10
  · rw [dec_small h1, show n / 10 = 0 by omega, dd_zero, Nat.mod_eq_of_lt h1]; rfl
  · rw [dec_big h1, dd_pos (show n / 10 ≠ 0 by omega)]
theorem dec_ten {q r : Nat} (hq : q ≠ 0) (hr : r < 10) : Lib.decDigits (q * 10 + r) = Lib.decDigits q ++ [UInt8.ofNat (48 + r)] := by
  rw [dec_big (by omega), show (q * 10 + r) / 10 = q by omega, show (q * 10 + r) % 10 = r by omega]
def padk (k r : Nat) : List UInt8 := List.replicate (k - (Lib.decDigits r).length) 48 ++ Lib.decDigits r
theorem padk_one {r : Nat} (h : r < 10) : padk 1 r = [UInt8.ofNat (48 + r)] := by unfold padk; rw [dec_small h]; rfl
theorem padk_succ {k r : Nat} (hk : 1 ≤ k) : padk (k + 1) r = padk k (r / 10) ++ [UInt8.ofNat (48 + r % 10)] := by
  unfold padk
  by_cases h : r < 10
  · rw [dec_small h, show r / 10 = 0 by omega, dec_small (show 0 < 10 by decide), Nat.mod_eq_of_lt h]
    simp only [List.length_singleton, Nat.add_sub_cancel]
    rw [List.append_assoc]
    show _ = List.replicate (k - 1) 48 ++ ([48] ++ [_])
    rw [← List.append_assoc, ← List.replicate_one (a := (48 : UInt8)), List.replicate_append_replicate, show k - 1 + 1 = k by omega]
  · rw [dec_big h, List.length_append, List.length_singleton, Nat.add_sub_add_right, List.append_assoc]
theorem dec_group {q : Nat} (hq : q ≠ 0) : ∀ (k r : Nat), 1 ≤ k → r < 10 ^ k → Lib.decDigits (q * 10 ^ k + r) = Lib.decDigits q ++ padk k r
  | 0, _, h, _ => by omega
  | 1, r, _, h => by rw [padk_one (by simpa using h), Nat.pow_one, dec_ten hq (by simpa using h)]
  | k + 2, r, _, h => by
    have hp : 10 ^ (k + 2) = 10 ^ (k + 1) * 10 := Nat.pow_succ ..
    rw [hp] at h ⊢
    have hpos : 0 < 10 ^ (k + 1) := Nat.pow_pos (by decide)
    have hq10 : 10 ≤ q * (10 ^ (k + 1) * 10) := by
      have : 1 * 1 ≤ q * 10 ^ (k + 1) := Nat.mul_le_mul (by omega) hpos
      rw [← Nat.mul_assoc]; omega
    rw [dec_big (by omega), padk_succ (by omega), ← List.append_assoc, ← dec_group hq (k + 1) (r / 10) (by omega) (by omega), ← Nat.mul_assoc]
    rw [show (q * 10 ^ (k + 1) * 10 + r) / 10 = q * 10 ^ (k + 1) + r / 10 by omega, show (q * 10 ^ (k + 1) * 10 + r) % 10 = r % 10 by omega]
theorem dec_len : ∀ (m n : Nat), 1 ≤ m → n < 10 ^ m → (Lib.decDigits n).length ≤ m
  | 0, _, h, _ => by omega
  | 1, n, _, h => by rw [dec_small (by simpa using h)]; simp
  | m + 2, n, _, h => by
    by_cases h1 : n < 10
    · rw [dec_small h1]; simp
    · rw [dec_big h1, List.length_append, List.length_singleton]
      have := dec_len (m + 1) (n / 10) (by omega) (by rw [Nat.pow_succ] at h; omega)
      omega
theorem pw_ten (k : Nat) : pw k ≤ 10 ^ (10 * k) := by
  unfold pw; rw [Nat.pow_mul]; exact Nat.pow_le_pow_left (by decide) k
theorem dec_len_pw {n k : Nat} (h : n < pw k) : (Lib.decDigits n).length ≤ 10 * k + 1 :=
  dec_len (10 * k + 1) n (by omega) (Nat.lt_of_lt_of_le h (Nat.le_trans (pw_ten k) (Nat.pow_le_pow_right (by decide) (by omega))))
theorem minus_append (l : List UInt8) : (⟨#[45]⟩ : ByteArray) ++ ⟨l.toArray⟩ = ⟨(45 :: l).toArray⟩ := by
  apply ByteArray.ext
  simp
def intS (z : Int) : ByteArray := ⟨((if z < 0 then [45] else []) ++ Lib.decDigits z.natAbs).toArray⟩
theorem intS_neg {z : Int} (h : z < 0) : intS z = (⟨#[45]⟩ : ByteArray) ++ decS z.natAbs := by unfold intS decS; rw [if_pos h, minus_append]; rfl
theorem intS_pos {z : Int} (h : ¬ z < 0) : intS z = decS z.natAbs := by unfold intS decS; rw [if_neg h]; rfl
end Cin
