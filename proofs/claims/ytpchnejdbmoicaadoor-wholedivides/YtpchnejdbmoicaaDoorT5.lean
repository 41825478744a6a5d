/- The contract of the document's NatText. -/
import Derived.Test.YtpchnejdbmoicaaDoorT4
import Derived.Test.YtpchnejdbmoicaaDoorR1
import Derived.BigGuard
namespace Cin
open Go Go.RowKit
/-- One exchange of a reversal. -/
theorem rev_step {ds bs : List Nat} {i L : Nat} (hbl : bs.length = L) (hi : i < L / 2) (h : ∀ j, j < L → lim bs j = if j < i ∨ L - i ≤ j then lim ds (L - 1 - j) else lim ds j) :
    ∀ j, j < L → lim ((bs.set i (lim bs (L - 1 - i))).set (L - 1 - i) (lim bs i)) j = if j < i + 1 ∨ L - (i + 1) ≤ j then lim ds (L - 1 - j) else lim ds j := by
  intro j hj
  by_cases h1 : j = L - 1 - i
  · subst h1
    rw [lim_set_same (by rw [List.length_set]; omega), h i (by omega), if_neg (by omega), if_pos (by omega), show L - 1 - (L - 1 - i) = i by omega]
  · rw [lim_set_other (by omega)]
    by_cases h2 : j = i
    · subst h2
      rw [lim_set_same (by omega), h (L - 1 - j) (by omega), if_neg (by omega), if_pos (by omega)]
    · rw [lim_set_other (by omega), h j hj]
      by_cases h3 : j < i ∨ L - i ≤ j
      · rw [if_pos h3, if_pos (by omega)]
      · rw [if_neg h3, if_neg (by omega)]
theorem lim_reverse {ds : List Nat} {j : Nat} (hj : j < ds.length) : lim ds.reverse j = lim ds (ds.length - 1 - j) := by
  rw [lim_eq (by simpa using hj), lim_eq (by omega), List.getElem_reverse]
theorem rev_end {ds bs : List Nat} {L : Nat} (hL : ds.length = L) (hbl : bs.length = L) (h : ∀ j, j < L → lim bs j = if j < L / 2 ∨ L - L / 2 ≤ j then lim ds (L - 1 - j) else lim ds j) : bs = ds.reverse := by
  apply ext_lim (by simp [hL, hbl])
  intro j hj
  rw [hbl] at hj
  rw [h j hj, lim_reverse (by omega), hL]
  split
  · rfl
  · rw [show L - 1 - j = j by omega]
end Cin
namespace Go.Proofs.YtpchnejdbmoicaaDoor
open Go.RowKit Cin

theorem own_bytes {w : World} {base : Nat} {v : Value} {xs : List Nat} (h : Own 5 .u8 w base v xs) (hx : ∀ x ∈ xs, x < 256) : OwnB w base v (xs.map UInt8.ofNat) := by
  have e : Lib.byteCells (xs.map UInt8.ofNat) = us .u8 xs := by
    unfold Lib.byteCells us
    rw [List.map_map]
    refine List.map_congr_left fun x hx' => ?_
    show Value.int .u8 ((UInt8.ofNat x).toNat : Int) = _
    rw [UInt8.toNat_ofNat', Nat.mod_eq_of_lt (hx x hx')]
  unfold OwnB
  rw [e, List.length_map]
  exact h
/-- What the first loop knows. -/
def Digs10 (n m : Nat) (ds : List Nat) : Prop := dd n = dd m ++ ds.reverse.map UInt8.ofNat ∧ ∀ x ∈ ds, x < 256
theorem Digs10.step {n m q r : Nat} {ds : List Nat} (h : Digs10 n m ds) (hm : m ≠ 0) (hq : q = m / 10) (hr : r = 48 + m % 10) : Digs10 n q (ds ++ [r]) := by
  refine ⟨?_, fun x hx => ?_⟩
  · rw [h.1, dd_step hm, List.reverse_append, List.map_append, ← List.append_assoc, hq, hr]; rfl
  · rcases List.mem_append.1 hx with hx | hx
    · exact h.2 x hx
    · rw [List.mem_singleton.1 hx]; omega
theorem Digs10.few {n m k : Nat} {ds : List Nat} (h : Digs10 n m ds) (hn : n < pw k) : ds.length ≤ 10 * k + 1 := by
  have h1 := congrArg List.length h.1
  rw [List.length_append, List.length_map, List.length_reverse] at h1
  have h2 : (dd n).length ≤ 10 * k + 1 := by
    unfold dd; split
    · simp
    · exact dec_len_pw hn
  omega

set_option maxRecDepth 100000 in
set_option maxHeartbeats 4000000 in
/-- NatText: the decimal digits. -/
theorem refText_any (v : Value) (n k : Nat) (w : World) (h : RefV 68 w v n) (hn : n < pw k) (hk : k ≤ 1000000) :
    Calls Tryd.prog 23 #[v] w fun e w' => e = .returned (.string (decS n)) ∧ Below w.heap.size w w' := by
  obtain ⟨ad, len, cap, xs, rfl, hs, ho, hnm, hval, hlx, hcap⟩ := h.shape
  by_cases hl0 : len = 0
  · subst hl0
    have hn0 : n = 0 := by rw [← hval, List.length_eq_zero_iff.1 hlx]; rfl
    subst hn0
    have hd : decS 0 = ⟨#[48]⟩ := by unfold decS; rw [dec_small (by decide)]; rfl
    rw [hd]
    clear h hs ho hnm hval hlx hn hd
    go_enter Tryd.func23, Tryd.ntmps23
    go_wp2_with fail
    go_ret
    exact ⟨rfl, Below.refl _ _⟩
  · obtain ⟨i0, hi0, hz0, hz1, hz2⟩ := info_parts info_u32
    obtain ⟨j0, hj0, hy0, hy1, hy2⟩ := info_parts info_u8'
    have hl : len ≤ k := by have := norm_len hnm (by rw [hval]; exact hn); omega
    have hlb : ((len : Int) == 0) = false := beq_eq_false_iff_ne.2 (by omega)
    have hn0 : n ≠ 0 := fun e => hl0 (by rw [← hlx, norm_val_zero hnm (hval.trans e)]; rfl)
    obtain ⟨b, off, rfl, _, _⟩ := hs.cell (i := 0) (by omega)
    have HS := Lib.hid hs
    have HNM := Lib.hid hnm
    have HV := Lib.hid hval
    have HX := Lib.hid hn
    have HLX := Lib.hid hlx
    clear h hs hnm hval hn hlx
    go_enter Tryd.func23, Tryd.ntmps23
    go_wp2_with (at_builtin; go_must (refine wpList_append_sl w rfl _ _ 29 rfl w.heap.size 68 i0 .u32 4 Tryd.underlying29 hi0 hz0 hz1 hz2 _ [] (by rfl) (by exact Own.nil _ _ _ _) b off len cap xs (by rfl) HLX.out.symm HS.out (by have := HLX.out; simp; omega) (by have := HLX.out; simp; omega) (Nat.le_refl _) ?_))
    intro v1 w1 h1 h2 _
    obtain ⟨g, cap1, rfl, hg0, hg1, hc1⟩ : ∃ g cap1, v1 = .slice (some ⟨g, 0, none⟩) len cap1 ∧ w.heap.size ≤ g ∧ g < w1.heap.size ∧ len ≤ cap1 := by
      rcases h1.shape with ⟨_, e⟩ | ⟨g, cap1, e, h1, h2, h3⟩
      · rw [e] at HLX; exact absurd HLX.out.symm hl0
      · rw [HLX.out] at e h3; exact ⟨g, cap1, e, h1, h2, h3⟩
    have HO1 := Lib.hid (show Own 68 .u32 w1 w.heap.size (.slice (some ⟨g, 0, none⟩) len cap1) xs from h1)
    have HB1 := Lib.hid h2
    clear h1 h2 hcap
    go_wp2_with fail
    go_loopw [3, 4, 5, 6, 7] (fun lv ou _ _ _ wr => ∃ (m : Nat) (zs ds : List Nat) (ov : Value), ov = ou ∧ lv = .slice (some ⟨g, 0, none⟩) m cap1 ∧ m = zs.length ∧ m ≤ k ∧ Own 68 .u32 wr w.heap.size lv zs ∧ Ok zs ∧ Norm zs ∧ sliceLen ov = ds.length ∧ Own 5 .u8 wr (g + 1) ov ds ∧ Digs10 n (val zs) ds ∧
        Below w.heap.size w wr ∧ g < wr.heap.size) (fun _ ou _ _ _ _ => 10 * k + 1 - sliceLen ou)
    case atStart => exact ⟨len, xs, [], _, rfl, rfl, HLX.out.symm, hl, HO1.out, ho, HNM.out, rfl, Own.nil _ _ _ _, ⟨by rw [HV.out]; simp, (fun x hx => by cases hx)⟩, HB1.out, hg1⟩
    case round =>
      obtain ⟨m, zs, ds, ov, rfl, rfl, hmz, hmk, hoz, hok, hnz, hsl, hod, hdg, hbel, hgw⟩ := hrel
      have hfew := hdg.few HX.out
      by_cases hm0 : m = 0
      · subst hm0
        have hz : zs = [] := List.length_eq_zero_iff.1 hmz.symm
        have hdn : Lib.decDigits n = ds.reverse.map UInt8.ofNat := by
          have := hdg.1
          rw [hz, val_nil, dd_zero, dd_pos hn0, List.nil_append] at this
          exact this
        have hd0 : ds ≠ [] := fun e => by
          have h1 := Lib.nDigits_pos n
          rw [← Lib.decDigits_length, hdn, e] at h1
          simp at h1
        obtain ⟨g2, cap2, rfl, hb2, hg2, hc2⟩ : ∃ g2 cap2, ov = .slice (some ⟨g2, 0, none⟩) ds.length cap2 ∧ g + 1 ≤ g2 ∧ g2 < wr.heap.size ∧ ds.length ≤ cap2 := by
          rcases hod.shape with ⟨_, e⟩ | ⟨g2, cap2, e, r1, r2, r3⟩
          · exact absurd e hd0
          · exact ⟨g2, cap2, e, r1, r2, r3⟩
        obtain ⟨L, hL⟩ : ∃ L : Nat, ds.length = L := ⟨_, rfl⟩
        obtain ⟨hf, ehf, ehf'⟩ : ∃ hf : Nat, (L : Int) / 2 = (hf : Int) ∧ hf = L / 2 := ⟨L / 2, by omega, rfl⟩
        rw [hL] at hod hfew hc2 ⊢
        have HDN := Lib.hid hdn
        have HD0 := Lib.hid hd0
        have HDG := Lib.hid hdg.2
        have HL := Lib.hid hL
        have HBE := Lib.hid hbel
        have HOD := Lib.hid hod
        have HHF := Lib.hid ehf'
        clear hdn hd0 hL hbel hod hoz hok hnz hsl hdg hmz hz ehf'
        go_wp2_with fail
        go_loopw [8] (fun ix wq => ∃ (a : Nat) (bs : List Nat), ix = .int .i64 a ∧ a ≤ hf ∧ bs.length = L ∧ (∀ j, j < L → lim bs j = if j < a ∨ L - a ≤ j then lim ds (L - 1 - j) else lim ds j) ∧ Own 5 .u8 wq (g + 1) (.slice (some ⟨g2, 0, none⟩) L cap2) bs ∧ Below w.heap.size w wq) (fun ix _ => hf - (intOf ix).toNat)
        case atStart => exact ⟨0, ds, rfl, Nat.zero_le _, HL.out, fun j hj => by rw [if_neg (by omega)], HOD.out, HBE.out⟩
        case round =>
          obtain ⟨a, bs, rfl, ha, hbl, hrv, hown, hbq⟩ := hrel
          by_cases hlt : a < hf
          · obtain ⟨p, ep, ep'⟩ : ∃ p : Nat, (L : Int) - 1 - (a : Int) = (p : Int) ∧ p = L - 1 - a := ⟨L - 1 - a, by have := HHF.out; omega, rfl⟩
            have haL : a < L := by have := HHF.out; omega
            have hpL : p < L := by omega
            have hne : a ≠ p := by have := HHF.out; omega
            have hca := hown.cell hbl.symm (i := a) haL
            have hcp := hown.cell hbl.symm (i := p) hpL
            have hfa := hown.free hbl.symm a
            have hfp := hown.free hbl.symm p
            have R := rev_step (ds := ds) hbl (by have := HHF.out; omega) hrv
            rw [← ep'] at R
            have HR := Lib.hid R
            have HO := Lib.hid ((hown.set hbl.symm a (lim bs p)).set (by rw [List.length_set, hbl]) p (lim bs a))
            have HBQ := Lib.hid (bel_set2 (b := g2) (o := a) (u := .int .u8 (lim bs p : Nat)) (b' := g2) (o' := p) (u' := .int .u8 (lim bs a : Nat)) hbq (by omega) (by omega))
            have HBL := Lib.hid hbl
            have hcp2 := World.cell?_setCell_other wr ⟨g2, a, none⟩ ⟨g2, p, none⟩ (.int .u8 (lim bs p : Nat)) (by intro e; injection e; omega)
            clear R hrv hown hbq ep' hcp2 hbl
            go_wp2_with fail
            go_big_region
            go_wp2_with fail
            exact ⟨⟨a + 1, _, by go_num, by omega, by rw [List.length_set, List.length_set, HBL.out], HR.out, HO.out, HBQ.out.drew⟩, by simp [intOf]; omega⟩
          · obtain rfl : a = hf := by omega
            have hrev := rev_end HL.out hbl (by rw [← HHF.out]; exact hrv)
            subst hrev
            have hne : ds.reverse.map UInt8.ofNat ≠ [] := fun e => HD0.out (by simpa using e)
            obtain ⟨g3, cap3, e3, hcv⟩ := ownB_text (own_bytes hown (fun x hx => HDG.out x (List.mem_reverse.1 hx))) hne
            injection e3 with e3a e3b e3c
            injection e3a with e3a
            injection e3a with e3a
            subst e3a e3c
            rw [← e3b, ← HDN.out] at hcv
            have HE := Lib.hid hbq
            clear hown hbq hrv hbl hne e3b
            go_wp2_with fail
            go_ret
            exact ⟨rfl, HE.out⟩
      · have hvz := val_pos hnz (by omega)
        have hm0' : decide ((0 : Int) < (m : Int)) = true := by rw [decide_eq_true_iff]; omega
        have HOZ := Lib.hid hoz
        have HOD := Lib.hid hod
        have HDG := Lib.hid hdg
        have HBE := Lib.hid hbel
        have HSL := Lib.hid hsl
        have HVZ := Lib.hid hvz
        have HMZ := Lib.hid hmz
        have hds2 := (hdg.step hvz rfl rfl).few HX.out
        rw [List.length_append, List.length_singleton] at hds2
        clear hoz hod hdg hbel hsl hvz hmz hnz
        go_wp2_with fail
        go_loopw [5, 6, 7] (fun qx ix _ wq => ∃ (c q : Nat) (ys : List Nat), c ≤ m ∧ ix = .int .i64 ((c : Int) - 1) ∧ qx = .int .u64 q ∧ q < 10 ∧ ys.length = zs.length ∧ Ok ys ∧ val (ys.drop c) * 10 + q = val (zs.drop c) ∧ (∀ j, j < c → lim ys j = lim zs j) ∧
            Own 68 .u32 wq w.heap.size (.slice (some ⟨g, 0, none⟩) m cap1) ys ∧ Keep (· = g) wr wq) (fun _ ix _ _ => (intOf ix + 1).toNat)
        case atStart => exact ⟨m, 0, zs, Nat.le_refl _, rfl, rfl, by decide, rfl, hok, by rw [List.drop_of_length_le (by have := HMZ.out; omega), val_nil], fun _ _ => rfl, HOZ.out, Keep.refl _ _⟩
        case round =>
          obtain ⟨c, q, ys, hc, rfl, rfl, hq, hyl, hoky, hv, hun, hown, hkeep⟩ := hrel
          have hyn : m = ys.length := by have := HMZ.out; omega
          by_cases hc0 : c = 0
          · subst hc0
            have hv0 : val ys * 10 + q = val zs := by simpa using hv
            obtain ⟨cc, ecc, ecc'⟩ : ∃ cc : Nat, (48 : Int) + (q : Int) = (cc : Int) ∧ cc = 48 + q := ⟨48 + q, by omega, rfl⟩
            have hcc : cc < 256 := by omega
            have hD2 := HDG.out.step (q := val ys) (r := cc) HVZ.out (by omega) (by omega)
            have HD2 := Lib.hid hD2
            have HOY := Lib.hid hown
            have HOD2 := Lib.hid (HOD.out.keep hkeep (fun b e => by omega))
            have HB2 := Lib.hid (HBE.out.trans (hkeep.below (B := w.heap.size) HBE.out.size (fun k e => by omega)))
            have hgq : g < wr.heap.size := by have := hkeep.size; omega
            have HYN := Lib.hid hyn
            have hfw : ds.length + 1 ≤ 10 * k + 1 := hds2
            clear hv hun hown hkeep hv0 hD2 ecc' hyl hyn
            go_wp2_with (at_builtin; go_must (refine wpList_append_one wr rfl _ _ 74 rfl (g + 1) 5 j0 .u8 1 Tryd.underlying74 hj0 hy0 hy1 hy2 _ ds (by rfl) (by exact HOD2.out) cc (by rfl) (by omega) (by omega) (by omega) ?_))
            intro ov' w3 h1 h2
            have hoy3 := HOY.out.below2 h2 (by omega)
            have HG3 := Lib.hid h1
            have HB3 := Lib.hid (HB2.out.trans (h2.mono (B' := w.heap.size) (by omega)))
            have hg3 : g < w3.heap.size := by have := h2.size; omega
            have HS3 := Lib.hid hoy3.sl
            have HO3 := Lib.hid hoy3
            have hncap : m ≤ cap1 := by
              rcases HOZ.out.shape with ⟨e, _⟩ | ⟨_, _, e, _, _, h⟩
              · cases e
              · cases e; have := HMZ.out; omega
            clear h1 h2 hoy3
            go_wp2_with fail
            refine (rtrim_at _ m cap1 ys _ HS3.out HYN.out (by omega) hncap).mono ?_
            rintro e w4 ⟨rfl, rfl⟩
            go_wp2_with fail
            have hle := trimN_le ys m
            have hyn2 : m ≤ ys.length := by have := HYN.out; omega
            have hq2 : val (ys.take (trimN ys m)) = val ys := by rw [trimN_val ys m hyn2, List.take_of_length_le (by have := HYN.out; omega)]
            have hlen : (ys.take (trimN ys m)).length = trimN ys m := by rw [List.length_take]; omega
            have hgv : sliceLen ov' = (ds ++ [cc]).length := by
              rcases HG3.out.shape with ⟨_, e⟩ | ⟨_, _, e, _⟩
              · simp at e
              · rw [e]; rfl
            have hgl' : (ds ++ [cc]).length = ds.length + 1 := by simp
            refine ⟨⟨trimN ys m, ys.take (trimN ys m), ds ++ [cc], _, rfl, rfl, hlen.symm, by omega, HO3.out.take hle, hoky.take _, trimN_norm ys m hyn2, hgv, HG3.out, by rw [hq2]; exact HD2.out, HB3.out, hg3⟩, ?_⟩
            rw [hgv, HSL.out, hgl']; omega
          · obtain ⟨i, rfl⟩ : ∃ i, c = i + 1 := ⟨c - 1, by omega⟩
            have hcell := hown.cell hyn (i := i) (by omega)
            have hf := hown.free hyn i
            rw [hun i (by omega)] at hcell
            have hlim : lim zs i < 4294967296 := lim_lt hok _
            have hor : bits BinOp.or IntKind.u64 ((q : Int) * 4294967296) ((lim zs i : Nat) : Int) = ((q * 4294967296 + lim zs i : Nat) : Int) := by
              have := or_u64 (x := q) (y := lim zs i) (s := 32) (by omega) (by omega) (by omega)
              simpa using this
            obtain ⟨t, et⟩ : ∃ t : Nat, t = q * 4294967296 + lim zs i := ⟨_, rfl⟩
            rw [← et] at hor
            obtain ⟨z, hz, ez⟩ : ∃ z : Nat, (t : Int) / 10 = (z : Int) ∧ z = t / 10 := ⟨t / 10, by omega, rfl⟩
            obtain ⟨r, hr, er⟩ : ∃ r : Nat, (t : Int) % 10 = (r : Int) ∧ r = t % 10 := ⟨t % 10, by omega, rfl⟩
            have R := step_div hyl hoky hv (fun j hj => hun j (by omega)) (by have := HMZ.out; omega) et ez er hq hlim (by decide)
            have HR := Lib.hid R
            have hz32 : z < 4294967296 := R.1
            have HO := Lib.hid (hown.set hyn i z)
            have HK := Lib.hid (hkeep.setCell (a := ⟨g, i, none⟩) rfl (.int .u32 (z : Nat)))
            have ei : ((i + 1 : Nat) : Int) - 1 = (i : Int) := by omega
            clear R et ez er hown hkeep hv hun hyl hyn
            go_wp2_with fail
            obtain ⟨r1, r2, r3, r4, r5, r6⟩ := HR.out
            exact ⟨⟨i, r, ys.set i z, by omega, by go_num, congrArg (Value.int .u64) hr, r2, r3, r4, r5, r6, HO.out, HK.out⟩, by simp [intOf]⟩

end Go.Proofs.YtpchnejdbmoicaaDoor
