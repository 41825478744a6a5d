/- Contracts of the reference's small functions: trim. -/
import Derived.Test.YtfohgkabmdhhaaaGreatDoorYa
import Derived.Test.YtfohgkabmdhhaaaGreatDoorYi
import Derived.BigGuard
import Derived.Test.YtfohgkabmdhhaaaGreatDoorYd
import Derived.Test.YtfohgkabmdhhaaaGreatDoorYe
import Derived.Test.YtfohgkabmdhhaaaGreatDoorYc
namespace Go.Proofs.YtfohgkabmdhhaaaGreatDoor
open Go.RowKit Cin

set_option maxHeartbeats 400000 in
theorem rtrim_at (ad : Option Addr) (len cap : Nat) (xs : List Nat) (w : World) (h : Sl 146 .u32 w (.slice ad len cap) xs) (hl : len = xs.length) (hb : len ≤ 1000000000000) (hc : len ≤ cap) :
    Calls Tryz.prog 131 #[.slice ad len cap] w fun e w' => e = .returned (.slice ad (trimN xs len) cap) ∧ w = w' := by
  have HL := Lib.hid hl
  clear hl
  have H := Lib.hid h
  clear h
  go_enter Tryz.func131, Tryz.ntmps131
  go_wp2_with fail
  go_loop [3] (fun i => ∃ k : Nat, k ≤ len ∧ i = .int .i64 k ∧ trimN xs len = trimN xs k) (fun i => (intOf i).toNat)
  case atStart => exact ⟨len, Nat.le_refl _, rfl, rfl⟩
  case round =>
    obtain ⟨k, hk, rfl, ht⟩ := hrel
    have HT := Lib.hid ht
    clear ht
    rcases Nat.eq_zero_or_pos k with h0 | h0
    · subst h0
      go_wp2
      go_ret
      exact ⟨ret_slice (by rw [HT.out]; rfl), rfl⟩
    · obtain ⟨j, rfl⟩ : ∃ j, k = j + 1 := ⟨k - 1, by omega⟩
      obtain ⟨b, off, rfl, hcell, hblt⟩ := H.out.cell (i := j) (by have := HL.out; omega)
      by_cases hz : lim xs j = 0
      · have hzb : (((lim xs j : Nat) : Int) == 0) = true := by simp [hz]
        have HZ := Lib.hid hz
        clear hz
        go_wp2
        exact ⟨⟨j, by omega, rfl, by rw [HT.out, trimN, if_pos HZ.out]⟩, by simp [intOf]⟩
      · have hzb : (((lim xs j : Nat) : Int) == 0) = false := by simp; omega
        have HZ := Lib.hid hz
        clear hz
        go_wp2
        go_ret
        exact ⟨ret_slice (by rw [HT.out, trimN, if_neg HZ.out]), rfl⟩

/-- The reference's trim: the number whose words these are. -/
theorem rtrim_any (v : Value) (xs : List Nat) (w : World) (h : Sl 146 .u32 w v xs) (ho : Ok xs) (hb : xs.length ≤ 1000000000000) :
    Calls Tryz.prog 131 #[v] w fun e w' => ∃ v', e = .returned v' ∧ RefV 146 w v' (val xs) ∧ w = w' := by
  obtain ⟨ad, cap, rfl, hc, _⟩ := h.shape
  have hn := trimN_norm xs xs.length (Nat.le_refl _)
  have hv := trimN_val xs xs.length (Nat.le_refl _)
  rw [List.take_length] at hv
  exact (rtrim_at ad xs.length cap xs w h rfl hb hc).mono fun e w' ⟨he, hw⟩ => ⟨_, he, ⟨_, h.take (trimN_le _ _), ho.take _, hn, hv⟩, hw⟩

end Go.Proofs.YtfohgkabmdhhaaaGreatDoor
/- The contract of the document's NatText. -/
namespace Cin
open Go Go.RowKit
/-- One exchange of a reversal. -/
theorem rev_step {ds bs : List Nat} {i L : Nat} (hbl : bs.length = L) (hi : i < L / 2) (h : ∀ j, j < L → lim bs j = if j < i ∨ L - i ≤ j then lim ds (L - 1 - j) else lim ds j) :
    ∀ j, j < L → lim ((bs.set i (lim bs (L - 1 - i))).set (L - 1 - i) (lim bs i)) j = if j < i + 1 ∨ L - (i + 1) ≤ j then lim ds (L - 1 - j) else lim ds j := by
  intro j hj
  by_cases h1 : j = L - 1 - i
  · subst h1
    rw [lim_set_same (by rw [List.length_set]; omega), h i (by omega), if_neg (by omega), if_pos (by omega), show L - 1 - (L - 1 - i) = i by omega]
  · rw [lim_set_other (by omega)]
    by_cases h2 : j = i
    · subst h2
      rw [lim_set_same (by omega), h (L - 1 - j) (by omega), if_neg (by omega), if_pos (by omega)]
    · rw [lim_set_other (by omega), h j hj]
      by_cases h3 : j < i ∨ L - i ≤ j
      · rw [if_pos h3, if_pos (by omega)]
      · rw [if_neg h3, if_neg (by omega)]
theorem lim_reverse {ds : List Nat} {j : Nat} (hj : j < ds.length) : lim ds.reverse j = lim ds (ds.length - 1 - j) := by
  rw [lim_eq (by simpa using hj), lim_eq (by omega), List.getElem_reverse]
theorem rev_end {ds bs : List Nat} {L : Nat} (hL : ds.length = L) (hbl : bs.length = L) (h : ∀ j, j < L → lim bs j = if j < L / 2 ∨ L - L / 2 ≤ j then lim ds (L - 1 - j) else lim ds j) : bs = ds.reverse := by
  apply ext_lim (by simp [hL, hbl])
  intro j hj
  rw [hbl] at hj
  rw [h j hj, lim_reverse (by omega), hL]
  split
  · rfl
  · rw [show L - 1 - j = j by omega]
end Cin
namespace Go.Proofs.YtfohgkabmdhhaaaGreatDoor
open Go.RowKit Cin

theorem own_bytes {w : World} {base : Nat} {v : Value} {xs : List Nat} (h : Own 5 .u8 w base v xs) (hx : ∀ x ∈ xs, x < 256) : OwnB w base v (xs.map UInt8.ofNat) := by
  have e : Lib.byteCells (xs.map UInt8.ofNat) = us .u8 xs := by
    unfold Lib.byteCells us
    rw [List.map_map]
    refine List.map_congr_left fun x hx' => ?_
    show Value.int .u8 ((UInt8.ofNat x).toNat : Int) = _
    rw [UInt8.toNat_ofNat', Nat.mod_eq_of_lt (hx x hx')]
  unfold OwnB
  rw [e, List.length_map]
  exact h
/-- What the first loop knows. -/
def Digs10 (n m : Nat) (ds : List Nat) : Prop := dd n = dd m ++ ds.reverse.map UInt8.ofNat ∧ ∀ x ∈ ds, x < 256
theorem Digs10.step {n m q r : Nat} {ds : List Nat} (h : Digs10 n m ds) (hm : m ≠ 0) (hq : q = m / 10) (hr : r = 48 + m % 10) : Digs10 n q (ds ++ [r]) := by
  refine ⟨?_, fun x hx => ?_⟩
  · rw [h.1, dd_step hm, List.reverse_append, List.map_append, ← List.append_assoc, hq, hr]; rfl
  · rcases List.mem_append.1 hx with hx | hx
    · exact h.2 x hx
    · rw [List.mem_singleton.1 hx]; omega
theorem Digs10.few {n m k : Nat} {ds : List Nat} (h : Digs10 n m ds) (hn : n < pw k) : ds.length ≤ 10 * k + 1 := by
  have h1 := congrArg List.length h.1
  rw [List.length_append, List.length_map, List.length_reverse] at h1
  have h2 : (dd n).length ≤ 10 * k + 1 := by
    unfold dd; split
    · simp
    · exact dec_len_pw hn
  omega

set_option maxRecDepth 100000 in
set_option maxHeartbeats 4000000 in
/-- NatText: the decimal digits. -/
theorem refText_any (v : Value) (n k : Nat) (w : World) (h : RefV 146 w v n) (hn : n < pw k) (hk : k ≤ 1000000) :
    Calls Tryz.prog 121 #[v] w fun e w' => e = .returned (.string (decS n)) ∧ Below w.heap.size w w' := by
  obtain ⟨ad, len, cap, xs, rfl, hs, ho, hnm, hval, hlx, hcap⟩ := h.shape
  by_cases hl0 : len = 0
  · subst hl0
    have hn0 : n = 0 := by rw [← hval, List.length_eq_zero_iff.1 hlx]; rfl
    subst hn0
    have hd : decS 0 = ⟨#[48]⟩ := by unfold decS; rw [dec_small (by decide)]; rfl
    rw [hd]
    clear h hs ho hnm hval hlx hn hd
    go_enter Tryz.func121, Tryz.ntmps121
    go_wp2_with fail
    go_ret
    exact ⟨rfl, Below.refl _ _⟩
  · obtain ⟨i0, hi0, hz0, hz1, hz2⟩ := info_parts info_u32
    obtain ⟨j0, hj0, hy0, hy1, hy2⟩ := info_parts info_u8'
    have hl : len ≤ k := by have := norm_len hnm (by rw [hval]; exact hn); omega
    have hlb : ((len : Int) == 0) = false := beq_eq_false_iff_ne.2 (by omega)
    have hn0 : n ≠ 0 := fun e => hl0 (by rw [← hlx, norm_val_zero hnm (hval.trans e)]; rfl)
    obtain ⟨b, off, rfl, _, _⟩ := hs.cell (i := 0) (by omega)
    have HS := Lib.hid hs
    have HNM := Lib.hid hnm
    have HV := Lib.hid hval
    have HX := Lib.hid hn
    have HLX := Lib.hid hlx
    clear h hs hnm hval hn hlx
    go_enter Tryz.func121, Tryz.ntmps121
    go_wp2_with (at_builtin; go_must (refine wpList_append_sl w rfl _ _ 37 rfl w.heap.size 146 i0 .u32 4 Tryz.underlying37 hi0 hz0 hz1 hz2 _ [] (by rfl) (by exact Own.nil _ _ _ _) b off len cap xs (by rfl) HLX.out.symm HS.out (by have := HLX.out; simp; omega) (by have := HLX.out; simp; omega) (Nat.le_refl _) ?_))
    intro v1 w1 h1 h2 _
    obtain ⟨g, cap1, rfl, hg0, hg1, hc1⟩ : ∃ g cap1, v1 = .slice (some ⟨g, 0, none⟩) len cap1 ∧ w.heap.size ≤ g ∧ g < w1.heap.size ∧ len ≤ cap1 := by
      rcases h1.shape with ⟨_, e⟩ | ⟨g, cap1, e, h1, h2, h3⟩
      · rw [e] at HLX; exact absurd HLX.out.symm hl0
      · rw [HLX.out] at e h3; exact ⟨g, cap1, e, h1, h2, h3⟩
    have HO1 := Lib.hid (show Own 146 .u32 w1 w.heap.size (.slice (some ⟨g, 0, none⟩) len cap1) xs from h1)
    have HB1 := Lib.hid h2
    clear h1 h2 hcap
    go_wp2_with fail
    go_loopw [3, 4, 5, 6, 7] (fun lv ou _ _ _ wr => ∃ (m : Nat) (zs ds : List Nat) (ov : Value), ov = ou ∧ lv = .slice (some ⟨g, 0, none⟩) m cap1 ∧ m = zs.length ∧ m ≤ k ∧ Own 146 .u32 wr w.heap.size lv zs ∧ Ok zs ∧ Norm zs ∧ sliceLen ov = ds.length ∧ Own 5 .u8 wr (g + 1) ov ds ∧ Digs10 n (val zs) ds ∧
        Below w.heap.size w wr ∧ g < wr.heap.size) (fun _ ou _ _ _ _ => 10 * k + 1 - sliceLen ou)
    case atStart => exact ⟨len, xs, [], _, rfl, rfl, HLX.out.symm, hl, HO1.out, ho, HNM.out, rfl, Own.nil _ _ _ _, ⟨by rw [HV.out]; simp, (fun x hx => by cases hx)⟩, HB1.out, hg1⟩
    case round =>
      obtain ⟨m, zs, ds, ov, rfl, rfl, hmz, hmk, hoz, hok, hnz, hsl, hod, hdg, hbel, hgw⟩ := hrel
      have hfew := hdg.few HX.out
      by_cases hm0 : m = 0
      · subst hm0
        have hz : zs = [] := List.length_eq_zero_iff.1 hmz.symm
        have hdn : Lib.decDigits n = ds.reverse.map UInt8.ofNat := by
          have := hdg.1
          rw [hz, val_nil, dd_zero, dd_pos hn0, List.nil_append] at this
          exact this
        have hd0 : ds ≠ [] := fun e => by
          have h1 := Lib.nDigits_pos n
          rw [← Lib.decDigits_length, hdn, e] at h1
          simp at h1
        obtain ⟨g2, cap2, rfl, hb2, hg2, hc2⟩ : ∃ g2 cap2, ov = .slice (some ⟨g2, 0, none⟩) ds.length cap2 ∧ g + 1 ≤ g2 ∧ g2 < wr.heap.size ∧ ds.length ≤ cap2 := by
          rcases hod.shape with ⟨_, e⟩ | ⟨g2, cap2, e, r1, r2, r3⟩
          · exact absurd e hd0
          · exact ⟨g2, cap2, e, r1, r2, r3⟩
        obtain ⟨L, hL⟩ : ∃ L : Nat, ds.length = L := ⟨_, rfl⟩
        obtain ⟨hf, ehf, ehf'⟩ : ∃ hf : Nat, (L : Int) / 2 = (hf : Int) ∧ hf = L / 2 := ⟨L / 2, by omega, rfl⟩
        rw [hL] at hod hfew hc2 ⊢
        have HDN := Lib.hid hdn
        have HD0 := Lib.hid hd0
        have HDG := Lib.hid hdg.2
        have HL := Lib.hid hL
        have HBE := Lib.hid hbel
        have HOD := Lib.hid hod
        have HHF := Lib.hid ehf'
        clear hdn hd0 hL hbel hod hoz hok hnz hsl hdg hmz hz ehf'
        go_wp2_with fail
        go_loopw [8] (fun ix wq => ∃ (a : Nat) (bs : List Nat), ix = .int .i64 a ∧ a ≤ hf ∧ bs.length = L ∧ (∀ j, j < L → lim bs j = if j < a ∨ L - a ≤ j then lim ds (L - 1 - j) else lim ds j) ∧ Own 5 .u8 wq (g + 1) (.slice (some ⟨g2, 0, none⟩) L cap2) bs ∧ Below w.heap.size w wq) (fun ix _ => hf - (intOf ix).toNat)
        case atStart => exact ⟨0, ds, rfl, Nat.zero_le _, HL.out, fun j hj => by rw [if_neg (by omega)], HOD.out, HBE.out⟩
        case round =>
          obtain ⟨a, bs, rfl, ha, hbl, hrv, hown, hbq⟩ := hrel
          by_cases hlt : a < hf
          · obtain ⟨p, ep, ep'⟩ : ∃ p : Nat, (L : Int) - 1 - (a : Int) = (p : Int) ∧ p = L - 1 - a := ⟨L - 1 - a, by have := HHF.out; omega, rfl⟩
            have haL : a < L := by have := HHF.out; omega
            have hpL : p < L := by omega
            have hne : a ≠ p := by have := HHF.out; omega
            have hca := hown.cell hbl.symm (i := a) haL
            have hcp := hown.cell hbl.symm (i := p) hpL
            have hfa := hown.free hbl.symm a
            have hfp := hown.free hbl.symm p
            have R := rev_step (ds := ds) hbl (by have := HHF.out; omega) hrv
            rw [← ep'] at R
            have HR := Lib.hid R
            have HO := Lib.hid ((hown.set hbl.symm a (lim bs p)).set (by rw [List.length_set, hbl]) p (lim bs a))
            have HBQ := Lib.hid (bel_set2 (b := g2) (o := a) (u := .int .u8 (lim bs p : Nat)) (b' := g2) (o' := p) (u' := .int .u8 (lim bs a : Nat)) hbq (by omega) (by omega))
            have HBL := Lib.hid hbl
            have hcp2 := World.cell?_setCell_other wr ⟨g2, a, none⟩ ⟨g2, p, none⟩ (.int .u8 (lim bs p : Nat)) (by intro e; injection e; omega)
            clear R hrv hown hbq ep' hcp2 hbl
            go_wp2_with fail
            go_big_region
            go_wp2_with fail
            exact ⟨⟨a + 1, _, by go_num, by omega, by rw [List.length_set, List.length_set, HBL.out], HR.out, HO.out, HBQ.out.drew⟩, by simp [intOf]; omega⟩
          · obtain rfl : a = hf := by omega
            have hrev := rev_end HL.out hbl (by rw [← HHF.out]; exact hrv)
            subst hrev
            have hne : ds.reverse.map UInt8.ofNat ≠ [] := fun e => HD0.out (by simpa using e)
            obtain ⟨g3, cap3, e3, hcv⟩ := ownB_text (own_bytes hown (fun x hx => HDG.out x (List.mem_reverse.1 hx))) hne
            injection e3 with e3a e3b e3c
            injection e3a with e3a
            injection e3a with e3a
            subst e3a e3c
            rw [← e3b, ← HDN.out] at hcv
            have HE := Lib.hid hbq
            clear hown hbq hrv hbl hne e3b
            go_wp2_with fail
            go_ret
            exact ⟨rfl, HE.out⟩
      · have hvz := val_pos hnz (by omega)
        have hm0' : decide ((0 : Int) < (m : Int)) = true := by rw [decide_eq_true_iff]; omega
        have HOZ := Lib.hid hoz
        have HOD := Lib.hid hod
        have HDG := Lib.hid hdg
        have HBE := Lib.hid hbel
        have HSL := Lib.hid hsl
        have HVZ := Lib.hid hvz
        have HMZ := Lib.hid hmz
        have hds2 := (hdg.step hvz rfl rfl).few HX.out
        rw [List.length_append, List.length_singleton] at hds2
        clear hoz hod hdg hbel hsl hvz hmz hnz
        go_wp2_with fail
        go_loopw [5, 6, 7] (fun qx ix _ wq => ∃ (c q : Nat) (ys : List Nat), c ≤ m ∧ ix = .int .i64 ((c : Int) - 1) ∧ qx = .int .u64 q ∧ q < 10 ∧ ys.length = zs.length ∧ Ok ys ∧ val (ys.drop c) * 10 + q = val (zs.drop c) ∧ (∀ j, j < c → lim ys j = lim zs j) ∧
            Own 146 .u32 wq w.heap.size (.slice (some ⟨g, 0, none⟩) m cap1) ys ∧ Keep (· = g) wr wq) (fun _ ix _ _ => (intOf ix + 1).toNat)
        case atStart => exact ⟨m, 0, zs, Nat.le_refl _, rfl, rfl, by decide, rfl, hok, by rw [List.drop_of_length_le (by have := HMZ.out; omega), val_nil], fun _ _ => rfl, HOZ.out, Keep.refl _ _⟩
        case round =>
          obtain ⟨c, q, ys, hc, rfl, rfl, hq, hyl, hoky, hv, hun, hown, hkeep⟩ := hrel
          have hyn : m = ys.length := by have := HMZ.out; omega
          by_cases hc0 : c = 0
          · subst hc0
            have hv0 : val ys * 10 + q = val zs := by simpa using hv
            obtain ⟨cc, ecc, ecc'⟩ : ∃ cc : Nat, (48 : Int) + (q : Int) = (cc : Int) ∧ cc = 48 + q := ⟨48 + q, by omega, rfl⟩
            have hcc : cc < 256 := by omega
            have hD2 := HDG.out.step (q := val ys) (r := cc) HVZ.out (by omega) (by omega)
            have HD2 := Lib.hid hD2
            have HOY := Lib.hid hown
            have HOD2 := Lib.hid (HOD.out.keep hkeep (fun b e => by omega))
            have HB2 := Lib.hid (HBE.out.trans (hkeep.below (B := w.heap.size) HBE.out.size (fun k e => by omega)))
            have hgq : g < wr.heap.size := by have := hkeep.size; omega
            have HYN := Lib.hid hyn
            have hfw : ds.length + 1 ≤ 10 * k + 1 := hds2
            clear hv hun hown hkeep hv0 hD2 ecc' hyl hyn
            go_wp2_with (at_builtin; go_must (refine wpList_append_one wr rfl _ _ 169 rfl (g + 1) 5 j0 .u8 1 Tryz.underlying169 hj0 hy0 hy1 hy2 _ ds (by rfl) (by exact HOD2.out) cc (by rfl) (by omega) (by omega) (by omega) ?_))
            intro ov' w3 h1 h2
            have hoy3 := HOY.out.below2 h2 (by omega)
            have HG3 := Lib.hid h1
            have HB3 := Lib.hid (HB2.out.trans (h2.mono (B' := w.heap.size) (by omega)))
            have hg3 : g < w3.heap.size := by have := h2.size; omega
            have HS3 := Lib.hid hoy3.sl
            have HO3 := Lib.hid hoy3
            have hncap : m ≤ cap1 := by
              rcases HOZ.out.shape with ⟨e, _⟩ | ⟨_, _, e, _, _, h⟩
              · cases e
              · cases e; have := HMZ.out; omega
            clear h1 h2 hoy3
            go_wp2_with fail
            refine (rtrim_at _ m cap1 ys _ HS3.out HYN.out (by omega) hncap).mono ?_
            rintro e w4 ⟨rfl, rfl⟩
            go_wp2_with fail
            have hle := trimN_le ys m
            have hyn2 : m ≤ ys.length := by have := HYN.out; omega
            have hq2 : val (ys.take (trimN ys m)) = val ys := by rw [trimN_val ys m hyn2, List.take_of_length_le (by have := HYN.out; omega)]
            have hlen : (ys.take (trimN ys m)).length = trimN ys m := by rw [List.length_take]; omega
            have hgv : sliceLen ov' = (ds ++ [cc]).length := by
              rcases HG3.out.shape with ⟨_, e⟩ | ⟨_, _, e, _⟩
              · simp at e
              · rw [e]; rfl
            have hgl' : (ds ++ [cc]).length = ds.length + 1 := by simp
            refine ⟨⟨trimN ys m, ys.take (trimN ys m), ds ++ [cc], _, rfl, rfl, hlen.symm, by omega, HO3.out.take hle, hoky.take _, trimN_norm ys m hyn2, hgv, HG3.out, by rw [hq2]; exact HD2.out, HB3.out, hg3⟩, ?_⟩
            rw [hgv, HSL.out, hgl']; omega
          · obtain ⟨i, rfl⟩ : ∃ i, c = i + 1 := ⟨c - 1, by omega⟩
            have hcell := hown.cell hyn (i := i) (by omega)
            have hf := hown.free hyn i
            rw [hun i (by omega)] at hcell
            have hlim : lim zs i < 4294967296 := lim_lt hok _
            have hor : bits BinOp.or IntKind.u64 ((q : Int) * 4294967296) ((lim zs i : Nat) : Int) = ((q * 4294967296 + lim zs i : Nat) : Int) := by
              have := or_u64 (x := q) (y := lim zs i) (s := 32) (by omega) (by omega) (by omega)
              simpa using this
            obtain ⟨t, et⟩ : ∃ t : Nat, t = q * 4294967296 + lim zs i := ⟨_, rfl⟩
            rw [← et] at hor
            obtain ⟨z, hz, ez⟩ : ∃ z : Nat, (t : Int) / 10 = (z : Int) ∧ z = t / 10 := ⟨t / 10, by omega, rfl⟩
            obtain ⟨r, hr, er⟩ : ∃ r : Nat, (t : Int) % 10 = (r : Int) ∧ r = t % 10 := ⟨t % 10, by omega, rfl⟩
            have R := step_div hyl hoky hv (fun j hj => hun j (by omega)) (by have := HMZ.out; omega) et ez er hq hlim (by decide)
            have HR := Lib.hid R
            have hz32 : z < 4294967296 := R.1
            have HO := Lib.hid (hown.set hyn i z)
            have HK := Lib.hid (hkeep.setCell (a := ⟨g, i, none⟩) rfl (.int .u32 (z : Nat)))
            have ei : ((i + 1 : Nat) : Int) - 1 = (i : Int) := by omega
            clear R et ez er hown hkeep hv hun hyl hyn
            go_wp2_with fail
            obtain ⟨r1, r2, r3, r4, r5, r6⟩ := HR.out
            exact ⟨⟨i, r, ys.set i z, by omega, by go_num, congrArg (Value.int .u64) hr, r2, r3, r4, r5, r6, HO.out, HK.out⟩, by simp [intOf]⟩

end Go.Proofs.YtfohgkabmdhhaaaGreatDoor
/- The contract of the reference's AddNat. -/
namespace Go.Proofs.YtfohgkabmdhhaaaGreatDoor
open Go.RowKit Cin

set_option maxRecDepth 100000 in
set_option maxHeartbeats 1000000 in
/-- AddNat: a and b together. -/
theorem refAdd_any (v u : Value) (x y : Nat) (L : Nat) (w : World) (h : RefV 146 w v x) (h' : RefV 146 w u y) (hx : x < pw L) (hy : y < pw L) (hL : L ≤ 100000000) :
    Calls Tryz.prog 128 #[v, u] w fun e w' => ∃ v', e = .returned v' ∧ RefV 146 w' v' (x + y) ∧ Below w.heap.size w w' := by
  obtain ⟨ad, len, cap, xs, rfl, hs, ho, hnm, rfl, hlx, hcx⟩ := h.shape
  obtain ⟨ad', len', cap', ys, rfl, hs', ho', hnm', rfl, hly, hcy⟩ := h'.shape
  obtain ⟨i0, hi0, hz0, hz1, hz2⟩ := info_parts info_u32
  have hl : len ≤ 100000000 := by have := norm_len hnm hx; omega
  have hl' : len' ≤ 100000000 := by have := norm_len hnm' hy; omega
  obtain ⟨n1, hn1, en1⟩ : ∃ n1 : Nat, (max (len : Int) (len' : Int)) + 1 = (n1 : Int) ∧ n1 = max len len' + 1 := ⟨max len len' + 1, by omega, rfl⟩
  have EN := Lib.hid (show len + 1 ≤ n1 ∧ len' + 1 ≤ n1 by omega)
  have hnb : n1 ≤ 100000001 := by omega
  have H := Lib.hid hs
  have H' := Lib.hid hs'
  have HLX := Lib.hid hlx
  have HLY := Lib.hid hly
  have HD := Lib.hid (show ∀ b' o' n' c', Value.slice ad len cap = .slice (some ⟨b', o', none⟩) n' c' → ¬ (b' = w.heap.size) from fun b' o' n' c' e => by have := hs.lt e; omega)
  have HD' := Lib.hid (show ∀ b' o' n' c', Value.slice ad' len' cap' = .slice (some ⟨b', o', none⟩) n' c' → ¬ (b' = w.heap.size) from fun b' o' n' c' e => by have := hs'.lt e; omega)
  clear hx hy h h' hs hs' hlx hly hnm hnm' en1
  go_enter Tryz.func128, Tryz.ntmps128
  go_wp2_with (at_make; refine wpList_make_ints _ rfl _ _ 37 rfl 146 i0 .u32 Tryz.underlying37 hi0 hz0 hz1 .i64 .i64 _ _ n1 n1 rfl rfl (by omega) (by omega) (Nat.le_refl _) (by rw [hz2]; omega) (by omega) ?_)
  all_goals (
    have hkW : Blk (w.alloc (Obj.cells (ints IntKind.u32 (List.replicate n1 0)) 146)) w.heap.size 146 .u32 (List.replicate n1 0) := Blk.new _ _ _ _
    have hbW := bel_alloc w (Obj.cells (ints IntKind.u32 (List.replicate n1 0)) 146)
    generalize w.alloc (Obj.cells (ints IntKind.u32 (List.replicate n1 0)) 146) = W at *
    have hszW := hkW.lt
    have HSW := Lib.hid (H.out.below hbW)
    have HLW := Lib.hid (H'.out.below hbW)
    have HBW := Lib.hid hbW
    have HKW := Lib.hid hkW
    clear hbW hkW H H'
    go_loopw [6, 7] (fun c i wr => ∃ (k q : Nat) (os : List Nat), k ≤ n1 ∧ i = .int .i64 k ∧ c = .int .u64 q ∧ q ≤ 1 ∧ os.length = k ∧ Ok os ∧ val os + pw k * q = val (xs.take k) + val (ys.take k) ∧
        Blk wr w.heap.size 146 .u32 (splice (List.replicate n1 0) 0 os) ∧ Keep (· = w.heap.size) W wr) (fun _ i _ => n1 - (intOf i).toNat)
    case atStart => exact ⟨0, 0, [], Nat.zero_le _, rfl, rfl, by omega, rfl, Ok.nil, rfl, by rw [splice_nil]; exact HKW.out, Keep.refl _ _⟩
    case round =>
      obtain ⟨k, q, os, hk, rfl, rfl, hq, hol, hok, hv, hblk, hkeep⟩ := hrel
      have HOL := Lib.hid hol
      have HV := Lib.hid hv
      have HBK := Lib.hid hblk
      have HK := Lib.hid hkeep
      have HSr := Lib.hid (HSW.out.keep HK.out HD.out)
      have HLr := Lib.hid (HLW.out.keep HK.out HD'.out)
      by_cases hlt : k < n1
      · have hcell2 := hblk.cell (i := k) (by rw [splice_length (by simp; omega)]; simp; omega)
        have hf := hblk.free k
        have hlim : lim xs k < 4294967296 := lim_lt ho _
        have hlim2 : lim ys k < 4294967296 := lim_lt ho' _
        clear hol hv hblk hkeep
        by_cases h1 : k < len
        · by_cases h2 : k < len'
          · have d1 : decide (k < len) = true := decide_eq_true h1
            have d2 : decide (k < len') = true := decide_eq_true h2
            obtain ⟨bx, offx, rfl, hcell, hblt⟩ := HSr.out.cell (i := k) (by have := HLX.out; omega)
            obtain ⟨by_, offy, rfl, hcelly, hblty⟩ := HLr.out.cell (i := k) (by have := HLY.out; omega)
            obtain ⟨t1, e1, e1'⟩ : ∃ t : Nat, (q : Int) + ((lim xs k : Nat) : Int) = (t : Int) ∧ t = q + lim xs k := ⟨_, by omega, rfl⟩
            obtain ⟨t, e2, et⟩ : ∃ t : Nat, (t1 : Int) + ((lim ys k : Nat) : Int) = (t : Int) ∧ t = q + (lim xs k + lim ys k) := ⟨q + (lim xs k + lim ys k), by omega, rfl⟩
            have ht1 : t1 ≤ 8589934591 := by omega
            have htb : t ≤ 8589934591 := by omega
            obtain ⟨td, htd, etd⟩ : ∃ td : Nat, ((t : Int) / 4294967296) = (td : Int) ∧ td = t / 4294967296 := ⟨t / 4294967296, by omega, rfl⟩
            obtain ⟨tm, htm, etm⟩ : ∃ tm : Nat, ((t : Int) % 4294967296) = (tm : Int) ∧ tm = t % 4294967296 := ⟨t % 4294967296, by omega, rfl⟩
            have hand : bits BinOp.and IntKind.u64 (t : Int) 4294967295 = (tm : Int) := by rw [and_mask32 (by omega), etm]
            have htmb : tm < 4294967296 := by omega
            have R := step_add (xs := xs) (ys := ys) (off := 0) (ys0 := List.replicate n1 0) HOL.out hok HV.out HBK.out HK.out et etd etm (by simp; omega)
            rw [Nat.zero_add] at R
            have HR := Lib.hid R
            clear R et etd etm e1'
            go_wp2_with fail
            obtain ⟨r1, r2, r3, r4, r5, r6⟩ := HR.out
            exact ⟨⟨k + 1, td, os ++ [tm], by omega, by go_num, rfl, r1, r2, r3, r4, r5, r6⟩, by simp [intOf]; omega⟩
          · have d1 : decide (k < len) = true := decide_eq_true h1
            have d2 : decide (k < len') = false := decide_eq_false h2
            have z2 : lim ys k = 0 := lim_ge (by have := HLY.out; omega)
            obtain ⟨bx, offx, rfl, hcell, hblt⟩ := HSr.out.cell (i := k) (by have := HLX.out; omega)
            obtain ⟨t, e2, et⟩ : ∃ t : Nat, (q : Int) + ((lim xs k : Nat) : Int) = (t : Int) ∧ t = q + (lim xs k + lim ys k) := ⟨q + (lim xs k + lim ys k), by omega, rfl⟩
            have htb : t ≤ 8589934591 := by omega
            obtain ⟨td, htd, etd⟩ : ∃ td : Nat, ((t : Int) / 4294967296) = (td : Int) ∧ td = t / 4294967296 := ⟨t / 4294967296, by omega, rfl⟩
            obtain ⟨tm, htm, etm⟩ : ∃ tm : Nat, ((t : Int) % 4294967296) = (tm : Int) ∧ tm = t % 4294967296 := ⟨t % 4294967296, by omega, rfl⟩
            have hand : bits BinOp.and IntKind.u64 (t : Int) 4294967295 = (tm : Int) := by rw [and_mask32 (by omega), etm]
            have htmb : tm < 4294967296 := by omega
            have R := step_add (xs := xs) (ys := ys) (off := 0) (ys0 := List.replicate n1 0) HOL.out hok HV.out HBK.out HK.out et etd etm (by simp; omega)
            rw [Nat.zero_add] at R
            have HR := Lib.hid R
            clear R et etd etm z2 h2 hi0 hz0 hz1 hz2
            go_wp2_with fail
            obtain ⟨r1, r2, r3, r4, r5, r6⟩ := HR.out
            exact ⟨⟨k + 1, td, os ++ [tm], by omega, by go_num, rfl, r1, r2, r3, r4, r5, r6⟩, by simp [intOf]; omega⟩
        · have z1 : lim xs k = 0 := lim_ge (by have := HLX.out; omega)
          have d1 : decide (k < len) = false := decide_eq_false h1
          by_cases h2 : k < len'
          · have d2 : decide (k < len') = true := decide_eq_true h2
            obtain ⟨by_, offy, rfl, hcelly, hblty⟩ := HLr.out.cell (i := k) (by have := HLY.out; omega)
            obtain ⟨t, e2, et⟩ : ∃ t : Nat, (q : Int) + ((lim ys k : Nat) : Int) = (t : Int) ∧ t = q + (lim xs k + lim ys k) := ⟨q + (lim xs k + lim ys k), by omega, rfl⟩
            have htb : t ≤ 8589934591 := by omega
            obtain ⟨td, htd, etd⟩ : ∃ td : Nat, ((t : Int) / 4294967296) = (td : Int) ∧ td = t / 4294967296 := ⟨t / 4294967296, by omega, rfl⟩
            obtain ⟨tm, htm, etm⟩ : ∃ tm : Nat, ((t : Int) % 4294967296) = (tm : Int) ∧ tm = t % 4294967296 := ⟨t % 4294967296, by omega, rfl⟩
            have hand : bits BinOp.and IntKind.u64 (t : Int) 4294967295 = (tm : Int) := by rw [and_mask32 (by omega), etm]
            have htmb : tm < 4294967296 := by omega
            have R := step_add (xs := xs) (ys := ys) (off := 0) (ys0 := List.replicate n1 0) HOL.out hok HV.out HBK.out HK.out et etd etm (by simp; omega)
            rw [Nat.zero_add] at R
            have HR := Lib.hid R
            clear R et etd etm z1 h1 hi0 hz0 hz1 hz2
            go_wp2_with fail
            obtain ⟨r1, r2, r3, r4, r5, r6⟩ := HR.out
            exact ⟨⟨k + 1, td, os ++ [tm], by omega, by go_num, rfl, r1, r2, r3, r4, r5, r6⟩, by simp [intOf]; omega⟩
          · have d2 : decide (k < len') = false := decide_eq_false h2
            have z2 : lim ys k = 0 := lim_ge (by have := HLY.out; omega)
            obtain ⟨t, e2, et⟩ : ∃ t : Nat, t = q ∧ t = q + (lim xs k + lim ys k) := ⟨q, rfl, by omega⟩
            subst e2
            have htb : t ≤ 8589934591 := by omega
            obtain ⟨td, htd, etd⟩ : ∃ td : Nat, ((t : Int) / 4294967296) = (td : Int) ∧ td = t / 4294967296 := ⟨t / 4294967296, by omega, rfl⟩
            obtain ⟨tm, htm, etm⟩ : ∃ tm : Nat, ((t : Int) % 4294967296) = (tm : Int) ∧ tm = t % 4294967296 := ⟨t % 4294967296, by omega, rfl⟩
            have hand : bits BinOp.and IntKind.u64 (t : Int) 4294967295 = (tm : Int) := by rw [and_mask32 (by omega), etm]
            have htmb : tm < 4294967296 := by omega
            have R := step_add (xs := xs) (ys := ys) (off := 0) (ys0 := List.replicate n1 0) HOL.out hok HV.out HBK.out HK.out et etd etm (by simp; omega)
            rw [Nat.zero_add] at R
            have HR := Lib.hid R
            clear R et etd etm z1 z2
            go_wp2_with fail
            obtain ⟨r1, r2, r3, r4, r5, r6⟩ := HR.out
            exact ⟨⟨k + 1, td, os ++ [tm], by omega, by go_num, rfl, r1, r2, r3, r4, r5, r6⟩, by simp [intOf]; omega⟩
      · obtain rfl : k = n1 := by omega
        have hos : splice (List.replicate k 0) 0 os = os := splice_zeros_all HOL.out
        have hb2 := HBK.out
        rw [hos] at hb2
        have hsl := Sl.of_blk hb2
        rw [HOL.out] at hsl
        have hle : val xs + val ys < pw k := by
          have a1 := val_lt ho
          have a2 := val_lt ho'
          rw [HLX.out] at a1
          rw [HLY.out] at a2
          obtain ⟨m, rfl⟩ : ∃ m, k = m + 1 := ⟨k - 1, by have := EN.out; omega⟩
          exact lt_pw_add (lt_pw_mono a1 (by have := EN.out; omega)) (lt_pw_mono a2 (by have := EN.out; omega))
        have hval : val os = val xs + val ys := by
          have e := HV.out
          rw [List.take_of_length_le (by have := HLX.out; have := EN.out; omega), List.take_of_length_le (by have := HLY.out; have := EN.out; omega)] at e
          rcases Nat.eq_zero_or_pos q with h0 | h0
          · rw [h0] at e; simpa using e
          · have : pw k * 1 ≤ pw k * q := Nat.mul_le_mul_left _ h0
            omega
        have HSL := Lib.hid hsl
        have HV2 := Lib.hid hval
        have HB2 := Lib.hid (HBW.out.trans (HK.out.below (B := w.heap.size) (by omega) (fun j hj => by omega)))
        clear hos hb2 hsl hle hval hblk hkeep hol hv
        go_wp2_with fail
        refine (rtrim_any _ os _ HSL.out hok (by rw [HOL.out]; omega)).mono ?_
        rintro e w2 ⟨v', rfl, hr2, rfl⟩
        have HR2 := Lib.hid hr2
        clear hr2
        go_wp2_with fail
        go_ret
        exact ⟨_, rfl, by have := HR2.out; rw [HV2.out] at this; exact this, HB2.out⟩)

end Go.Proofs.YtfohgkabmdhhaaaGreatDoor
/- The contract of the reference's CmpNat. -/
namespace Go.Proofs.YtfohgkabmdhhaaaGreatDoor
open Go.RowKit Cin

set_option maxRecDepth 100000 in
set_option maxHeartbeats 1000000 in
theorem refCmp_any (v u : Value) (x y : Nat) (L : Nat) (w : World) (h : RefV 146 w v x) (h' : RefV 146 w u y) (hx : x < pw L) (hy : y < pw L) (hL : L ≤ 100000000) :
    Calls Tryz.prog 111 #[v, u] w fun e w' => e = .returned (.int .i64 (cmpI x y)) ∧ ∃ nq, w' = w.drewN nq := by
  obtain ⟨ad, len, cap, xs, rfl, hs, ho, hnm, rfl, hlx, hcx⟩ := h.shape
  obtain ⟨ad', len', cap', ys, rfl, hs', ho', hnm', rfl, hly, hcy⟩ := h'.shape
  have hl : len ≤ 100000000 := by have := norm_len hnm hx; omega
  have hl' : len' ≤ 100000000 := by have := norm_len hnm' hy; omega
  clear hx hy h h'
  by_cases hll : len = len'
  · subst hll
    have hcmp : ((len : Int) != (len : Int)) = false := by simp
    have hlt : ∀ k, k < len → (∀ j, k < j → j < len → lim xs j = lim ys j) → lim xs k < lim ys k → cmpI (val xs) (val ys) = -1 := fun k hk hj hlt => by
      have := val_lt_of_top ho (by omega) (i := k) (by omega) (fun j h1 h2 => hj j h1 (by omega)) hlt
      unfold cmpI; rw [if_pos this]
    have hgt : ∀ k, k < len → (∀ j, k < j → j < len → lim xs j = lim ys j) → lim ys k < lim xs k → cmpI (val xs) (val ys) = 1 := fun k hk hj hlt => by
      have := val_lt_of_top ho' (by omega) (i := k) (by omega) (fun j h1 h2 => (hj j h1 (by omega)).symm) hlt
      unfold cmpI; rw [if_neg (by omega), if_pos this]
    have heq : (∀ j, j < len → lim xs j = lim ys j) → cmpI (val xs) (val ys) = 0 := fun hj => by
      have : xs = ys := ext_lim (by omega) (fun i hi => hj i (by omega))
      rw [this]; unfold cmpI; rw [if_neg (by omega), if_neg (by omega)]
    have HLT := Lib.hid hlt
    have HGT := Lib.hid hgt
    have HEQ := Lib.hid heq
    have H := Lib.hid hs
    have H' := Lib.hid hs'
    have HLX := Lib.hid hlx
    have HLY := Lib.hid hly
    clear hlt hgt heq hs hs' hlx hly hnm hnm'
    go_enter Tryz.func111, Tryz.ntmps111
    go_wp2_with fail
    go_loopw [5] (fun i wr => ∃ nq, wr = w.drewN nq ∧ ((i = .int .i64 (-1) ∧ ∀ j, j < len → lim xs j = lim ys j) ∨ ∃ k : Nat, k < len ∧ i = .int .i64 k ∧ ∀ j, k < j → j < len → lim xs j = lim ys j)) (fun i _ => (intOf i + 1).toNat)
    case atStart =>
      refine ⟨0, rfl, ?_⟩
      rcases Nat.eq_zero_or_pos len with h0 | h0
      · subst h0; exact .inl ⟨rfl, fun j hj => absurd hj (Nat.not_lt_zero _)⟩
      · exact .inr ⟨len - 1, by omega, congrArg (Value.int IntKind.i64) (by omega), fun j h1 h2 => by omega⟩
    case round =>
      obtain ⟨nq, rfl, h | ⟨k, hk, rfl, hj⟩⟩ := hrel
      · obtain ⟨rfl, hj⟩ := h
        have HJ := Lib.hid hj
        clear hj
        go_wp2
        go_ret
        exact ⟨ret_int (HEQ.out HJ.out).symm, _, rfl⟩
      · have HJ := Lib.hid hj
        clear hj
        obtain ⟨b, off, rfl, hcell, hblt⟩ := H.out.cell (i := k) (by have := HLX.out; omega)
        obtain ⟨b', off', rfl, hcell', hblt'⟩ := H'.out.cell (i := k) (by have := HLY.out; omega)
        rcases Nat.lt_trichotomy (lim xs k) (lim ys k) with hlt | hne | hlt
        · have hdec : decide (lim xs k < lim ys k) = true := by simpa using hlt
          go_wp2_with fail
          go_quiet (fail)
          go_wp2_with fail
          go_ret
          exact ⟨ret_int (HLT.out k hk HJ.out hlt).symm, _, by simp only [World.drewN_drewN]; rfl⟩
        · have hdec : decide (lim xs k < lim ys k) = false := by simp; omega
          have hdec2 : decide (lim ys k < lim xs k) = false := by simp; omega
          have HNE := Lib.hid hne
          clear hne
          go_wp2_with fail
          go_quiet (fail)
          go_wp2_with fail
          go_quiet (fail)
          go_wp2_with fail
          refine ⟨⟨_, rfl, ?_⟩, by simp only [intOf]; omega⟩
          have hstep : ∀ j, k ≤ j → j < len → lim xs j = lim ys j := fun j h1 h2 => by
            rcases Nat.eq_or_lt_of_le h1 with rfl | h1
            · exact HNE.out
            · exact HJ.out j h1 h2
          rcases Nat.eq_zero_or_pos k with h0 | h0
          · subst h0; exact .inl ⟨rfl, fun j hj => hstep j (Nat.zero_le _) hj⟩
          · exact .inr ⟨k - 1, by omega, congrArg (Value.int IntKind.i64) (by omega), fun j h1 h2 => hstep j (by omega) h2⟩
        · have hdec : decide (lim xs k < lim ys k) = false := by simp; omega
          have hdec2 : decide (lim ys k < lim xs k) = true := by simpa using hlt
          go_wp2_with fail
          go_quiet (fail)
          go_wp2_with fail
          go_quiet (fail)
          go_wp2_with fail
          go_ret
          exact ⟨ret_int (HGT.out k hk HJ.out hlt).symm, _, by simp only [World.drewN_drewN]; rfl⟩
  · have hcmp : ((len : Int) != (len' : Int)) = true := by simp; omega
    rcases Nat.lt_or_gt_of_ne hll with hlt | hlt
    · have he : cmpI (val xs) (val ys) = -1 := by
        have := val_lt_of_len ho hnm' (by omega)
        unfold cmpI; rw [if_pos this]
      have HE := Lib.hid he
      have hdec : decide (len < len') = true := by simpa using hlt
      clear he hs hs' hlx hly hnm hnm' hll
      go_enter Tryz.func111, Tryz.ntmps111
      go_wp2_with fail
      go_ret
      exact ⟨ret_int HE.out.symm, 0, rfl⟩
    · have he : cmpI (val xs) (val ys) = 1 := by
        have := val_lt_of_len ho' hnm (by omega)
        unfold cmpI; rw [if_neg (by omega), if_pos this]
      have HE := Lib.hid he
      have hdec : decide (len < len') = false := by simp; omega
      clear he hs hs' hlx hly hnm hnm' hll
      go_enter Tryz.func111, Tryz.ntmps111
      go_wp2_with fail
      go_ret
      exact ⟨ret_int HE.out.symm, 0, rfl⟩

end Go.Proofs.YtfohgkabmdhhaaaGreatDoor
