/- The contract of nat's apply: the steps gone with the numbers themselves. -/
import Derived.Test.YtfohgkabmdhhaaaGreatDoorYl
import Derived.Test.YtfohgkabmdhhaaaGreatDoorYk
import Derived.Test.YtfohgkabmdhhaaaGreatDoorYa
namespace Cin
open Go Go.RowKit
section
variable {t : TypeId} {k : IntKind} {w w' : World} {base : Nat} {v : Value} {xs : List Nat}
theorem Own.other {g n cap g' : Nat} (h : Own t k w base (.slice (some ⟨g, 0, none⟩) n cap) xs) (hne : g ≠ g') (i : Nat) (u : Value) : Own t k (w.setCell ⟨g', i, none⟩ u) base (.slice (some ⟨g, 0, none⟩) n cap) xs := by
  refine ⟨h.1, ?_⟩
  rcases h.2 with ⟨e, _⟩ | ⟨g1, c1, cur, e, hbg, hg, r⟩
  · cases e
  · cases e
    exact .inr ⟨_, _, cur, rfl, hbg, by rw [Below.heap_setCell _ _ _ _ (show g ≠ g' from hne)]; exact hg, r⟩
theorem Own.base_le {B : Nat} (h : Own t k w base v xs) (hB : B ≤ base) : Own t k w B v xs := by
  refine ⟨h.1, ?_⟩
  rcases h.2 with h2 | ⟨g, cap, cur, rfl, hbg, r⟩
  · exact .inl h2
  · exact .inr ⟨g, cap, cur, rfl, Nat.le_trans hB hbg, r⟩
theorem Own.some_base {g n cap : Nat} (h : Own t k w base (.slice (some ⟨g, 0, none⟩) n cap) xs) : base ≤ g ∧ g < w.heap.size ∧ n ≤ cap ∧ n = xs.length := by
  rcases h.shape with ⟨e, _⟩ | ⟨g1, c1, e, h1, h2, h3⟩
  · cases e
  · cases e; exact ⟨h1, h2, h3, rfl⟩
end
theorem set_mid {os xs : List Nat} {i : Nat} (ho : os.length = i) (hi : i < xs.length) (o : Nat) : (os ++ xs.drop i).set i o = (os ++ [o]) ++ xs.drop (i + 1) := by
  rw [List.set_append_right _ _ (by omega), ho, Nat.sub_self, List.drop_eq_getElem_cons hi, List.set_cons_zero, List.append_assoc]; rfl
theorem lim_mid {os xs : List Nat} {i : Nat} (ho : os.length = i) : lim (os ++ xs.drop i) i = lim xs i := by
  rw [lim_append_right (by omega), ho, Nat.sub_self, lim_drop, Nat.add_zero]
theorem apply_step {xs ys os : List Nat} {i o : Nat} {a b S S1 S' : Int} (ho : os.length = i) (hv : (val os : Int) + (pw i : Int) * S = a * (val (xs.take i) : Int) + b * (val (ys.take i) : Int)) (e1 : S1 = S + (a * (lim xs i : Int) + b * (lim ys i : Int))) (e2 : S1 = (o : Int) + 4294967296 * S') :
    (val (os ++ [o]) : Int) + (pw (i + 1) : Int) * S' = a * (val (xs.take (i + 1)) : Int) + b * (val (ys.take (i + 1)) : Int) := by
  rw [val_snoc, ho, val_take_step, val_take_step, pw_succ]
  simp only [Int.natCast_add, Int.natCast_mul, Int.mul_add]
  have h1 : (pw i : Int) * S1 = (pw i : Int) * S + ((pw i : Int) * (a * (lim xs i : Int)) + (pw i : Int) * (b * (lim ys i : Int))) := by rw [e1, Int.mul_add, Int.mul_add]
  have h2 : (pw i : Int) * S1 = (pw i : Int) * (o : Int) + (pw i : Int) * (4294967296 * S') := by rw [e2, Int.mul_add]
  rw [Int.mul_left_comm a, Int.mul_left_comm b]
  have h3 : ((4294967296 : Nat) : Int) * (pw i : Int) * S' = (pw i : Int) * (4294967296 * S') := by rw [Int.mul_comm ((4294967296 : Nat) : Int), Int.mul_assoc]; rfl
  have h4 : (pw i : Int) * ((4294967296 : Nat) : Int) * S' = (pw i : Int) * (4294967296 * S') := by rw [Int.mul_assoc]; rfl
  omega
theorem word_bound {a b : Int} {x y : Nat} (ha : -2147483648 < a ∧ a < 2147483648) (hb : -2147483648 < b ∧ b < 2147483648) (hs : 0 ≤ a ∧ b ≤ 0 ∨ a ≤ 0 ∧ 0 ≤ b) (hx : x < 4294967296) (hy : y < 4294967296) :
    ∃ p q : Int, a * (x : Int) = p ∧ b * (y : Int) = q ∧ -9223372030412324865 ≤ p ∧ p ≤ 9223372030412324865 ∧ -9223372030412324865 ≤ q ∧ q ≤ 9223372030412324865 ∧ -9223372030412324865 ≤ p + q ∧ p + q ≤ 9223372030412324865 := by
  have k : ∀ z : Int, ∀ n : Nat, n < 4294967296 → 0 ≤ z → z < 2147483648 → 0 ≤ z * (n : Int) ∧ z * (n : Int) ≤ 9223372030412324865 := fun z n hn h0 h1 => by
    have h2 : z * (n : Int) ≤ 2147483647 * 4294967295 := Int.mul_le_mul (by omega) (by omega) (by omega) (by decide)
    exact ⟨Int.mul_nonneg h0 (by omega), by omega⟩
  refine ⟨_, _, rfl, rfl, ?_⟩
  rcases hs with ⟨h1, h2⟩ | ⟨h1, h2⟩
  · have := k a x hx h1 ha.2
    have := k (-b) y hy (by omega) (by omega)
    rw [Int.neg_mul] at this
    omega
  · have := k (-a) x hx (by omega) (by omega)
    have := k b y hy h2 hb.2
    rw [Int.neg_mul] at *
    omega
theorem eq_of_mod {P o U k : Int} (h0 : 0 ≤ o) (h1 : o < P) (h2 : 0 ≤ U) (h3 : U < P) (e : o + P * k = U) : o = U := by
  rcases Int.lt_trichotomy k 0 with h | h | h
  · have : P * k ≤ P * (-1) := Int.mul_le_mul_of_nonneg_left (by omega) (by omega)
    omega
  · subst h; omega
  · have : P * 1 ≤ P * k := Int.mul_le_mul_of_nonneg_left (by omega) (by omega)
    omega
theorem apply_end {xs ys os : List Nat} {n : Nat} {a b S : Int} (ho : os.length = n) (hok : Ok os) (hx : n ≤ xs.length) (hy : ys.length = n) (hv : (val os : Int) + (pw n : Int) * S = a * (val (xs.take n) : Int) + b * (val (ys.take n) : Int))
    (h0 : 0 ≤ a * (val xs : Int) + b * (val ys : Int)) (h1 : a * (val xs : Int) + b * (val ys : Int) < (pw n : Int)) : (val os : Int) = a * (val xs : Int) + b * (val ys : Int) := by
  have h2 := val_lt hok
  rw [ho] at h2
  have h3 := val_split xs n hx
  rw [List.take_of_length_le (l := ys) (by omega)] at hv
  refine eq_of_mod (P := (pw n : Int)) (k := S + a * (val (xs.drop n) : Int)) (by omega) (by omega) h0 h1 ?_
  rw [h3, Int.natCast_add, Int.natCast_mul, Int.mul_add, Int.mul_add, Int.mul_left_comm a]
  omega
def ApplyPost (a b c d : Int) (t : TypeId) (gx cx gy cy : Nat) (xs ys : List Nat) (base : Nat) (w : World) (e : Ending) (w' : World) : Prop :=
  ∃ (n m : Nat) (xs' ys' : List Nat), e = .returned (.tuple #[.slice (some ⟨gx, 0, none⟩) n cx, .slice (some ⟨gy, 0, none⟩) m cy]) ∧ Own t .u32 w' base (.slice (some ⟨gx, 0, none⟩) n cx) xs' ∧ Own t .u32 w' base (.slice (some ⟨gy, 0, none⟩) m cy) ys' ∧
    Ok xs' ∧ Ok ys' ∧ Norm xs' ∧ Norm ys' ∧ (val xs' : Int) = a * (val xs : Int) + b * (val ys : Int) ∧ (val ys' : Int) = c * (val xs : Int) + d * (val ys : Int) ∧ Below base w w'
def ApplyRel (a b c d : Int) (t tf : TypeId) (gx cx gy cy F : Nat) (zs ys : List Nat) (base : Nat) (w : World) (g : Nat) (s1 s2 ix : Value) (wr : World) : Prop :=
  ∃ (i : Nat) (S T : Int) (os ps : List Nat), i + g = ys.length ∧ ix = .int .i64 i ∧ s1 = .int .i64 S ∧ s2 = .int .i64 T ∧ os.length = i ∧ ps.length = i ∧ Ok os ∧ Ok ps ∧
    (val os : Int) + (pw i : Int) * S = a * (val (zs.take i) : Int) + b * (val (ys.take i) : Int) ∧ (val ps : Int) + (pw i : Int) * T = c * (val (zs.take i) : Int) + d * (val (ys.take i) : Int) ∧
    (-2147483648 ≤ S ∧ S < 2147483648) ∧ (-2147483648 ≤ T ∧ T < 2147483648) ∧
    Own t .u32 wr base (.slice (some ⟨gx, 0, none⟩) ys.length cx) (os ++ zs.drop i) ∧ Own t .u32 wr base (.slice (some ⟨gy, 0, none⟩) ys.length cy) (ps ++ ys.drop i) ∧
    Four wr F tf (.int .i64 a) (.int .i64 b) (.int .i64 c) (.int .i64 d) ∧ Below base w wr
end Cin
namespace Go.Proofs.YtfohgkabmdhhaaaGreatDoor
open Go.RowKit Cin
set_option maxRecDepth 100000 in
set_option maxHeartbeats 4000000 in
theorem apply_any (a b c d : Int) (gx lx cx gy ly cy : Nat) (xs ys : List Nat) (base : Nat) (w : World) (hx : Own 146 .u32 w base (.slice (some ⟨gx, 0, none⟩) lx cx) xs) (hy : Own 146 .u32 w base (.slice (some ⟨gy, 0, none⟩) ly cy) ys) (hne : gx ≠ gy) (okx : Ok xs) (oky : Ok ys) (hle : ly ≤ lx) (hb : ly ≤ 10000000)
    (hf : -2147483648 < a ∧ a < 2147483648 ∧ -2147483648 < b ∧ b < 2147483648 ∧ -2147483648 < c ∧ c < 2147483648 ∧ -2147483648 < d ∧ d < 2147483648) (hsg : 0 ≤ a ∧ b ≤ 0 ∧ c ≤ 0 ∧ 0 ≤ d ∨ a ≤ 0 ∧ 0 ≤ b ∧ 0 ≤ c ∧ d ≤ 0)
    (hU0 : 0 ≤ a * (val xs : Int) + b * (val ys : Int)) (hU1 : a * (val xs : Int) + b * (val ys : Int) < (pw ly : Int)) (hV0 : 0 ≤ c * (val xs : Int) + d * (val ys : Int)) (hV1 : c * (val xs : Int) + d * (val ys : Int) < (pw ly : Int)) :
    Calls Tryz.prog 163 #[.agg #[.int .i64 a, .int .i64 b, .int .i64 c, .int .i64 d], .slice (some ⟨gx, 0, none⟩) lx cx, .slice (some ⟨gy, 0, none⟩) ly cy] w (ApplyPost a b c d 146 gx cx gy cy xs ys base w) := by
  obtain ⟨hgx, hgx2, hlc, hlx⟩ := hx.some_base
  obtain ⟨hgy, hgy2, hlcy, hly⟩ := hy.some_base
  have HX := Lib.hid (hx.take (m := ly) hle)
  have HY := Lib.hid hy
  have HU := Lib.hid (And.intro hU0 hU1)
  have HV := Lib.hid (And.intro hV0 hV1)
  have HLX := Lib.hid (show ly ≤ xs.length by omega)
  obtain ⟨zs, hzs⟩ : ∃ zs, xs.take ly = zs := ⟨_, rfl⟩
  rw [hzs] at HX
  have hzl : zs.length = ly := by rw [← hzs, List.length_take]; omega
  have okz : Ok zs := by rw [← hzs]; exact okx.take _
  have HZ := Lib.hid hzs
  have hcx : ly ≤ cx := by omega
  subst hly
  clear hx hy hU0 hU1 hV0 hV1 hzs hlx
  go_enter Tryz.func163, Tryz.ntmps163
  go_wp2_with fail
  have HF0 := Lib.hid (show Four (w.alloc (Obj.cells #[Value.int IntKind.i64 a, Value.int IntKind.i64 b, Value.int IntKind.i64 c, Value.int IntKind.i64 d] 178)) w.heap.size 178 (.int .i64 a) (.int .i64 b) (.int .i64 c) (.int .i64 d) from new_block _ _)
  have hbA := bel_alloc w (Obj.cells #[Value.int IntKind.i64 a, Value.int IntKind.i64 b, Value.int IntKind.i64 c, Value.int IntKind.i64 d] 178)
  have HXA := Lib.hid (HX.out.below hbA)
  have HYA := Lib.hid (HY.out.below hbA)
  have HBA := Lib.hid (show Below base w _ from hbA.mono (by omega))
  clear hbA
  generalize w.alloc (Obj.cells #[Value.int IntKind.i64 a, Value.int IntKind.i64 b, Value.int IntKind.i64 c, Value.int IntKind.i64 d] 178) = W at *
  go_loopg [8, 9, 10, 11, 12, 19] ys.length (fun g s1 s2 _ _ _ ix wr => ApplyRel a b c d 146 178 gx cx gy cy w.heap.size zs ys base w g s1 s2 ix wr)
  case atStart => exact ⟨0, 0, 0, [], [], by omega, rfl, rfl, rfl, rfl, rfl, Ok.nil, Ok.nil, by simp [val_nil], by simp [val_nil], by decide, by decide, by simpa using HXA.out, by simpa using HYA.out, HF0.out, HBA.out⟩
  case round =>
    obtain ⟨i, S, T, os, ps, hi, rfl, rfl, rfl, hol, hpl, hok, hpk, hv1, hv2, hS, hT, hox, hoy, hF, hbel⟩ := hrel
    have HV1 := Lib.hid hv1
    have HV2 := Lib.hid hv2
    have HOX := Lib.hid hox
    have HOY := Lib.hid hoy
    have HF := Lib.hid hF
    have HBE := Lib.hid hbel
    clear hv1 hv2 hox hoy hF hbel HXA HYA HBA HF0
    by_cases hlt : i < ys.length
    · have hlenx : (os ++ zs.drop i).length = ys.length := by rw [List.length_append, List.length_drop]; omega
      have hleny : (ps ++ ys.drop i).length = ys.length := by rw [List.length_append, List.length_drop]; omega
      have hcX := HOX.out.cell hlenx.symm hlt
      have hcY := HOY.out.cell hleny.symm hlt
      rw [lim_mid hol] at hcX
      rw [lim_mid hpl] at hcY
      have hfX := HOX.out.free hlenx.symm i
      have hfY := HOY.out.free hleny.symm i
      have hx32 := lim_lt okz i
      have hy32 := lim_lt oky i
      obtain ⟨p1, q1, ep1, eq1, hp1⟩ := word_bound (a := a) (b := b) (x := lim zs i) (y := lim ys i) (by omega) (by omega) (by omega) hx32 hy32
      obtain ⟨p2, q2, ep2, eq2, hp2⟩ := word_bound (a := c) (b := d) (x := lim zs i) (y := lim ys i) (by omega) (by omega) (by omega) hx32 hy32
      obtain ⟨S1, eS1⟩ : ∃ S1, S + (p1 + q1) = S1 := ⟨_, rfl⟩
      obtain ⟨T1, eT1⟩ : ∃ T1, T + (p2 + q2) = T1 := ⟨_, rfl⟩
      obtain ⟨o1, ho1, ho1b⟩ : ∃ o : Nat, S1 % 4294967296 = (o : Int) ∧ o < 4294967296 := ⟨(S1 % 4294967296).toNat, by omega, by omega⟩
      obtain ⟨o2, ho2, ho2b⟩ : ∃ o : Nat, T1 % 4294967296 = (o : Int) ∧ o < 4294967296 := ⟨(T1 % 4294967296).toNat, by omega, by omega⟩
      obtain ⟨S2, hS2⟩ : ∃ z, S1 / 4294967296 = z := ⟨_, rfl⟩
      obtain ⟨T2, hT2⟩ : ∃ z, T1 / 4294967296 = z := ⟨_, rfl⟩
      have HN1 := Lib.hid (apply_step hol HV1.out (S1 := S1) (by rw [ep1, eq1, eS1]) (o := o1) (S' := S2) (by omega))
      have HN2 := Lib.hid (apply_step hpl HV2.out (S1 := T1) (by rw [ep2, eq2, eT1]) (o := o2) (S' := T2) (by omega))
      have w1 : IntKind.i64.wrap (a * ((lim zs i : Nat) : Int)) = p1 := by rw [ep1, IntWalk.i64_in _ (by omega)]
      have w2 : IntKind.i64.wrap (b * ((lim ys i : Nat) : Int)) = q1 := by rw [eq1, IntWalk.i64_in _ (by omega)]
      have w3 : IntKind.i64.wrap (c * ((lim zs i : Nat) : Int)) = p2 := by rw [ep2, IntWalk.i64_in _ (by omega)]
      have w4 : IntKind.i64.wrap (d * ((lim ys i : Nat) : Int)) = q2 := by rw [eq2, IntWalk.i64_in _ (by omega)]
      have w5 : IntKind.i64.wrap (p1 + q1) = p1 + q1 := IntWalk.i64_in _ (by omega)
      have w6 : IntKind.i64.wrap (p2 + q2) = p2 + q2 := IntWalk.i64_in _ (by omega)
      have w7 : IntKind.i64.wrap (S + (p1 + q1)) = S1 := by rw [eS1, IntWalk.i64_in _ (by omega)]
      have w8 : IntKind.i64.wrap (T + (p2 + q2)) = T1 := by rw [eT1, IntWalk.i64_in _ (by omega)]
      have u1 : IntKind.u32.wrap S1 = (o1 : Int) := by rw [IntKind.wrap_u32, ho1]
      have u2 : IntKind.u32.wrap T1 = (o2 : Int) := by rw [IntKind.wrap_u32, ho2]
      have hS2b : -2147483648 ≤ S2 ∧ S2 < 2147483648 := by omega
      have hT2b : -2147483648 ≤ T2 ∧ T2 < 2147483648 := by omega
      have HOX2 := Lib.hid (by have h := (HOX.out.set hlenx.symm i o1).other hne i (.int .u32 (o2 : Nat)); rw [set_mid hol (by omega)] at h; exact h)
      have HOY2 := Lib.hid (by have h := (HOY.out.other (Ne.symm hne) i (.int .u32 (o1 : Nat))).set hleny.symm i o2; rw [set_mid hpl hlt] at h; exact h)
      have hFx : w.heap.size ≠ gx := by omega
      have hFy : w.heap.size ≠ gy := by omega
      obtain ⟨hf0, hf1, hf2, hf3⟩ := HF.out.cells
      have HF2 := Lib.hid (show Four ((wr.setCell ⟨gx, i, none⟩ (.int .u32 (o1 : Nat))).setCell ⟨gy, i, none⟩ (.int .u32 (o2 : Nat))) w.heap.size 178 (.int .i64 a) (.int .i64 b) (.int .i64 c) (.int .i64 d) from by
        unfold Four; rw [Below.heap_setCell _ _ _ _ (show w.heap.size ≠ gy from hFy), Below.heap_setCell _ _ _ _ (show w.heap.size ≠ gx from hFx)]; exact HF.out)
      have HBE2 := Lib.hid (bel_set2 (b := gx) (o := i) (u := .int .u32 (o1 : Nat)) (b' := gy) (o' := i) (u' := .int .u32 (o2 : Nat)) HBE.out hgx hgy)
      have HI := Lib.hid hi
      generalize lim zs i = xi at *
      generalize lim ys i = yi at *
      clear hi ep1 eq1 ep2 eq2 eS1 eT1 ho1 ho2 hlenx hleny hp1 hp2
      go_wp2_with fail
      go_big_region
      go_wp2_with fail
      go_roundg (gk - 1)
      case measure => have := HI.out; omega
      case rel => exact ⟨i + 1, S2, T2, os ++ [o1], ps ++ [o2], by have := HI.out; omega, by go_num, rfl, rfl, by simp; exact hol, by simp; exact hpl, hok.append (Ok.cons ho1b Ok.nil), hpk.append (Ok.cons ho2b Ok.nil), HN1.out, HN2.out, hS2b, hT2b, HOX2.out, HOY2.out, HF2.out, HBE2.out.drew⟩
    · obtain rfl : i = ys.length := by omega
      have hox := HOX.out
      have hoy := HOY.out
      rw [List.drop_of_length_le (by omega), List.append_nil] at hox
      rw [List.drop_of_length_le (Nat.le_refl _), List.append_nil] at hoy
      have hv1 := HV1.out
      have hv2 := HV2.out
      rw [show zs.take ys.length = xs.take ys.length by rw [← HZ.out, List.take_take, Nat.min_self]] at hv1 hv2
      have E1 := Lib.hid (apply_end hol hok HLX.out rfl hv1 HU.out.1 HU.out.2)
      have E2 := Lib.hid (apply_end hpl hpk HLX.out rfl hv2 HV.out.1 HV.out.2)
      have HO1 := Lib.hid hox
      have HO2 := Lib.hid hoy
      clear hox hoy hv1 hv2 HV1 HV2 HOX HOY
      go_wp2_with fail
      refine (trim_at _ _ cx os _ HO1.out.sl hol.symm (by omega) (by omega)).mono ?_
      rintro e w2 ⟨rfl, rfl⟩
      go_wp2_with fail
      refine (trim_at _ _ cy ps _ HO2.out.sl hpl.symm (by omega) (by omega)).mono ?_
      rintro e w3 ⟨rfl, rfl⟩
      go_wp2_with fail
      go_ret2
      exact ⟨_, _, os.take (trimN os ys.length), ps.take (trimN ps ys.length), rfl, HO1.out.take (trimN_le _ _), HO2.out.take (trimN_le _ _), hok.take _, hpk.take _, trimN_norm os _ (by omega), trimN_norm ps _ (by omega),
        by rw [trimN_val _ _ (by omega), List.take_of_length_le (by omega)]; exact E1.out, by rw [trimN_val _ _ (by omega), List.take_of_length_le (by omega)]; exact E2.out, HBE.out⟩
end Go.Proofs.YtfohgkabmdhhaaaGreatDoor
