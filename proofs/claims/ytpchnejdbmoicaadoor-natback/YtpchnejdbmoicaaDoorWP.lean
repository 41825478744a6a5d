/- Contracts of nat's groupValue, timesAndMore. -/
import Derived.Test.YtpchnejdbmoicaaDoorW7
import Derived.Test.YtpchnejdbmoicaaDoorOwn
namespace Go.Proofs.YtpchnejdbmoicaaDoor
open Go.RowKit Cin

theorem step_times {xs zs : List Nat} {k q by_ more t td tm : Nat} (hl : zs.length = xs.length) (hok : Ok zs) (hv : val (zs.take k) + pw k * q = val (xs.take k) * by_ + more) (hun : ∀ j, k ≤ j → lim zs j = lim xs j) (hk : k < xs.length)
    (et : t = q + lim xs k * by_) (etd : td = t / 4294967296) (etm : tm = t % 4294967296) (hq : q < 4294967296) (hx : lim xs k < 4294967296) (hb : by_ < 4294967296) :
    td < 4294967296 ∧ (zs.set k tm).length = xs.length ∧ Ok (zs.set k tm) ∧ val ((zs.set k tm).take (k + 1)) + pw (k + 1) * td = val (xs.take (k + 1)) * by_ + more ∧ ∀ j, k + 1 ≤ j → lim (zs.set k tm) j = lim xs j := by
  have hxb : lim xs k * by_ ≤ 4294967295 * 4294967295 := Nat.mul_le_mul (by omega) (by omega)
  have htm : tm < 4294967296 := by omega
  refine ⟨by omega, by rw [List.length_set, hl], hok.set _ _ htm, ?_, fun j hj => by rw [lim_set_other (by omega)]; exact hun j (by omega)⟩
  rw [val_take_step, val_take_step xs, lim_set_same (by omega), List.take_set_of_le (Nat.le_refl _), pw_succ]
  have e1 : t = tm + 4294967296 * td := by omega
  have e2 : pw k * t = pw k * tm + 4294967296 * pw k * td := by rw [e1, Nat.mul_add, Nat.mul_comm 4294967296 (pw k), Nat.mul_assoc]
  have e3 : pw k * t = pw k * q + pw k * lim xs k * by_ := by rw [et, Nat.mul_add, Nat.mul_assoc]
  rw [Nat.add_mul]
  omega

set_option maxRecDepth 100000 in
set_option maxHeartbeats 1000000 in
/-- timesAndMore: x times by, and more, in x's place. -/
theorem times_any (v : Value) (xs : List Nat) (by_ more base : Nat) (w : World) (h : Own 68 .u32 w base v xs) (ho : Ok xs) (hb : by_ < 4294967296) (hm : more < 4294967296) (hl : xs.length ≤ 100000000) (hbase : base ≤ w.heap.size) :
    Calls Tryd.prog 47 #[v, .int .u32 by_, .int .u32 more] w fun e w' => ∃ v' zs, e = .returned v' ∧ Own 68 .u32 w' base v' zs ∧ Ok zs ∧ val zs = val xs * by_ + more ∧ zs.length ≤ xs.length + 1 ∧ Below base w w' := by
  obtain ⟨i0, hi0, hz0, hz1, hz2⟩ := info_parts info_u32
  obtain ⟨ad, cap, rfl, hcap, had⟩ := h.sl.shape
  clear had
  have H := Lib.hid h
  clear h
  generalize hln : xs.length = n at *
  have HLN := Lib.hid hln
  clear hln
  go_enter Tryd.func47, Tryd.ntmps47
  go_wp2_with fail
  go_loopw [7, 8, 9, 14] (fun c _ _ i wr => ∃ (k q : Nat) (zs : List Nat), k ≤ n ∧ i = .int .i64 k ∧ c = .int .u64 q ∧ q < 4294967296 ∧ zs.length = xs.length ∧ Ok zs ∧ val (zs.take k) + pw k * q = val (xs.take k) * by_ + more ∧
      (∀ j, k ≤ j → lim zs j = lim xs j) ∧ Own 68 .u32 wr base (.slice ad n cap) zs ∧ Below base w wr) (fun _ _ _ i _ => n - (intOf i).toNat)
  case atStart => exact ⟨0, more, xs, Nat.zero_le _, rfl, rfl, hm, rfl, ho, by rw [List.take_zero, val_nil, pw_zero]; omega, fun _ _ => rfl, H.out, Below.refl _ _⟩
  case round =>
    obtain ⟨k, q, zs, hk, rfl, rfl, hq, hzl, hok, hv, hun, hown, hbel⟩ := hrel
    have hzn : n = zs.length := by have := HLN.out; omega
    by_cases hlt : k < n
    · obtain ⟨g, rfl, hbg, hgw⟩ : ∃ g, ad = some ⟨g, 0, none⟩ ∧ base ≤ g ∧ g < wr.heap.size := by
        rcases hown.shape with ⟨_, e⟩ | ⟨g, cap', e, h1, h2, _⟩
        · subst e; simp at hzn; omega
        · cases e; exact ⟨g, rfl, h1, h2⟩
      have hcell := hown.cell hzn (i := k) hlt
      have hf := hown.free hzn k
      rw [hun k (Nat.le_refl _)] at hcell
      have hlim : lim xs k < 4294967296 := lim_lt ho _
      have hxb : lim xs k * by_ ≤ 4294967295 * 4294967295 := Nat.mul_le_mul (by omega) (by omega)
      obtain ⟨p, hpw, ep⟩ : ∃ p : Nat, IntKind.u64.wrap (((lim xs k : Nat) : Int) * ((by_ : Nat) : Int)) = (p : Int) ∧ p = lim xs k * by_ := ⟨lim xs k * by_, by
        rw [IntKind.wrap_u64, show (((lim xs k : Nat) : Int) * ((by_ : Nat) : Int)) = ((lim xs k * by_ : Nat) : Int) by simp]; omega, rfl⟩
      rw [← ep] at hxb
      obtain ⟨t, ht, et⟩ : ∃ t : Nat, IntKind.u64.wrap ((q : Int) + (p : Int)) = (t : Int) ∧ t = q + p := ⟨_, by rw [IntKind.wrap_u64]; omega, rfl⟩
      rw [ep] at et
      obtain ⟨td, htd, etd⟩ : ∃ td : Nat, ((t : Int) / 4294967296) = (td : Int) ∧ td = t / 4294967296 := ⟨t / 4294967296, by omega, rfl⟩
      obtain ⟨tm, htm, etm⟩ : ∃ tm : Nat, ((t : Int) % 4294967296) = (tm : Int) ∧ tm = t % 4294967296 := ⟨t % 4294967296, by omega, rfl⟩
      have R := step_times hzl hok hv hun (by have := HLN.out; omega) et etd etm hq hlim hb
      have HR := Lib.hid R
      have HO := Lib.hid (hown.set hzn k tm)
      have HB := Lib.hid (hbel.setCell (p := ⟨g, k, none⟩) hbg (.int .u32 (tm : Nat)))
      clear R et etd etm hxb ep hown hbel hv hun hzl hzn
      go_wp2_with fail
      obtain ⟨r1, r2, r3, r4, r5⟩ := HR.out
      exact ⟨⟨k + 1, td, zs.set k tm, by omega, by go_num, rfl, r1, r2, r3, r4, r5, HO.out, HB.out⟩, by simp [intOf]; omega⟩
    · obtain rfl : k = n := by omega
      have hval := hv
      rw [List.take_of_length_le (by omega), List.take_of_length_le (by have := HLN.out; omega)] at hval
      have HVAL := Lib.hid hval
      have HO := Lib.hid hown
      have HB := Lib.hid hbel
      have HZL := Lib.hid hzn
      have hbw : base ≤ wr.heap.size := by have := hbel.size; omega
      clear hown hbel hv hun hzl hzn hval
      by_cases h0 : q = 0
      · subst h0
        go_wp2_with fail
        go_ret
        exact ⟨_, zs, rfl, HO.out, hok, by have := HVAL.out; omega, by have := HZL.out; omega, HB.out⟩
      · have hqb : ((q : Int) != 0) = true := by simp; omega
        go_wp2_with (at_builtin; go_must (refine wpList_append_one wr rfl _ _ 23 rfl base 68 i0 .u32 4 Tryd.underlying23 hi0 hz0 hz1 hz2 _ zs (by rfl) (by exact HO.out) q (by rfl) (by have := HZL.out; omega) (by have := HZL.out; omega) hbw ?_))
        intro v' w' h1 h2
        have H1 := Lib.hid h1
        have H2 := Lib.hid h2
        clear h1 h2
        go_wp2_with fail
        go_ret
        exact ⟨_, zs ++ [q], rfl, H1.out, hok.append (Ok.cons hq Ok.nil), by rw [val_snoc, ← HZL.out]; exact HVAL.out, by rw [List.length_append, ← HZL.out]; exact Nat.le_refl _, HB.out.trans H2.out⟩

end Go.Proofs.YtpchnejdbmoicaaDoor
