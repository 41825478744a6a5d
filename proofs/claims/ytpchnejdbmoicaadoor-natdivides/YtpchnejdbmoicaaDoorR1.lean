/- Contracts of the reference's small functions: trim. -/
import Derived.Test.YtpchnejdbmoicaaDoorW1
namespace Go.Proofs.YtpchnejdbmoicaaDoor
open Go.RowKit Cin

set_option maxHeartbeats 400000 in
theorem rtrim_at (ad : Option Addr) (len cap : Nat) (xs : List Nat) (w : World) (h : Sl 68 .u32 w (.slice ad len cap) xs) (hl : len = xs.length) (hb : len ≤ 1000000000000) (hc : len ≤ cap) :
    Calls Tryd.prog 58 #[.slice ad len cap] w fun e w' => e = .returned (.slice ad (trimN xs len) cap) ∧ w = w' := by
  have HL := Lib.hid hl
  clear hl
  have H := Lib.hid h
  clear h
  go_enter Tryd.func58, Tryd.ntmps58
  go_wp2_with fail
  go_loop [3] (fun i => ∃ k : Nat, k ≤ len ∧ i = .int .i64 k ∧ trimN xs len = trimN xs k) (fun i => (intOf i).toNat)
  case atStart => exact ⟨len, Nat.le_refl _, rfl, rfl⟩
  case round =>
    obtain ⟨k, hk, rfl, ht⟩ := hrel
    have HT := Lib.hid ht
    clear ht
    rcases Nat.eq_zero_or_pos k with h0 | h0
    · subst h0
      go_wp2
      go_ret
      exact ⟨ret_slice (by rw [HT.out]; rfl), rfl⟩
    · obtain ⟨j, rfl⟩ : ∃ j, k = j + 1 := ⟨k - 1, by omega⟩
      obtain ⟨b, off, rfl, hcell, hblt⟩ := H.out.cell (i := j) (by have := HL.out; omega)
      by_cases hz : lim xs j = 0
      · have hzb : (((lim xs j : Nat) : Int) == 0) = true := by simp [hz]
        have HZ := Lib.hid hz
        clear hz
        go_wp2
        exact ⟨⟨j, by omega, rfl, by rw [HT.out, trimN, if_pos HZ.out]⟩, by simp [intOf]⟩
      · have hzb : (((lim xs j : Nat) : Int) == 0) = false := by simp; omega
        have HZ := Lib.hid hz
        clear hz
        go_wp2
        go_ret
        exact ⟨ret_slice (by rw [HT.out, trimN, if_neg HZ.out]), rfl⟩

/-- The reference's trim: the number whose words these are. -/
theorem rtrim_any (v : Value) (xs : List Nat) (w : World) (h : Sl 68 .u32 w v xs) (ho : Ok xs) (hb : xs.length ≤ 1000000000000) :
    Calls Tryd.prog 58 #[v] w fun e w' => ∃ v', e = .returned v' ∧ RefV 68 w v' (val xs) ∧ w = w' := by
  obtain ⟨ad, cap, rfl, hc, _⟩ := h.shape
  have hn := trimN_norm xs xs.length (Nat.le_refl _)
  have hv := trimN_val xs xs.length (Nat.le_refl _)
  rw [List.take_length] at hv
  exact (rtrim_at ad xs.length cap xs w h rfl hb hc).mono fun e w' ⟨he, hw⟩ => ⟨_, he, ⟨_, h.take (trimN_le _ _), ho.take _, hn, hv⟩, hw⟩

end Go.Proofs.YtpchnejdbmoicaaDoor
