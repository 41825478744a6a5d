/- Contracts of nat's small functions: trim, wrap, order, limbAt, cutShift. -/
import Derived.Test.YtpchnejdbmoicaaDoorRows
import Derived.Test.YtpchnejdbmoicaaDoorMem
namespace Go.Proofs.YtpchnejdbmoicaaDoor
open Go.RowKit Cin

theorem ret_slice {a : Option Addr} {n m c : Nat} (h : n = m) : Ending.returned (.slice a n c) = .returned (.slice a m c) := by rw [h]
theorem ret_int {k : IntKind} {a b : Int} (h : a = b) : Ending.returned (.int k a) = .returned (.int k b) := by rw [h]

set_option maxHeartbeats 400000 in
theorem trim_at (ad : Option Addr) (len cap : Nat) (xs : List Nat) (w : World) (h : Sl 68 .u32 w (.slice ad len cap) xs) (hl : len = xs.length) (hb : len ≤ 1000000000000) (hc : len ≤ cap) :
    Calls Tryd.prog 67 #[.slice ad len cap] w fun e w' => e = .returned (.slice ad (trimN xs len) cap) ∧ w = w' := by
  have HL := Lib.hid hl
  clear hl
  have H := Lib.hid h
  clear h
  go_enter Tryd.func67, Tryd.ntmps67
  go_wp2_with fail
  go_loop [3] (fun i => ∃ k : Nat, k ≤ len ∧ i = .int .i64 k ∧ trimN xs len = trimN xs k) (fun i => (intOf i).toNat)
  case atStart => exact ⟨len, Nat.le_refl _, rfl, rfl⟩
  case round =>
    obtain ⟨k, hk, rfl, ht⟩ := hrel
    have HT := Lib.hid ht
    clear ht
    rcases Nat.eq_zero_or_pos k with h0 | h0
    · subst h0
      go_wp2
      go_ret
      exact ⟨ret_slice (by rw [HT.out]; rfl), rfl⟩
    · obtain ⟨j, rfl⟩ : ∃ j, k = j + 1 := ⟨k - 1, by omega⟩
      obtain ⟨b, off, rfl, hcell, hblt⟩ := H.out.cell (i := j) (by have := HL.out; omega)
      by_cases hz : lim xs j = 0
      · have hzb : (((lim xs j : Nat) : Int) == 0) = true := by simp [hz]
        have HZ := Lib.hid hz
        clear hz
        go_wp2
        exact ⟨⟨j, by omega, rfl, by rw [HT.out, trimN, if_pos HZ.out]⟩, by simp [intOf]⟩
      · have hzb : (((lim xs j : Nat) : Int) == 0) = false := by simp; omega
        have HZ := Lib.hid hz
        clear hz
        go_wp2
        go_ret
        exact ⟨ret_slice (by rw [HT.out, trimN, if_neg HZ.out]), rfl⟩

/-- trim, of any slice: the same words without those of 0 at the high end. -/
theorem trim_any (v : Value) (xs : List Nat) (w : World) (h : Sl 68 .u32 w v xs) (hb : xs.length ≤ 1000000000000) :
    Calls Tryd.prog 67 #[v] w fun e w' => ∃ v', e = .returned v' ∧ Sl 68 .u32 w v' (xs.take (trimN xs xs.length)) ∧ w = w' := by
  obtain ⟨ad, cap, rfl, hc, _⟩ := h.shape
  exact (trim_at ad xs.length cap xs w h rfl hb hc).mono fun e w' ⟨he, hw⟩ => ⟨_, he, h.take (trimN_le _ _), hw⟩

set_option maxHeartbeats 400000 in
/-- wrap: the number whose words these are. -/
theorem wrap_any (v : Value) (xs : List Nat) (w : World) (h : Sl 68 .u32 w v xs) (ho : Ok xs) (hb : xs.length ≤ 1000000000000) :
    Calls Tryd.prog 49 #[v] w fun e w' => ∃ v', e = .returned v' ∧ NatV 68 w' v' (val xs) ∧ Below w.heap.size w w' := by
  have hbel : ∀ o, Below w.heap.size w (w.alloc o) := fun o => (Below.refl _ _).alloc (Nat.le_refl _) o
  have HB := Lib.hid hbel
  clear hbel
  have hn := trimN_norm xs xs.length (Nat.le_refl _)
  have hv := trimN_val xs xs.length (Nat.le_refl _)
  rw [List.take_length] at hv
  have HN := Lib.hid hn
  have HV := Lib.hid hv
  clear hn hv
  obtain ⟨ad, cap, rfl, hcap, had⟩ := h.shape
  have hle := trimN_le xs xs.length
  have H := Lib.hid h
  clear h had
  go_enter Tryd.func49, Tryd.ntmps49
  go_wp2_with fail
  refine (trim_at ad xs.length cap xs _ (H.out.alloc _) rfl hb hcap).mono ?_
  rintro e w1 ⟨rfl, rfl⟩
  generalize hln : trimN xs xs.length = n at *
  have HLN := Lib.hid hln
  clear hln
  by_cases h0 : n = 0
  · subst h0
    go_wp2_with fail
    refine bodyPost_ret (v := .agg #[.slice none 0 0]) (by simp [results, Tryd.results49, go_sem]) rfl ⟨_, rfl, ?_, ?_⟩
    · rw [← HV.out]
      exact NatV.zero _ _
    · exact HB.out _
  · have hnb : ((n : Int) == 0) = false := by simp; omega
    clear h0
    go_wp2_with fail
    refine bodyPost_ret (v := .agg #[.slice ad n cap]) (by simp [results, Tryd.results49, go_sem]) rfl ⟨_, rfl, ⟨_, rfl, _, (H.out.take hle).alloc _, ho.take _, HN.out, HV.out⟩, ?_⟩
    exact HB.out _

set_option maxHeartbeats 400000 in
theorem order_any (b : Bool) (w : World) : Calls Tryd.prog 73 #[.bool b] w fun e w' => e = .returned (.int .i64 (if b then -1 else 1)) ∧ w = w' := by
  cases b <;>
  · go_enter Tryd.func73, Tryd.ntmps73
    go_wp2
    go_ret
    exact ⟨rfl, rfl⟩

set_option maxHeartbeats 400000 in
/-- limbAt: the word at a place from 0 on, 0 beyond the end. -/
theorem limbAt_any (v : Value) (xs : List Nat) (i : Int) (w : World) (h : Sl 68 .u32 w v xs) (h0 : 0 ≤ i) :
    Calls Tryd.prog 74 #[v, .int .i64 i] w fun e w' => e = .returned (.int .u32 (lim xs i.toNat : Nat)) ∧ w = w' := by
  obtain ⟨n, rfl⟩ := Int.eq_ofNat_of_zero_le h0
  obtain ⟨ad, cap, rfl, hcap, had⟩ := h.shape
  rw [Int.toNat_natCast]
  clear had
  have H := Lib.hid h
  clear h
  by_cases hn : n < xs.length
  · obtain ⟨b, off, rfl, hcell, hblt⟩ := H.out.cell hn
    generalize hln : xs.length = len at *
    have HLN := Lib.hid hln
    clear hln
    go_enter Tryd.func74, Tryd.ntmps74
    go_wp2
    go_ret
    exact ⟨rfl, rfl⟩
  · have e : lim xs n = 0 := lim_ge (by omega)
    rw [e]
    clear e
    generalize hln : xs.length = len at *
    have HLN := Lib.hid hln
    clear hln
    go_enter Tryd.func74, Tryd.ntmps74
    go_wp2
    go_ret
    exact ⟨rfl, rfl⟩

/-- A shift, cut to 0 to 2 to the 20th. -/
def cut (n : Int) : Nat := if n < 0 then 0 else if 1048576 < n then 1048576 else n.toNat
theorem cut_le (n : Int) : cut n ≤ 1048576 := by unfold cut; split; omega; split <;> omega
theorem cut_in {k : Nat} (h : k ≤ 1048576) : cut (k : Int) = k := by unfold cut; rw [if_neg (by omega), if_neg (by omega)]; rfl

set_option maxHeartbeats 400000 in
theorem cutShift_any (n : Int) (w : World) :
   Calls Tryd.prog 84 #[.int .i64 n] w fun e w' => e = .returned (.int .i64 (cut n : Nat)) ∧ w = w' := by
  rcases Int.lt_or_le n 0 with h | h
  · rw [show ((cut n : Nat) : Int) = 0 by unfold cut; rw [if_pos h]; rfl]
    go_enter Tryd.func84, Tryd.ntmps84
    go_wp2
    go_ret
    exact ⟨rfl, rfl⟩
  · rcases Int.lt_or_le 1048576 n with h' | h'
    · rw [show ((cut n : Nat) : Int) = 1048576 by unfold cut; rw [if_neg (by omega), if_pos h']; rfl]
      go_enter Tryd.func84, Tryd.ntmps84
      go_wp2
      go_ret
      exact ⟨rfl, rfl⟩
    · rw [show ((cut n : Nat) : Int) = n by unfold cut; rw [if_neg (by omega), if_neg (by omega)]; omega]
      go_enter Tryd.func84, Tryd.ntmps84
      go_wp2
      go_ret
      exact ⟨rfl, rfl⟩

end Go.Proofs.YtpchnejdbmoicaaDoor
