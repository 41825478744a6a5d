/- Contracts of the document's Shl and Shr. -/
import Derived.Test.YtpmnakjllkidiaaGreatDoorYp
import Derived.Test.YtpmnakjllkidiaaGreatDoorYh
import Derived.Test.YtpmnakjllkidiaaGreatDoorYq
import Derived.Test.YtpmnakjllkidiaaGreatDoorYj
import Derived.Deep.LoopGhost
import Derived.Test.YtpmnakjllkidiaaGreatDoorYn
import Derived.Test.YtpmnakjllkidiaaGreatDoorYo
import Derived.Test.YtpmnakjllkidiaaGreatDoorYb
import Derived.Test.YtpmnakjllkidiaaGreatDoorYi
import Derived.Lib.IndexLaws
namespace Cin
open Go Go.RowKit
theorem or_u32 {a lo s : Nat} (ha : a < 2 ^ s) (hl : lo % 2 ^ s = 0) (ha2 : a < 4294967296) (hl2 : lo < 4294967296) : bits .or .u32 (a : Int) (lo : Int) = ((a + lo : Nat) : Int) := by
  rw [u32_or_nat _ _ ha2 hl2, Nat.or_comm, nat_join s _ _ hl ha, Nat.add_comm]
theorem low_mul {x s : Nat} (hs : s < 32) : (x * 2 ^ s % 4294967296) % 2 ^ s = 0 := by
  have e : 4294967296 = 2 ^ (32 - s) * 2 ^ s := by rw [← Nat.pow_add, show 32 - s + s = 32 by omega]
  rw [e, Nat.mul_mod_mul_right]
  exact Nat.mul_mod_left _ _
theorem shl_step {xs os : List Nat} {i q s S t lo hi : Nat} (hl : os.length = S) (hok : Ok os) (hv : val os = val (xs.take i) * (pw q * 2 ^ s)) (hz : ∀ j, i + q < j → lim os j = 0) (ht : lim os (i + q) < 2 ^ s) (hs : s < 32) (hi' : i + q + 1 < S)
    (hx : lim xs i < 4294967296) (et : t = lim xs i * 2 ^ s) (elo : lo = t % 4294967296) (ehi : hi = t / 4294967296) :
    lim os (i + q) + lo < 4294967296 ∧ hi < 2 ^ s ∧ lo % 2 ^ s = 0 ∧ ((os.set (i + q) (lim os (i + q) + lo)).set (i + q + 1) hi).length = S ∧ Ok ((os.set (i + q) (lim os (i + q) + lo)).set (i + q + 1) hi) ∧
      val ((os.set (i + q) (lim os (i + q) + lo)).set (i + q + 1) hi) = val (xs.take (i + 1)) * (pw q * 2 ^ s) ∧ (∀ j, i + 1 + q < j → lim ((os.set (i + q) (lim os (i + q) + lo)).set (i + q + 1) hi) j = 0) ∧ lim ((os.set (i + q) (lim os (i + q) + lo)).set (i + q + 1) hi) (i + 1 + q) < 2 ^ s := by
  have hp : 2 ^ s ≤ 2147483648 := by have := Nat.pow_le_pow_right (n := 2) (by decide) (show s ≤ 31 by omega); simpa using this
  have hlo0 : lo % 2 ^ s = 0 := by rw [elo, et]; exact low_mul hs
  have hpos : 0 < 2 ^ s := Nat.pow_pos (by decide)
  have hhi : hi < 2 ^ s := by
    rw [ehi, Nat.div_lt_iff_lt_mul (by decide), et, Nat.mul_comm (2 ^ s)]
    exact Nat.mul_lt_mul_of_pos_right hx hpos
  have hlo : lim os (i + q) + lo < 4294967296 := by
    have h1 : lo < 4294967296 := by omega
    have e : 4294967296 = 2 ^ (32 - s) * 2 ^ s := by rw [← Nat.pow_add, show 32 - s + s = 32 by omega]
    obtain ⟨c, hc⟩ := Nat.dvd_of_mod_eq_zero hlo0
    have h2 : c < 2 ^ (32 - s) := by
      rw [hc, e, Nat.mul_comm (2 ^ (32 - s))] at h1
      exact Nat.lt_of_mul_lt_mul_left h1
    have h3 : 2 ^ s * (c + 1) ≤ 2 ^ s * 2 ^ (32 - s) := Nat.mul_le_mul_left _ h2
    rw [Nat.mul_comm (2 ^ s) (2 ^ (32 - s)), ← e, Nat.mul_add] at h3
    omega
  refine ⟨hlo, hhi, hlo0, by rw [List.length_set, List.length_set, hl], (hok.set _ _ hlo).set _ _ (by omega), ?_, fun j hj => ?_, ?_⟩
  · have e1 := val_set (xs := os) (i := i + q) (by omega) (lim os (i + q) + lo)
    have e2 := val_set (xs := os.set (i + q) (lim os (i + q) + lo)) (i := i + q + 1) (by rw [List.length_set]; omega) hi
    rw [lim_set_other (by omega), hz (i + q + 1) (by omega), Nat.mul_zero, Nat.add_zero] at e2
    rw [e2]
    have e3 : val (os.set (i + q) (lim os (i + q) + lo)) = val os + pw (i + q) * lo := by rw [Nat.mul_add] at e1; omega
    have e4 : t = lo + 4294967296 * hi := by omega
    have e5 : pw (i + q) * lo + pw (i + q + 1) * hi = pw (i + q) * t := by rw [e4, pw_succ, Nat.mul_add, Nat.mul_comm 4294967296 (pw (i + q)), Nat.mul_assoc]
    have e6 : pw (i + q) * t = pw i * lim xs i * (pw q * 2 ^ s) := by
      rw [et, pw_add, Nat.mul_assoc, Nat.mul_assoc, ← Nat.mul_assoc (pw q), Nat.mul_comm (pw q) (lim xs i), Nat.mul_assoc (lim xs i)]
    rw [e3, hv, val_take_step, Nat.add_mul, ← e6, ← e5]
    omega
  · rw [lim_set_other (by omega), lim_set_other (by omega)]; exact hz j (by omega)
  · rw [show i + 1 + q = i + q + 1 by omega, lim_set_same (by rw [List.length_set]; omega)]; exact hhi
end Cin
namespace Go.Proofs.YtpmnakjllkidiaaGreatDoor
open Go.RowKit Cin
set_option maxRecDepth 100000 in
set_option maxHeartbeats 2000000 in
theorem refShl_any (v : Value) (x N k : Nat) (w : World) (h : RefB w v x k) (hk : k ≤ 1000000) (hN : N ≤ 1048576) :
    Calls Tryz.prog 135 #[v, .int .i64 N] w fun e w' => ∃ v', e = .returned v' ∧ RefB w' v' (x * 2 ^ N) (k + N / 32 + 1) ∧ Below w.heap.size w w' := by
  obtain ⟨⟨xs, hs, ho, hnm, hval⟩, hx⟩ := h
  obtain ⟨ad, cap, rfl, hc, _⟩ := hs.shape
  obtain ⟨i0, hi0, hz0, hz1, hz2⟩ := info_parts info_u32
  have hl : xs.length ≤ k := norm_len hnm (by rw [hval]; exact hx)
  obtain ⟨n, hn⟩ : ∃ n : Nat, xs.length = n := ⟨_, rfl⟩
  obtain ⟨q, eq, eq'⟩ : ∃ q : Nat, (N : Int) / 32 = (q : Int) ∧ q = N / 32 := ⟨N / 32, by omega, rfl⟩
  obtain ⟨s, es, es'⟩ : ∃ s : Nat, (N : Int) % 32 = (s : Int) ∧ s = N % 32 := ⟨N % 32, by omega, rfl⟩
  have hs32 : s < 32 := by omega
  have hpw : 2 ^ N = pw q * 2 ^ s := by rw [eq', es']; exact pow2_split32 N
  obtain ⟨nq, enq, enq'⟩ : ∃ a : Nat, (n : Int) + (q : Int) = (a : Int) ∧ a = n + q := ⟨n + q, by omega, rfl⟩
  obtain ⟨S, eS, eS'⟩ : ∃ a : Nat, (nq : Int) + 1 = (a : Int) ∧ a = n + q + 1 := ⟨n + q + 1, by omega, rfl⟩
  rw [hn] at hs hl hc ⊢
  have HS := Lib.hid hs
  have HVAL := Lib.hid hval
  have HX := Lib.hid hx
  have HLN := Lib.hid hn
  have HPW := Lib.hid hpw
  have HQ := Lib.hid eq'
  have HSS := Lib.hid eS'
  have hSb : S ≤ 3000000 := by omega
  have hqb : q ≤ 100000 := by omega
  have hnqb : nq ≤ 3000000 := by omega
  have HD := Lib.hid (show ∀ b' o' n' c', Value.slice ad n cap = .slice (some ⟨b', o', none⟩) n' c' → ¬ (b' = w.heap.size) from fun b' o' n' c' e => by have := hs.lt e; omega)
  clear hs hval hx hn hpw eq' es' enq' eS' hnm hc
  go_enter Tryz.func135, Tryz.ntmps135
  go_wp2_with (at_make; refine wpList_make_ints _ rfl _ _ 44 rfl 161 i0 .u32 Tryz.underlying44 hi0 hz0 hz1 .i64 .i64 _ _ S S rfl rfl (by omega) (by omega) (Nat.le_refl _) (by rw [hz2]; omega) (by omega) ?_)
  have hkW : Blk (w.alloc (Obj.cells (ints IntKind.u32 (List.replicate S 0)) 161)) w.heap.size 161 .u32 (List.replicate S 0) := Blk.new _ _ _ _
  have hbW := bel_alloc w (Obj.cells (ints IntKind.u32 (List.replicate S 0)) 161)
  generalize w.alloc (Obj.cells (ints IntKind.u32 (List.replicate S 0)) 161) = W at *
  have HL := Lib.hid (HS.out.below hbW)
  have HBW := Lib.hid hbW
  have HKW := Lib.hid hkW
  clear hbW hkW hi0 hz0 hz1 hz2
  go_loopw [6, 7] (fun ix _ wr => ∃ (i : Nat) (os : List Nat), i ≤ n ∧ ix = .int .i64 i ∧ os.length = S ∧ Ok os ∧ val os = val (xs.take i) * (pw q * 2 ^ s) ∧ (∀ j, i + q < j → lim os j = 0) ∧ lim os (i + q) < 2 ^ s ∧
      Blk wr w.heap.size 161 .u32 os ∧ Keep (· = w.heap.size) W wr) (fun ix _ _ => n - (intOf ix).toNat)
  case atStart => exact ⟨0, List.replicate S 0, Nat.zero_le _, rfl, by simp, Ok.replicate _, by rw [val_replicate, List.take_zero, val_nil, Nat.zero_mul], fun j _ => lim_replicate _ _, by rw [lim_replicate]; exact Nat.pow_pos (by decide), HKW.out, Keep.refl _ _⟩
  case round =>
    obtain ⟨i, os, hi, rfl, hol, hok, hv, hz, ht0, hblk, hkeep⟩ := hrel
    by_cases hlt : i < n
    · have hSq : i + q + 1 < S := by have := HSS.out; omega
      have hlim : lim xs i < 4294967296 := lim_lt ho _
      have hp : 2 ^ s ≤ 2147483648 := by have := Nat.pow_le_pow_right (n := 2) (by decide) (show s ≤ 31 by omega); simpa using this
      have hxb : lim xs i * 2 ^ s ≤ 4294967295 * 2147483648 := Nat.mul_le_mul (by omega) hp
      obtain ⟨t, hsh, et⟩ : ∃ t : Nat, IntKind.u64.wrap (((lim xs i : Nat) : Int) * 2 ^ s) = (t : Int) ∧ t = lim xs i * 2 ^ s := ⟨_, by
        rw [IntKind.wrap_u64, show (((lim xs i : Nat) : Int) * 2 ^ s) = ((lim xs i * 2 ^ s : Nat) : Int) by simp]; omega, rfl⟩
      have htb : t < 9223372036854775808 := by omega
      obtain ⟨lo, elo⟩ : ∃ lo : Nat, lo = t % 4294967296 := ⟨_, rfl⟩
      obtain ⟨hh, ehh, ehh'⟩ : ∃ hh : Nat, ((t : Int) / 4294967296) = (hh : Int) ∧ hh = t / 4294967296 := ⟨t / 4294967296, by omega, rfl⟩
      have hand : bits BinOp.and IntKind.u64 (t : Int) 4294967295 = (lo : Int) := by rw [and_mask32 (by omega), elo]
      have hlob : lo < 4294967296 := by omega
      have hhb : hh < 4294967296 := by omega
      have R := shl_step hol hok hv hz ht0 hs32 hSq hlim et elo ehh'
      obtain ⟨iq, eiq, eiq'⟩ : ∃ a : Nat, (i : Int) + (q : Int) = (a : Int) ∧ i + q = a := ⟨i + q, by omega, rfl⟩
      have hz1 := hz (i + q + 1) (by omega)
      rw [eiq'] at R hSq ht0 hz1
      have hcell2 := hblk.cell (i := iq) (by rw [hol]; omega)
      have hf := hblk.free iq
      have hcell3 := hblk.cell (i := iq + 1) (by rw [hol]; omega)
      have hf3 := hblk.free (iq + 1)
      rw [hz1] at hcell3
      have hob := lim_lt hok iq
      have hor1 : bits BinOp.or IntKind.u32 ((lim os iq : Nat) : Int) (lo : Int) = ((lim os iq + lo : Nat) : Int) := or_u32 ht0 R.2.2.1 hob hlob
      obtain ⟨o1, eo1⟩ : ∃ o1 : Nat, lim os iq + lo = o1 := ⟨_, rfl⟩
      rw [eo1] at hor1 R
      have hor2 : bits BinOp.or IntKind.u32 ((0 : Nat) : Int) (hh : Int) = (hh : Int) := by
        have := or_u32 (a := 0) (lo := hh) (s := 0) (by decide) (Nat.mod_one _) (by decide) hhb
        rw [this, Nat.zero_add]
      have hor3 : bits BinOp.or IntKind.u32 0 (hh : Int) = (hh : Int) := hor2
      obtain ⟨bx, offx, rfl, hcell, hblt⟩ := (HL.out.keep hkeep HD.out).cell (i := i) (by have := HLN.out; omega)
      have hne : w.heap.size ≠ bx := fun e => HD.out _ _ _ _ rfl e.symm
      have HB2 := Lib.hid ((hblk.set iq o1).set (iq + 1) hh)
      have HK2 := Lib.hid ((hkeep.setCell (a := ⟨w.heap.size, iq, none⟩) rfl (.int .u32 (o1 : Nat))).setCell (a := ⟨w.heap.size, iq + 1, none⟩) rfl (.int .u32 (hh : Nat)))
      have hcell4 : (wr.setCell ⟨w.heap.size, iq, none⟩ (.int .u32 (o1 : Nat))).cell? ⟨w.heap.size, iq + 1, none⟩ = some (.int .u32 ((0 : Nat) : Int)) := by
        rw [World.cell?_setCell_other _ _ _ _ (by intro e; injection e; omega)]; exact hcell3
      have HR := Lib.hid R
      have EIQ := Lib.hid eiq'
      have wq1 : IntKind.i64.wrap ((iq : Int) + 1) = (iq : Int) + 1 := IntWalk.i64_in _ (by omega)
      have hiqS : (iq : Int) < (S : Int) := by omega
      have hiqS2 : (iq : Int) + 1 < (S : Int) := by omega
      clear R hol hok hv hz ht0 hblk hkeep et elo ehh' eo1 eiq' hz1 hor2
      go_wp2_with fail
      obtain ⟨r1, r2, r3, r4, r5, r6, r7, r8⟩ := HR.out
      have e0 := EIQ.out
      subst e0
      exact ⟨⟨i + 1, _, by omega, by go_num, r4, r5, r6, r7, r8, HB2.out, HK2.out⟩, by simp [intOf]; omega⟩
    · obtain rfl : i = n := by omega
      rw [List.take_of_length_le (by have := HLN.out; omega), HVAL.out, ← HPW.out] at hv
      have hsl := Sl.of_blk hblk
      rw [hol] at hsl
      have HV := Lib.hid hv
      have HSL := Lib.hid hsl
      have HB3 := Lib.hid (HBW.out.trans (hkeep.below (B := w.heap.size) HBW.out.size (fun k e => by omega)))
      have hln : os.length ≤ 1000000000000 := by rw [hol]; omega
      have HLT := Lib.hid (show x * 2 ^ N < pw (k + N / 32 + 1) by
        rw [HPW.out, ← HQ.out, show k + q + 1 = k + (q + 1) by omega, pw_add]
        refine Nat.mul_lt_mul'' HX.out ?_
        rw [pw_succ, Nat.mul_comm]
        have hp : 2 ^ s ≤ 2147483648 := by have := Nat.pow_le_pow_right (n := 2) (by decide) (show s ≤ 31 by omega); simpa using this
        exact Nat.mul_lt_mul_of_pos_right (by omega) (pw_pos q))
      clear hv hsl hblk hkeep hol hz ht0
      go_wp2_with fail
      refine (rtrim_any _ os _ HSL.out hok hln).mono ?_
      rintro e w2 ⟨v2, rfl, hr2, rfl⟩
      rw [HV.out] at hr2
      have HR2 := Lib.hid hr2
      clear hr2
      go_wp2
      go_ret
      exact ⟨_, rfl, ⟨HR2.out, HLT.out⟩, HB3.out⟩
end Go.Proofs.YtpmnakjllkidiaaGreatDoor

namespace Cin
open Go
end Cin
namespace Go.Proofs.YtpmnakjllkidiaaGreatDoor
open Go.RowKit Cin
set_option maxHeartbeats 800000 in
theorem rnatOf_one (w : World) : Calls Tryz.prog 63 #[.int .u64 1] w fun e w' => ∃ v', e = .returned v' ∧ RefB w' v' 1 1 ∧ Below w.heap.size w w' := by
  have hand : bits BinOp.and IntKind.u64 1 4294967295 = 1 := and_mask32 (t := 1) (by decide)
  go_enter Tryz.func63, Tryz.ntmps63
  go_wp2_with fail
  have hblk := Blk.new w 161 .u32 [1, 0]
  refine (rtrim_any _ [1, 0] _ (Sl.of_blk hblk) (Ok.cons (by decide) (Ok.cons (by decide) Ok.nil)) (by decide)).mono ?_
  rintro e w1 ⟨v1, rfl, hr, rfl⟩
  have HR := Lib.hid hr
  clear hr hblk hand
  go_wp2
  go_ret
  exact ⟨_, rfl, ⟨HR.out, by decide⟩, bel_alloc _ _⟩
end Go.Proofs.YtpmnakjllkidiaaGreatDoor

namespace Cin
open Go Go.RowKit
theorem div_start {a b ca cb : Nat} (ha : IsBl a ca) (hb : IsBl b cb) (hb0 : b ≠ 0) : a < b * 2 ^ (((ca : Int) - (cb : Int) + 1).toNat) := by
  have h1 := ha.1
  rcases hb.2 with h2 | h2
  · exfalso
    have := hb.1
    rw [h2] at this
    omega
  · have hcb : cb ≠ 0 := by
      intro e
      have := hb.1
      rw [e] at this
      omega
    rcases Nat.lt_or_ge ca cb with h3 | h3
    · rw [show ((ca : Int) - (cb : Int) + 1).toNat = 0 by omega, Nat.pow_zero, Nat.mul_one]
      have := Nat.pow_le_pow_right (n := 2) (by decide) (show ca ≤ cb - 1 by omega)
      omega
    · have e : 2 ^ ca = 2 ^ (cb - 1) * 2 ^ (((ca : Int) - (cb : Int) + 1).toNat) := by rw [← Nat.pow_add]; congr 1; omega
      have := Nat.mul_le_mul_right (2 ^ (((ca : Int) - (cb : Int) + 1).toNat)) h2
      omega
theorem div_yes {a b Q R i : Nat} (h : a = Q * b + R) (hr : R < b * 2 ^ (i + 1)) (hl : b * 2 ^ i ≤ R) : a = (Q + 2 ^ i) * b + (R - b * 2 ^ i) ∧ R - b * 2 ^ i < b * 2 ^ i := by
  rw [Nat.pow_succ, ← Nat.mul_assoc] at hr
  refine ⟨?_, by omega⟩
  rw [Nat.add_mul, Nat.mul_comm (2 ^ i) b]
  omega
theorem div_end {a b Q R : Nat} (h : a = Q * b + R) (hr : R < b) : Q = a / b ∧ R = a % b := by
  subst h
  refine ⟨?_, ?_⟩
  · rw [Nat.mul_comm, Nat.mul_add_div (by omega), Nat.div_eq_of_lt hr, Nat.add_zero]
  · rw [Nat.mul_comm, Nat.mul_add_mod, Nat.mod_eq_of_lt hr]
theorem bl_bound {x c k : Nat} (h : IsBl x c) (hx : x < pw k) : c ≤ 32 * k := by
  rcases h.2 with e | e
  · omega
  · rcases Nat.lt_or_ge (32 * k) c with h1 | h1
    · have := Nat.pow_le_pow_right (n := 2) (by decide) (show 32 * k ≤ c - 1 by omega)
      rw [pw_two] at hx
      omega
    · exact h1
theorem le_of_mul_add {a b Q R : Nat} (h : a = Q * b + R) (hb : b ≠ 0) : Q ≤ a := by
  have := Nat.le_mul_of_pos_right Q (Nat.pos_of_ne_zero hb)
  omega
end Cin
namespace Go.Proofs.YtpmnakjllkidiaaGreatDoor
open Go.RowKit Cin
set_option maxRecDepth 100000 in
set_option maxHeartbeats 1000000 in
theorem rbits_any (v : Value) (x k : Nat) (w : World) (h : RefB w v x k) (hk : k ≤ 1000000) :
    Calls Tryz.prog 126 #[v] w fun e w' => ∃ c : Nat, e = .returned (.int .i64 c) ∧ IsBl x c ∧ c ≤ 32 * k ∧ w' = w := by
  obtain ⟨⟨xs, hs, ho, hnm, hval⟩, hx⟩ := h
  obtain ⟨ad, cap, rfl, hc, _⟩ := hs.shape
  have hl : xs.length ≤ k := norm_len hnm (by rw [hval]; exact hx)
  obtain ⟨len, hn⟩ : ∃ n : Nat, xs.length = n := ⟨_, rfl⟩
  rw [hn] at hs hl hc ⊢
  rcases Nat.eq_zero_or_pos len with h0 | h0
  · subst h0
    have e0 : xs = [] := List.length_eq_zero_iff.1 hn
    subst e0
    rw [val_nil] at hval
    subst hval
    clear hs hn hnm ho hx hc
    go_enter Tryz.func126, Tryz.ntmps126
    go_wp2
    go_ret
    exact ⟨0, rfl, IsBl.zero, Nat.zero_le _, rfl⟩
  · obtain ⟨n, rfl⟩ : ∃ n, len = n + 1 := ⟨len - 1, by omega⟩
    obtain ⟨b, off, rfl, hcell, hblt⟩ := hs.cell (i := n) (by omega)
    have hlim := lim_lt ho n
    have hne : xs ≠ [] := by intro e; subst e; simp at hn
    have htop : ∀ c, IsBl (lim xs n) c → IsBl x (32 * n + c) := fun c hcc => by
      have := bl_top (c := c) hne ho (by rw [hn, Nat.add_sub_cancel]; exact hcc) (by rcases hnm with e | e; exact absurd e hne; exact e)
      rwa [hn, Nat.add_sub_cancel, hval] at this
    have HTOP := Lib.hid htop
    have HX := Lib.hid hx
    generalize lim xs n = t at *
    have heq : ((n : Int) + 1 == 0) = false := by simp; omega
    have e32 : IntKind.i64.wrap (32 * (n : Int)) = ((32 * n : Nat) : Int) := by rw [IntWalk.i64_in _ (by omega)]; omega
    clear hs hn hnm ho hval hx hc hne htop
    go_enter Tryz.func126, Tryz.ntmps126
    go_wp2_with fail
    go_loop [3, 4] (fun m u => ∃ a b : Nat, m = .int .i64 ((32 * n + a : Nat) : Int) ∧ u = .int .u32 b ∧ a ≤ 32 ∧ b = t / 2 ^ a ∧ ∀ j, IsBl b j → IsBl t (a + j)) (fun _ u => (intOf u).toNat)
    case atStart => exact ⟨0, t, rfl, rfl, by decide, by simp, fun j h => by simpa using h⟩
    case round =>
      obtain ⟨a, b, rfl, rfl, ha, hb, hbl⟩ := hrel
      have HBL := Lib.hid hbl
      have HBB := Lib.hid hb
      clear hb hbl
      rcases Nat.eq_zero_or_pos b with h0 | h0
      · subst h0
        have HK := Lib.hid (HTOP.out _ (HBL.out 0 IsBl.zero))
        clear HBL HBB HTOP
        go_wp2_with fail
        go_ret
        exact ⟨32 * n + a, rfl, HK.out, bl_bound HK.out HX.out, rfl⟩
      · have ha32 : a < 32 := by
          rcases Nat.lt_or_ge a 32 with h | h
          · exact h
          · exfalso
            have h1 := Nat.div_eq_of_lt (Nat.lt_of_lt_of_le hlim (show 4294967296 ≤ 2 ^ a from Nat.pow_le_pow_right (n := 2) (by decide) h))
            have := HBB.out
            omega
        have hblt2 : b < 4294967296 := by have := HBB.out; have := Nat.div_le_self t (2 ^ a); omega
        obtain ⟨c, hc, ec⟩ : ∃ c : Nat, (b : Int) / 2 = (c : Int) ∧ c = b / 2 := ⟨b / 2, by omega, rfl⟩
        have EC := Lib.hid ec
        have HN := Lib.hid (show c = t / 2 ^ (a + 1) ∧ ∀ j, IsBl c j → IsBl t (a + 1 + j) from ⟨by rw [ec, HBB.out, Nat.pow_succ, Nat.div_div_eq_div_mul], fun j hj => by rw [ec] at hj; have := HBL.out _ (hj.half (by omega)); rwa [show a + (j + 1) = a + 1 + j by omega] at this⟩)
        clear HBL HBB HTOP ec
        go_wp2_with fail
        have ec := EC.out
        exact ⟨⟨a + 1, c, by go_num, rfl, by omega, HN.out⟩, by simp only [intOf]; omega⟩
set_option maxRecDepth 100000 in
set_option maxHeartbeats 4000000 in
theorem rdiv_any (v u : Value) (x y k j : Nat) (w : World) (h : RefB w v x k) (h' : RefB w u y j) (hk : k ≤ 30000) (hj : j ≤ 30000) (hy : y ≠ 0) :
    Calls Tryz.prog 102 #[v, u] w fun e w' => ∃ v' u', e = .returned (.tuple #[v', u']) ∧ RefB w' v' (x / y) k ∧ RefB w' u' (x % y) j ∧ Below w.heap.size w w' := by
  have H := Lib.hid h
  have H' := Lib.hid h'
  clear h h'
  go_enter Tryz.func102, Tryz.ntmps102
  go_wp2_with fail
  refine (rbits_any v x k w H.out (by omega)).mono ?_
  rintro e w1 ⟨ca, rfl, hca, hcak, rfl⟩
  go_wp2_with fail
  refine (rbits_any u y j w1 H'.out (by omega)).mono ?_
  rintro e w2 ⟨cb, rfl, hcb, hcbk, rfl⟩
  have HST := Lib.hid (div_start hca hcb hy)
  obtain ⟨z0, hz0⟩ : ∃ z0 : Int, (ca : Int) - (cb : Int) = z0 := ⟨_, rfl⟩
  rw [hz0] at HST
  have hzb : -960000 ≤ z0 ∧ z0 ≤ 960000 := by omega
  have wz : IntKind.i64.wrap ((ca : Int) - (cb : Int)) = z0 := by rw [IntWalk.i64_in _ (by omega), hz0]
  clear hca hcb hcak hcbk hz0
  go_wp2_with fail
  go_loopg [6, 7, 8, 9] (z0 + 1).toNat (fun g q r i _ wr => ∃ (z : Int) (Q R : Nat), i = .int .i64 z ∧ z ≤ 960000 ∧ -960000 ≤ z ∧ g = (z + 1).toNat ∧ x = Q * y + R ∧ R < y * 2 ^ (z + 1).toNat ∧ RefB wr q Q k ∧ RefB wr r R k ∧ Below w2.heap.size w2 wr)
  case atStart => exact ⟨z0, 0, x, rfl, hzb.2, hzb.1, rfl, by omega, HST.out, ⟨RefV.zero _ _, pw_pos k⟩, H.out, Below.refl _ _⟩
  case round =>
    obtain ⟨z, Q, R, rfl, hz1, hz2, hg, hx, hR, hq, hr, hbel⟩ := hrel
    have HX := Lib.hid hx
    have HR := Lib.hid hR
    have HQ := Lib.hid hq
    have HRR := Lib.hid hr
    have HBE := Lib.hid hbel
    have HG := Lib.hid hg
    clear hx hR hq hr hbel hg
    by_cases hz : 0 ≤ z
    · obtain ⟨i, rfl⟩ : ∃ i : Nat, z = (i : Int) := ⟨z.toNat, by omega⟩
      have ei : ((i : Int) + 1).toNat = i + 1 := by omega
      rw [ei] at HR
      go_wp2_with fail
      refine (refShl_any u y i j _ (H'.out.below HBE.out) (by omega) (by omega)).mono ?_
      rintro e w3 ⟨v3, rfl, hn3, hb3⟩
      have HN3 := Lib.hid hn3
      have HB3 := Lib.hid hb3
      clear hn3 hb3
      go_wp2_with fail
      refine (rcmpB v3 _ (y * 2 ^ i) R (j + i / 32 + 1) k _ HN3.out (HRR.out.below HB3.out) (by omega) (by omega)).mono ?_
      rintro e w4 ⟨rfl, hb4⟩
      have HB4 := Lib.hid hb4
      clear hb4
      by_cases hle : y * 2 ^ i ≤ R
      · obtain ⟨c, hc, hc0⟩ : ∃ c : Int, cmpI (y * 2 ^ i) R = c ∧ c ≤ 0 := ⟨_, rfl, by unfold cmpI; split; decide; rw [if_neg (by omega)]; decide⟩
        rw [hc]
        have hcd : decide (c ≤ 0) = true := decide_eq_true hc0
        have HY := Lib.hid (div_yes HX.out HR.out hle)
        have HLE := Lib.hid hle
        clear hc hle
        go_wp2_with fail
        refine (rsubB _ v3 R (y * 2 ^ i) k (j + i / 32 + 1) _ ((HRR.out.below HB3.out).below HB4.out) (HN3.out.below HB4.out) (by omega) (by omega) HLE.out).mono ?_
        rintro e w5 ⟨v5, rfl, hn5, hb5⟩
        have HN5 := Lib.hid hn5
        have HB5 := Lib.hid hb5
        clear hn5 hb5
        go_wp2_with fail
        refine (rnatOf_one _).mono ?_
        rintro e w6 ⟨v6, rfl, hn6, hb6⟩
        have HN6 := Lib.hid hn6
        have HB6 := Lib.hid hb6
        clear hn6 hb6
        go_wp2_with fail
        refine (refShl_any v6 1 i 1 _ HN6.out (by omega) (by omega)).mono ?_
        rintro e w7 ⟨v7, rfl, hn7, hb7⟩
        rw [Nat.one_mul] at hn7
        have HN7 := Lib.hid hn7
        have HB7 := Lib.hid hb7
        clear hn7 hb7
        have HB37 := Lib.hid (bel_on (bel_on (bel_on (bel_on HB3.out HB4.out) HB5.out) HB6.out) HB7.out)
        go_wp2_with fail
        refine (raddB _ v7 Q (2 ^ i) k (1 + i / 32 + 1) _ (HQ.out.below HB37.out) HN7.out (by omega) (by omega)).mono ?_
        rintro e w8 ⟨v8, rfl, hn8, hb8⟩
        have HQ2 := Lib.hid (show RefB w8 v8 (Q + 2 ^ i) k from ⟨hn8.1, by have := le_of_mul_add HY.out.1 hy; have := H.out.2; omega⟩)
        have HR2 := Lib.hid (((HN5.out.below HB6.out).below HB7.out).below hb8)
        have HB8 := Lib.hid (bel_on HBE.out (bel_on HB37.out hb8))
        clear hn8 hb8
        go_wp2_with fail
        go_roundg i
        case measure => have := HG.out; omega
        case rel => exact ⟨(i : Int) - 1, Q + 2 ^ i, R - y * 2 ^ i, by go_num, by omega, by omega, by omega, HY.out.1, by rw [show ((i : Int) - 1 + 1).toNat = i by omega]; exact HY.out.2, HQ2.out, HR2.out, HB8.out⟩
      · obtain ⟨c, hc, hc0⟩ : ∃ c : Int, cmpI (y * 2 ^ i) R = c ∧ 0 < c := ⟨_, rfl, by unfold cmpI; rw [if_neg (by omega), if_pos (by omega)]; decide⟩
        rw [hc]
        have hcd : decide (c ≤ 0) = false := decide_eq_false (by omega)
        have HLE := Lib.hid (Nat.lt_of_not_le hle)
        have HB34 := Lib.hid (bel_on HB3.out HB4.out)
        clear hc hle
        go_wp2_with fail
        go_roundg i
        case measure => have := HG.out; omega
        case rel => exact ⟨(i : Int) - 1, Q, R, by go_num, by omega, by omega, by omega, HX.out, by rw [show ((i : Int) - 1 + 1).toNat = i by omega]; exact HLE.out, HQ.out.below HB34.out, HRR.out.below HB34.out, bel_on HBE.out HB34.out⟩
    · rw [show (z + 1).toNat = 0 by omega, Nat.pow_zero, Nat.mul_one] at HR
      have HE := Lib.hid (div_end HX.out HR.out)
      have HL := Lib.hid (show R < pw j from Nat.lt_trans HR.out H'.out.2)
      have hzd : decide (0 ≤ z) = false := decide_eq_false hz
      go_wp2_with fail
      go_ret2
      exact ⟨_, _, rfl, by rw [← HE.out.1]; exact HQ.out, by rw [← HE.out.2]; exact ⟨HRR.out.1, HL.out⟩, HBE.out⟩
set_option maxRecDepth 100000 in
set_option maxHeartbeats 4000000 in
theorem rgcd_any (v u : Value) (x y k j : Nat) (w : World) (h : RefB w v x k) (h' : RefB w u y j) (hk : k ≤ 15000) (hj : j ≤ 15000) :
    Calls Tryz.prog 66 #[v, u] w fun e w' => ∃ v', e = .returned v' ∧ RefB w' v' (Nat.gcd x y) (k + j) ∧ Below w.heap.size w w' := by
  have H := Lib.hid (show RefB w v x (k + j) from ⟨h.1, lt_pw_mono h.2 (by omega)⟩)
  have H' := Lib.hid (show RefB w u y (k + j) from ⟨h'.1, lt_pw_mono h'.2 (by omega)⟩)
  obtain ⟨K, hK, hKb⟩ : ∃ K, k + j = K ∧ K ≤ 30000 := ⟨_, rfl, by omega⟩
  rw [hK] at H H' ⊢
  clear h h' hK hk hj
  go_enter Tryz.func66, Tryz.ntmps66
  go_wp2_with fail
  go_loopg [0, 1, 5, 6] y (fun g a b _ _ wr => ∃ A : Nat, RefB wr a A K ∧ RefB wr b g K ∧ Nat.gcd A g = Nat.gcd x y ∧ Below w.heap.size w wr)
  case atStart => exact ⟨x, H.out, H'.out, rfl, Below.refl _ _⟩
  case round =>
    obtain ⟨A, ha, hb, hg, hbel⟩ := hrel
    obtain ⟨ad, len, cap, xs, rfl, _⟩ := hb.1.shape
    have hlen := refB_len hb
    have HA := Lib.hid ha
    have HB := Lib.hid hb
    have HG := Lib.hid hg
    have HBE := Lib.hid hbel
    clear ha hb hg hbel
    by_cases h0 : gk = 0
    · obtain rfl : len = 0 := hlen.2 h0
      subst h0
      rw [Nat.gcd_zero_right] at HG
      clear hlen HB
      go_wp2_with fail
      go_ret
      exact ⟨_, rfl, by rw [← HG.out]; exact HA.out, HBE.out⟩
    · have hl0 : 0 < len := by rcases Nat.eq_zero_or_pos len with e | e; exact absurd (hlen.1 e) h0; exact e
      clear hlen
      go_wp2_with fail
      refine (rdiv_any _ _ A gk K K _ HA.out HB.out hKb hKb h0).mono ?_
      rintro e w2 ⟨vq, vr, rfl, _, hr, hb2⟩
      have HR := Lib.hid hr
      have HB2 := Lib.hid (HB.out.below hb2)
      have HBE2 := Lib.hid (bel_on HBE.out hb2)
      clear hr hb2
      go_wp2_with fail
      go_roundg (A % gk)
      case measure => exact Nat.mod_lt _ (Nat.pos_of_ne_zero h0)
      case rel => exact ⟨gk, HB2.out, HR.out, by rw [← HG.out, Nat.gcd_comm A gk, Nat.gcd_rec gk A, Nat.gcd_comm], HBE2.out⟩
end Go.Proofs.YtpmnakjllkidiaaGreatDoor

namespace Go.Proofs.YtpmnakjllkidiaaGreatDoor
open Go.RowKit Cin
def nq (n d : Int) : Rat := mkRat (if d < 0 then -n else n) d.natAbs
theorem sgn_zero (z : Int) : (sgnZ z == 0) = decide (z = 0) := by
  unfold sgnZ
  by_cases h : z < 0
  · rw [if_pos h]; simp; omega
  · rw [if_neg h]
    by_cases h2 : 0 < z
    · rw [if_pos h2]; simp; omega
    · rw [if_neg h2]; simp; omega
theorem sgn_neg (z : Int) : decide (sgnZ z < 0) = decide (z < 0) := by
  unfold sgnZ
  by_cases h : z < 0
  · rw [if_pos h]; simp [h]
  · rw [if_neg h]
    by_cases h2 : 0 < z
    · rw [if_pos h2]; simp [h]
    · rw [if_neg h2]; simp [h]
def ratS (q : Rat) : ByteArray := if q.den = 1 then intS q.num else intS q.num ++ ⟨#[47]⟩ ++ intS q.den
theorem intS_size {z : Int} {k : Nat} (h : z.natAbs < pw k) : (intS z).size ≤ 10 * k + 2 := by
  have : (decS z.natAbs).size ≤ 10 * k + 1 := dec_len_pw h
  by_cases h0 : z < 0
  · rw [intS_neg h0, ByteArray.size_append]; show 1 + _ ≤ _; omega
  · rw [intS_pos h0]; omega
theorem qtext_any (v : Value) (q : Rat) (k : Nat) (w : World) (h : RatB w v q k) (hk : k ≤ 200000) (hT : TabsP w) :
    Calls Tryz.prog 113 #[v] w fun e w' => e = .returned (.string (ratS q)) ∧ Below w.heap.size w w' := by
  obtain ⟨a, b, c, d, rfl, h⟩ := h
  have s1 := intS_size h.1.2
  have s2 := intS_size (z := (q.den : Int)) (k := k) (by rw [Int.natAbs_natCast]; exact h.2.2)
  refine go (fun w => QB w a b c d q k) [[a, b, c, d]] [some 4] (tr := (.em (.call 132 [.g [.c 0 2, .c 0 3]] [none]) (.em (.pr (.binOp .eql 3 (.tmp 0) (.const (.int .i64 0)) 3) 4 [.s (.c 1 0), .s (.k (.int .i64 0))]) (.cond (.c 2 0) (.em (.call 155 [.g [.c 0 0, .c 0 1]] [none]) (.ret (.v (.s (.c 3 0))))) (.em (.call 155 [.g [.c 0 0, .c 0 1]] [none]) (.em (.pr (.binOp .add 9 (.tmp 0) (.const (.string ⟨#[47]⟩)) 9) 9 [.s (.c 3 0), .s (.k (.string ⟨#[47]⟩))]) (.em (.call 155 [.g [.c 0 2, .c 0 3]] [none]) (.em (.pr (.binOp .add 9 (.tmp 0) (.tmp 1) 9) 9 [.s (.c 4 0), .s (.c 5 0)]) (.ret (.v (.s (.c 6 0)))))))))))) (by kernel_rfl) (by kernel_rfl) (by kernel_rfl) (mQ _ _ _ _ _ _) h ⟨qpl h, trivial⟩ ?_
  refine wVal (fun w b h => sign_any _ (denZ q) k w h.2.1 (by omega)) rfl ?_
  refine wPr (prEq rfl rfl) rfl ?_
  refine wIf _ rfl (fun e => ?_) (fun e => ?_)
  · have e1 : q.den = 1 := by have := (sgn_den q).symm.trans e; simpa using this
    refine wVal (fun w b h => itext_any _ q.num k w h.1 (by omega) (hT.below b)) rfl ?_
    exact wRet fun w b _ => ⟨by unfold ratS; rw [if_pos e1]; rfl, b⟩
  · have e1 : ¬ q.den = 1 := by have := (sgn_den q).symm.trans e; simpa using this
    refine wVal (fun w b h => itext_any _ q.num k w h.1 (by omega) (hT.below b)) rfl ?_
    refine wPr (prSAdd rfl rfl (by show _ + 1 ≤ _; omega)) rfl ?_
    refine wVal (v := .string (intS q.den)) (fun w b h => itext_any _ q.den k w (by have h2 := h.2.1; unfold denZ at h2; rw [if_neg e1] at h2; exact h2) (by omega) (hT.below b)) rfl ?_
    refine wPr (prSAdd rfl rfl (by rw [ByteArray.size_append]; show _ + 1 + _ ≤ _; omega)) rfl ?_
    exact wRet fun w b _ => ⟨by unfold ratS; rw [if_neg e1]; rfl, b⟩
end Go.Proofs.YtpmnakjllkidiaaGreatDoor

namespace Go.Proofs.YtpmnakjllkidiaaGreatDoor
open Go.RowKit Cin
set_option maxRecDepth 100000 in
set_option maxHeartbeats 1000000 in
theorem refParse_any (s : ByteArray) (w : World) : Calls Tryz.prog 64 #[.string s] w (RefPost s w) := by
  by_cases hin : 1 ≤ s.size ∧ s.size ≤ 4000 ∧ (s.size = 1 ∨ lim (byts s) 0 ≠ 48)
  · exact refParse_in s w hin.1 hin.2.1 hin.2.2
  · have hno : ¬ IsNum (byts s) := fun h => by
      obtain ⟨a1, a2, a3, _⟩ := h
      rw [byts_length] at a1 a2 a3
      exact hin ⟨a1, a2, a3⟩
    have HNO := Lib.hid hno
    clear hno
    by_cases h1 : s.size = 0
    · have hd : ((s.size : Int) == 0) = true := beq_iff_eq.2 (by omega)
      clear hin h1
      go_enter Tryz.func64, Tryz.ntmps64
      go_wp2_with fail
      go_ret2
      exact .inr ⟨HNO.out, rfl, Below.refl _ _⟩
    · have hd : ((s.size : Int) == 0) = false := beq_eq_false_iff_ne.2 (by omega)
      by_cases h2 : 4000 < s.size
      · have hd2 : decide ((4000 : Int) < (s.size : Int)) = true := by rw [decide_eq_true_iff]; omega
        clear hin
        go_enter Tryz.func64, Tryz.ntmps64
        go_wp2_with fail
        go_ret2
        exact .inr ⟨HNO.out, rfl, Below.refl _ _⟩
      · have hd2 : decide ((4000 : Int) < (s.size : Int)) = false := by rw [decide_eq_false_iff_not]; omega
        have h0 : 0 < s.size := by omega
        have hb0 := byts_at s h0
        have h3 : lim (byts s) 0 = 48 ∧ 1 < s.size := by omega
        have hd3 : (((s[0].toNat : Nat) : Int) == 48) = true := by rw [hb0, h3.1]; rfl
        have hd4 : decide ((1 : Int) < (s.size : Int)) = true := by rw [decide_eq_true_iff]; omega
        clear hin hb0 h3
        go_enter Tryz.func64, Tryz.ntmps64
        go_wp2_with fail
        go_ret2
        exact .inr ⟨HNO.out, rfl, Below.refl _ _⟩
end Go.Proofs.YtpmnakjllkidiaaGreatDoor

namespace Go.Proofs.YtpmnakjllkidiaaGreatDoor
open Go.RowKit Cin
def negT (s : ByteArray) : Bool := decide (0 < s.size) && decide (lim (byts s) 0 = 45)
def tl (s : ByteArray) : ByteArray := s.extract 1 s.size
theorem byts_tl (s : ByteArray) : byts (tl s) = (byts s).drop 1 := by
  unfold tl; rw [byts_extract, List.take_of_length_le (by rw [List.length_drop, byts_length]; omega)]
def digT (s : ByteArray) : ByteArray := if negT s then tl s else s
def IsInt (s : ByteArray) : Prop := IsNum (byts (digT s)) ∧ (negT s = true → decL (byts (digT s)) ≠ 0)
def intVal (s : ByteArray) : Int := sg (negT s) (decL (byts (digT s)))
theorem hasPrefix_minus (s : ByteArray) : Lib.hasPrefix s.data.toList [45] = negT s := by
  obtain ⟨⟨l⟩⟩ := s
  cases l with
  | nil => rfl
  | cons x l =>
    have hx : lim (byts ⟨⟨x :: l⟩⟩) 0 = x.toNat := rfl
    have hs : (⟨⟨x :: l⟩⟩ : ByteArray).size = l.length + 1 := rfl
    unfold negT
    rw [hx, hs]
    unfold Lib.hasPrefix
    rw [List.isPrefixOf_cons_cons]
    simp only [List.isPrefixOf_nil_left, Bool.and_true, Nat.zero_lt_succ, decide_true, Bool.true_and]
    by_cases h : x = 45
    · subst h; rfl
    · rw [beq_eq_false_iff_ne.2 (Ne.symm h), decide_eq_false]
      intro e
      exact h (UInt8.toNat_inj.1 e)
theorem ten_lt4 : 10 ^ 4000 < pw 500 := by decide +kernel
theorem decL_lt_pw4 {l : List Nat} (h : Digs l) (hl : l.length ≤ 4000) : decL l < pw 500 :=
  Nat.lt_of_lt_of_le (decL_lt h) (Nat.le_trans (Nat.pow_le_pow_right (by decide) hl) (Nat.le_of_lt ten_lt4))
theorem isNum_lt {l : List Nat} (h : IsNum l) : decL l < pw 500 := decL_lt_pw4 h.2.2.2 h.2.1
set_option maxHeartbeats 400000 in
theorem cutPrefixL_any (s : ByteArray) (w : World) :
    Calls Tryz.prog 137 #[.string s, .string ⟨#[45]⟩] w fun e w' => e = .returned (.tuple #[.string (digT s), .bool (negT s)]) ∧ w = w' := by
  have hp := hasPrefix_minus s
  unfold digT
  by_cases hn : negT s = true
  · rw [hn] at hp
    rw [if_pos hn, hn]
    have hsz : 1 ≤ s.size := by unfold negT at hn; simp at hn; omega
    clear hn
    go_enter Tryz.func137, Tryz.ntmps137
    go_wp2_with fail
    refine (Tryz.stringslite_HasPrefix s ⟨#[45]⟩ _).mono ?_
    rintro e w1 ⟨rfl, rfl⟩
    rw [hp]
    go_wp2
    go_ret2
    exact ⟨rfl, rfl⟩
  · have hn' : negT s = false := by simpa using hn
    rw [hn'] at hp
    rw [if_neg hn, hn']
    clear hn hn'
    go_enter Tryz.func137, Tryz.ntmps137
    go_wp2_with fail
    refine (Tryz.stringslite_HasPrefix s ⟨#[45]⟩ _).mono ?_
    rintro e w1 ⟨rfl, rfl⟩
    rw [hp]
    go_wp2
    go_ret2
    exact ⟨rfl, rfl⟩
set_option maxHeartbeats 400000 in
theorem cutPrefix_any (s : ByteArray) (w : World) :
    Calls Tryz.prog 104 #[.string s, .string ⟨#[45]⟩] w fun e w' => e = .returned (.tuple #[.string (digT s), .bool (negT s)]) ∧ w = w' := by
  go_enter Tryz.func104, Tryz.ntmps104
  go_wp2_with fail
  refine (cutPrefixL_any s _).mono ?_
  rintro e w1 ⟨rfl, rfl⟩
  go_wp2
  go_ret2
  exact ⟨rfl, rfl⟩
def ParsePost (s : ByteArray) (w : World) (e : Ending) (w' : World) : Prop :=
  (IsInt s ∧ ∃ v, e = .returned (.tuple #[v, .int .i64 0]) ∧ IntB 161 w' v (intVal s) 500 ∧ Below w.heap.size w w') ∨
  (¬ IsInt s ∧ e = .returned (.tuple #[.agg #[.bool false, .slice none 0 0], .int .i64 2]) ∧ Below w.heap.size w w')
set_option maxRecDepth 100000 in
set_option maxHeartbeats 800000 in
theorem iparse_any (s : ByteArray) (w : World) : Calls Tryz.prog 68 #[.string s] w (ParsePost s w) := by
  go_enter Tryz.func68, Tryz.ntmps68
  go_wp2_with fail
  refine (cutPrefix_any s _).mono ?_
  rintro e w1 ⟨rfl, rfl⟩
  generalize hng : negT s = ng
  generalize hdg : digT s = dg
  by_cases hnum : IsNum (byts dg)
  · have hb500 := isNum_lt hnum
    go_wp2_with fail
    refine (parse_yes dg _ hnum).mono ?_
    rintro e w2 ⟨v2, rfl, hn2, hb2⟩
    obtain ⟨ad2, len2, cap2, rfl, hr2⟩ := hn2.shape
    have HN2 := Lib.hid (show NatB 161 (w2.alloc (Obj.cells #[Value.slice ad2 len2 cap2] 39)) (.agg #[.slice ad2 len2 cap2]) (decL (byts dg)) 500 from ⟨hn2.below (bel_alloc _ _), hb500⟩)
    have hh := ((heldN1 (w := w)).below hb2).new #[Value.slice ad2 len2 cap2] 39
    have hc := cell0 hh.1
    have hsl := Slot.of (n := 2) hh.2.1 rfl
    obtain ⟨x0, y0, hx0, hy0, hfx0, hfy0⟩ := hsl.two
    have HH := Lib.hid hh
    have HB2 := Lib.hid (bel_on (bel_on (bel_alloc _ _) hb2) (bel_alloc w2 (Obj.cells #[Value.slice ad2 len2 cap2] 39)))
    have HNUM := Lib.hid hnum
    clear hn2 hr2 hb2 hh hsl hnum hb500
    generalize hdec : decL (byts dg) = n at *
    have HDEC := Lib.hid hdec
    clear hdec
    have HSG := Lib.hid (show intVal s = sg ng n by unfold intVal; rw [hng, hdg, HDEC.out])
    cases ng
    · have HOK := Lib.hid (show IsInt s from ⟨by rw [hdg]; exact HNUM.out, by rw [hng]; intro h; cases h⟩)
      clear hng hdg hx0 hy0 hfx0 hfy0
      go_wp2_with fail
      refine (signed_any false _ n 500 _ HN2.out (by decide)).mono ?_
      rintro e w3 ⟨v3, rfl, hn3, hb3⟩
      rw [← HSG.out] at hn3
      clear hc
      obtain ⟨bbR, adR, lenR, capR, rfl, hrR⟩ := hn3.shape2
      have hslR := (Slot.of (n := 2) (HH.out.below hb3).2.1 rfl)
      obtain ⟨xR, yR, hxR, hyR, hfxR, hfyR⟩ := hslR.two
      have HRR := Lib.hid (fin_int hn3 hslR (by decide) (bel_on HB2.out hb3) (by omega))
      clear hrR hslR hn3 hb3
      go_wp2
      refine bodyPost_ret (v := .tuple #[.agg #[.bool bbR, .slice adR lenR capR], .int .i64 0]) (by simp [results, Tryz.results68, go_sem, HRR.out.2.2.1, HRR.out.2.2.2]) rfl (.inl ⟨HOK.out, _, rfl, HRR.out.1, HRR.out.2.1⟩)
    · have HZ := Lib.hid (show n ≠ 0 → IsInt s from fun h => ⟨by rw [hdg]; exact HNUM.out, fun _ => by rw [hdg, HDEC.out]; exact h⟩)
      have HZ0 := Lib.hid (show n = 0 → ¬ IsInt s from fun h h2 => h2.2 hng (by rw [hdg, HDEC.out]; exact h))
      clear hng hdg hx0 hy0 hfx0 hfy0
      go_wp2_with fail
      refine (isZero_any _ n 500 _ HN2.out (by decide)).mono ?_
      rintro e w3 ⟨rfl, hb3⟩
      have HH3 := Lib.hid (HH.out.below hb3)
      have hc3 := cell0 HH3.out.1
      have HB3 := Lib.hid (bel_on HB2.out hb3)
      have HN3 := Lib.hid (HN2.out.below hb3)
      clear hb3 hc
      by_cases h0 : n = 0
      · rw [decide_eq_true h0]
        clear hc3
        have hslR := (Slot.of (n := 2) HH3.out.2.1 rfl)
        obtain ⟨xR, yR, hxR, hyR, hfxR, hfyR⟩ := hslR.two
        have HRR := Lib.hid (fin_int (IntB.zero 161 _ 0) hslR (by decide) HB3.out (by omega))
        clear hslR
        go_wp2
        refine bodyPost_ret (v := .tuple #[.agg #[.bool false, .slice none 0 0], .int .i64 2]) (by simp [results, Tryz.results68, go_sem, HRR.out.2.2.1, HRR.out.2.2.2]) rfl (.inr ⟨HZ0.out h0, rfl, HRR.out.2.1⟩)
      · rw [decide_eq_false h0]
        go_wp2_with fail
        refine (signed_any true _ n 500 _ HN3.out (by decide)).mono ?_
        rintro e w4 ⟨v4, rfl, hn4, hb4⟩
        rw [← HSG.out] at hn4
        clear hc3
        obtain ⟨bbR, adR, lenR, capR, rfl, hrR⟩ := hn4.shape2
        have hslR := (Slot.of (n := 2) (HH3.out.below hb4).2.1 rfl)
        obtain ⟨xR, yR, hxR, hyR, hfxR, hfyR⟩ := hslR.two
        have HRR := Lib.hid (fin_int hn4 hslR (by decide) (bel_on HB3.out hb4) (by omega))
        clear hrR hslR hn4 hb4
        go_wp2
        refine bodyPost_ret (v := .tuple #[.agg #[.bool bbR, .slice adR lenR capR], .int .i64 0]) (by simp [results, Tryz.results68, go_sem, HRR.out.2.2.1, HRR.out.2.2.2]) rfl (.inl ⟨HZ.out h0, _, rfl, HRR.out.1, HRR.out.2.1⟩)
  · have HNO := Lib.hid (show ¬ IsInt s from fun h => hnum (by rw [← hdg]; exact h.1))
    clear hng hdg
    go_wp2_with fail
    refine (parse_no dg _ hnum).mono ?_
    rintro e w2 ⟨rfl, hb2⟩
    have hh := ((heldN1 (w := w)).below hb2).new #[Value.slice none 0 0] 39
    have HH := Lib.hid hh
    have HB2 := Lib.hid (bel_on (bel_on (bel_alloc _ _) hb2) (bel_alloc w2 (Obj.cells #[Value.slice none 0 0] 39)))
    clear hh hb2
    have hslR := (Slot.of (n := 2) HH.out.2.1 rfl)
    obtain ⟨xR, yR, hxR, hyR, hfxR, hfyR⟩ := hslR.two
    have HRR := Lib.hid (fin_int (IntB.zero 161 _ 0) hslR (by decide) HB2.out (by omega))
    clear hslR
    go_wp2
    refine bodyPost_ret (v := .tuple #[.agg #[.bool false, .slice none 0 0], .int .i64 2]) (by simp [results, Tryz.results68, go_sem, HRR.out.2.2.1, HRR.out.2.2.2]) rfl (.inr ⟨HNO.out, rfl, HRR.out.2.1⟩)
end Go.Proofs.YtpmnakjllkidiaaGreatDoor

namespace Go.Proofs.YtpmnakjllkidiaaGreatDoor
open Go.RowKit Cin
def RIntPost (s : ByteArray) (w : World) (e : Ending) (w' : World) : Prop :=
  (IsInt s ∧ ∃ v, e = .returned (.tuple #[v, .bool true]) ∧ IntB 161 w' v (intVal s) 500 ∧ Below w.heap.size w w') ∨
  (¬ IsInt s ∧ e = .returned (.tuple #[.agg #[.bool false, .slice none 0 0], .bool false]) ∧ Below w.heap.size w w')
theorem refV_len {t : TypeId} {w : World} {ad : Option Addr} {len cap n : Nat} (h : RefV t w (.slice ad len cap) n) : len = 0 ↔ n = 0 := by
  obtain ⟨xs, hs, ho, hnm, rfl⟩ := h
  have hl := hs.len
  constructor
  · intro e
    rw [List.length_eq_zero_iff.1 (hl.trans e)]; rfl
  · intro e
    rw [norm_val_zero hnm e] at hl
    exact hl.symm
set_option maxRecDepth 100000 in
set_option maxHeartbeats 800000 in
theorem rparse_any (s : ByteArray) (w : World) : Calls Tryz.prog 62 #[.string s] w (RIntPost s w) := by
  by_cases hn : negT s = true
  · have hdg : digT s = tl s := if_pos hn
    have hn2 := hn
    unfold negT at hn2
    simp only [Bool.and_eq_true, decide_eq_true_eq] at hn2
    have h0 : 0 < s.size := hn2.1
    have hb0 := byts_at s h0
    have hd1 : decide ((0 : Int) < (s.size : Int)) = true := by rw [decide_eq_true_iff]; omega
    have hd2 : (((s[0].toNat : Nat) : Int) == 45) = true := by rw [hb0, hn2.2]; rfl
    have HN := Lib.hid hn
    have HDG := Lib.hid hdg
    clear hn hn2 hb0 hdg
    go_enter Tryz.func62, Tryz.ntmps62
    go_wp2_with fail
    refine (refParse_any (tl s) _).mono ?_
    rintro e w1 (⟨hnum, v, rfl, hv, hb⟩ | ⟨hnum, rfl, hb⟩)
    · obtain ⟨ad, len, cap, xs, rfl, _⟩ := hv.shape
      have hl := refV_len hv
      have HNUM := Lib.hid hnum
      have HV := Lib.hid hv
      have HH := Lib.hid ((heldN1 (w := w)).below hb)
      have HB := Lib.hid (bel_on (bel_alloc _ _) hb)
      clear hnum hv hb
      by_cases hz : len = 0
      · have hz0 := hl.1 hz
        have HNO := Lib.hid (show ¬ IsInt s from fun h => h.2 HN.out (by rw [HDG.out]; exact hz0))
        subst hz
        clear hl hz0
        have hslR := (Slot.of (n := 2) HH.out.1 rfl)
        obtain ⟨xR, yR, hxR, hyR, hfxR, hfyR⟩ := hslR.two
        have HRR := Lib.hid (fin_int (IntB.zero 161 _ 0) hslR (by decide) HB.out (by omega))
        clear hslR
        go_wp2
        refine bodyPost_ret (v := .tuple #[.agg #[.bool false, .slice none 0 0], .bool false]) (by simp [results, Tryz.results62, go_sem, HRR.out.2.2.1, HRR.out.2.2.2]) rfl (.inr ⟨HNO.out, rfl, HRR.out.2.1⟩)
      · have hz0 := fun h => hz (hl.2 h)
        have HOK := Lib.hid (show IsInt s from ⟨by rw [HDG.out]; exact HNUM.out, fun _ => by rw [HDG.out]; exact hz0⟩)
        have hI := intB_of (b := true) (bb := true) (k := 500) HV.out (isNum_lt HNUM.out) (by rw [decide_eq_false hz0]; rfl)
        rw [show sg true (decL (byts (tl s))) = intVal s by unfold intVal; rw [HN.out, HDG.out]] at hI
        have hzb : ((len : Int) == 0) = false := beq_eq_false_iff_ne.2 (by omega)
        have HI := Lib.hid hI
        have HSL := Lib.hid (Slot.of (n := 2) HH.out.1 rfl)
        have HRR := Lib.hid (fin_int HI.out HSL.out (by decide) HB.out (Nat.le_refl _))
        obtain ⟨xR, yR, hxR, hyR, hfxR, hfyR⟩ := HSL.out.two
        clear hl hz0 hI
        go_wp2
        refine bodyPost_ret (v := .tuple #[.agg #[.bool true, .slice ad len cap], .bool true]) (by simp [results, Tryz.results62, go_sem, HRR.out.2.2.1, HRR.out.2.2.2]) rfl (.inl ⟨HOK.out, _, rfl, HRR.out.1, HRR.out.2.1⟩)
    · have HNO := Lib.hid (show ¬ IsInt s from fun h => hnum (by rw [← HDG.out]; exact h.1))
      have HH := Lib.hid ((heldN1 (w := w)).below hb)
      have HB := Lib.hid (bel_on (bel_alloc _ _) hb)
      clear hb hnum
      have hslR := (Slot.of (n := 2) HH.out.1 rfl)
      obtain ⟨xR, yR, hxR, hyR, hfxR, hfyR⟩ := hslR.two
      have HRR := Lib.hid (fin_int (IntB.zero 161 _ 0) hslR (by decide) HB.out (by omega))
      clear hslR
      go_wp2
      refine bodyPost_ret (v := .tuple #[.agg #[.bool false, .slice none 0 0], .bool false]) (by simp [results, Tryz.results62, go_sem, HRR.out.2.2.1, HRR.out.2.2.2]) rfl (.inr ⟨HNO.out, rfl, HRR.out.2.1⟩)
  · have hdg : digT s = s := if_neg hn
    have HN := Lib.hid (show negT s = false by simpa using hn)
    have HDG := Lib.hid hdg
    have hcase : (s.size = 0 ∧ decide ((0 : Int) < (s.size : Int)) = false) ∨ (∃ h0 : 0 < s.size, decide ((0 : Int) < (s.size : Int)) = true ∧ (((s[0].toNat : Nat) : Int) == 45) = false) := by
      by_cases h0 : 0 < s.size
      · right
        refine ⟨h0, by rw [decide_eq_true_iff]; omega, ?_⟩
        rw [byts_at s h0, beq_eq_false_iff_ne]
        intro e
        apply hn
        unfold negT
        simp only [Bool.and_eq_true, decide_eq_true_eq]
        exact ⟨h0, by omega⟩
      · left
        refine ⟨by omega, ?_⟩
        rw [decide_eq_false_iff_not]; omega
    clear hn hdg
    rcases hcase with ⟨hs0, hd⟩ | ⟨h0, hd, hd2⟩
    all_goals
      go_enter Tryz.func62, Tryz.ntmps62
      go_wp2_with fail
      refine (refParse_any s _).mono ?_
      rintro e w1 (⟨hnum, v, rfl, hv, hb⟩ | ⟨hnum, rfl, hb⟩)
      · obtain ⟨ad, len, cap, xs, rfl, _⟩ := hv.shape
        have HOK := Lib.hid (show IsInt s from ⟨by rw [HDG.out]; exact hnum, by rw [HN.out]; intro h; cases h⟩)
        have hI := intB_of (b := false) (bb := false) (k := 500) hv (isNum_lt hnum) rfl
        rw [show sg false (decL (byts s)) = intVal s by unfold intVal; rw [HN.out, HDG.out]] at hI
        have HI := Lib.hid hI
        have HSL := Lib.hid (Slot.of (n := 2) ((heldN1 (w := w)).below hb).1 rfl)
        have HRR := Lib.hid (fin_int HI.out HSL.out (by decide) (bel_on (bel_alloc _ _) hb) (Nat.le_refl _))
        obtain ⟨xR, yR, hxR, hyR, hfxR, hfyR⟩ := HSL.out.two
        clear hnum hv hb hI
        go_wp2
        refine bodyPost_ret (v := .tuple #[.agg #[.bool false, .slice ad len cap], .bool true]) (by simp [results, Tryz.results62, go_sem, HRR.out.2.2.1, HRR.out.2.2.2]) rfl (.inl ⟨HOK.out, _, rfl, HRR.out.1, HRR.out.2.1⟩)
      · have HNO := Lib.hid (show ¬ IsInt s from fun h => hnum (by rw [← HDG.out]; exact h.1))
        have HH := Lib.hid ((heldN1 (w := w)).below hb)
        have HB := Lib.hid (bel_on (bel_alloc _ _) hb)
        clear hb hnum
        have hslR := (Slot.of (n := 2) HH.out.1 rfl)
        obtain ⟨xR, yR, hxR, hyR, hfxR, hfyR⟩ := hslR.two
        have HRR := Lib.hid (fin_int (IntB.zero 161 _ 0) hslR (by decide) HB.out (by omega))
        clear hslR
        go_wp2
        refine bodyPost_ret (v := .tuple #[.agg #[.bool false, .slice none 0 0], .bool false]) (by simp [results, Tryz.results62, go_sem, HRR.out.2.2.1, HRR.out.2.2.2]) rfl (.inr ⟨HNO.out, rfl, HRR.out.2.1⟩)
end Go.Proofs.YtpmnakjllkidiaaGreatDoor

namespace Go.Proofs.YtpmnakjllkidiaaGreatDoor
open Go.RowKit Cin
theorem hNatT : Tryz.prog.underlying 44 = some (.slice 161) := by kernel_rfl
theorem hStrT : Tryz.prog.underlying 9 = some .string := by kernel_rfl
def DenV (w : World) (d : Value) (q : Rat) : Prop := ∃ n, RefV 161 w d n ∧ (n = q.den ∨ (n = 0 ∧ q.den = 1))
def DQ (w : World) (a b d : Value) (q : Rat) (k : Nat) : Prop := IB w a b q.num k ∧ DenV w d q ∧ q.den < pw k
def DRatB (w : World) (v : Value) (q : Rat) (k : Nat) : Prop := ∃ a b d, v = .agg #[a, b, d] ∧ DQ w a b d q k
theorem mD {D : TypeId → Bool} (a b d : Value) (q : Rat) (k : Nat) (hD : D 161 = true := by rfl) : Mono D fun w => DQ w a b d q k := fun _ _ e ⟨h1, ⟨n, h2, hn⟩, h3⟩ => ⟨h1.ext e hD, ⟨n, h2.ext e hD, hn⟩, h3⟩
theorem dpl {w : World} {a b d : Value} {q : Rat} {k : Nat} (h : DQ w a b d q k) : [a, b, d].all Value.oneCell' = true := by
  have p1 := ipl h.1
  obtain ⟨n, h2, _⟩ := h.2.1
  obtain ⟨ad, len, cap, _, rfl, _⟩ := h2.shape
  simp only [List.all_cons, List.all_nil, Bool.and_true, Bool.and_eq_true] at p1 ⊢
  exact ⟨p1.1, p1.2, rfl⟩
theorem ibr {w : World} {x y : Value} {z : Int} {k : Nat} (h : IB w x y z k) : RefB w y z.natAbs k := by
  obtain ⟨⟨s, e, r⟩, hk⟩ := h
  cases e
  exact ⟨r, hk⟩
theorem mR (v : Value) (n k : Nat) : Mono DD fun w => RefB w v n k := monoRef hU _ _ _
theorem dden_any (v : Value) (q : Rat) (k : Nat) (w : World) (h : DRatB w v q k) :
    Calls Tryz.prog 61 #[v] w fun e w' => ∃ v', e = .returned v' ∧ RefB w' v' q.den k ∧ Below w.heap.size w w' := by
  obtain ⟨a, b, d, rfl, h⟩ := h
  obtain ⟨n, hr, hn⟩ := h.2.1
  obtain ⟨ad, len, cap, _, rfl, _⟩ := hr.shape
  have hl := refV_len hr
  have hk := h.2.2
  refine go (fun w => RefV 161 w (.slice ad len cap) n) [[a, b, .slice ad len cap]] [some 3] (tr := (.em (.pr (.call (.mk (.builtin .len) #[.tmp 0] #[44])) 3 [.s (.c 0 2)]) (.em (.pr (.binOp .eql 3 (.tmp 0) (.const (.int .i64 0)) 3) 4 [.s (.c 1 0), .s (.k (.int .i64 0))]) (.cond (.c 2 0) (.em (.call 63 [.s (.k (.int .u64 1))] [none]) (.ret (.v (.s (.c 3 0))))) (.ret (.v (.s (.c 0 2)))))))) (by kernel_rfl) (by kernel_rfl) (by kernel_rfl) (fun _ _ e h => h.ext e hU) hr ⟨dpl h, trivial⟩ ?_
  refine wPr (prLen hNatT rfl) rfl ?_
  refine wPr (prEq rfl rfl) rfl ?_
  refine wIf _ rfl (fun e => ?_) (fun e => ?_)
  · have e1 : len = 0 := by have : (len : Int) = 0 := by simpa using e
                            omega
    have e2 : q.den = 1 := by have := hl.1 e1; have := q.den_pos; rcases hn with h | h <;> omega
    refine wRef hU (fun w b _ => rnatOf_one w) (fun x1 => ?_)
    exact wRet fun w b ⟨h1, _⟩ => ⟨_, rfl, ⟨by rw [e2]; exact h1.1, hk⟩, b⟩
  · have e1 : ¬ len = 0 := by have : ¬ (len : Int) = 0 := by simpa using e
                              omega
    have e2 : n = q.den := by rcases hn with h | h
                              · exact h
                              · exact absurd (hl.2 h.1) e1
    exact wRet fun w b h1 => ⟨_, rfl, ⟨by rw [← e2]; exact h1, hk⟩, b⟩
theorem pos_any (v : Value) (n k : Nat) (w : World) (h : RefB w v n k) :
    Calls Tryz.prog 60 #[v] w fun e w' => ∃ v', e = .returned v' ∧ IntB 161 w' v' (n : Int) k ∧ Below w.heap.size w w' := by
  obtain ⟨ad, len, cap, _, rfl, _⟩ := h.1.shape
  refine go (fun w => RefB w (.slice ad len cap) n k) [[.slice ad len cap]] [none] (tr := (.ret (.v (.g [.k (.bool false), .c 0 0])))) (by kernel_rfl) (by kernel_rfl) (by kernel_rfl) (mR _ _ _) h ⟨rfl, trivial⟩ ?_
  exact wRet fun w b h => ⟨_, rfl, intB_of (b := false) (bb := false) h.1 h.2 rfl, b⟩
theorem cmpI_one (n : Nat) : (cmpI n 1 == 0) = decide (n = 1) := by
  unfold cmpI
  by_cases h1 : n < 1
  · rw [if_pos h1]; simp; omega
  · rw [if_neg h1]
    by_cases h2 : 1 < n
    · rw [if_pos h2]; simp; omega
    · rw [if_neg h2]; simp; omega
theorem cmpI_one' (n : Nat) : (cmpI n 1 != 0) = decide (n ≠ 1) := by
  have := cmpI_one n
  simp only [bne, this, decide_not]
end Go.Proofs.YtpmnakjllkidiaaGreatDoor

namespace Go.Proofs.YtpmnakjllkidiaaGreatDoor
open Go.RowKit Cin
def slashAt (s : ByteArray) : Int := Lib.indexByte s.data.toList 47
def nPart (s : ByteArray) : ByteArray := s.extract 0 (slashAt s).toNat
def dPart (s : ByteArray) : ByteArray := s.extract ((slashAt s).toNat + 1) s.size
def RatOk (s : ByteArray) : Prop := (slashAt s < 0 ∧ IsInt s) ∨ (0 ≤ slashAt s ∧ IsInt (nPart s) ∧ IsNum (byts (dPart s)) ∧ 1 < decL (byts (dPart s)) ∧ Nat.gcd (decL (byts (dPart s))) (intVal (nPart s)).natAbs = 1)
def ratVal (s : ByteArray) : Rat := if slashAt s < 0 then mkRat (intVal s) 1 else mkRat (intVal (nPart s)) (decL (byts (dPart s)))
theorem slash_lt (s : ByteArray) : slashAt s < s.size := by
  unfold slashAt
  by_cases h : Lib.indexByte s.data.toList 47 < 0
  · omega
  · obtain ⟨o, ho⟩ := Int.eq_ofNat_of_zero_le (Int.not_lt.1 h)
    have := (Lib.indexByte_some ho).1
    have h2 := (List.getElem?_eq_some_iff.1 this).1
    have e : s.data.toList.length = s.size := by rw [Array.length_toList]; rfl
    omega
theorem ratVal_int {s : ByteArray} (h : slashAt s < 0) : (ratVal s).num = intVal s ∧ (ratVal s).den = 1 := by
  unfold ratVal
  rw [if_pos h]
  exact rat_of (by decide) (Nat.coprime_one_right _) rfl
theorem ratVal_quo {s : ByteArray} (h : 0 ≤ slashAt s) (h1 : 1 < decL (byts (dPart s))) (h2 : Nat.gcd (decL (byts (dPart s))) (intVal (nPart s)).natAbs = 1) : (ratVal s).num = intVal (nPart s) ∧ (ratVal s).den = decL (byts (dPart s)) := by
  unfold ratVal
  rw [if_neg (by omega)]
  exact rat_of (by omega) (by rw [Nat.coprime_comm]; exact h2) rfl
theorem rparseY (s : ByteArray) (w : World) (h : IsInt s) : Calls Tryz.prog 62 #[.string s] w fun e w' => ∃ v, e = .returned (.tuple #[v, .bool true]) ∧ IntB 161 w' v (intVal s) 500 ∧ Below w.heap.size w w' :=
  (rparse_any s w).mono fun e w' hp => by
    rcases hp with ⟨_, h⟩ | ⟨hn, _⟩
    · exact h
    · exact absurd h hn
theorem rparseN (s : ByteArray) (w : World) (h : ¬ IsInt s) : Calls Tryz.prog 62 #[.string s] w fun e w' => e = .returned (.tuple #[.agg #[.bool false, .slice none 0 0], .bool false]) ∧ Below w.heap.size w w' :=
  (rparse_any s w).mono fun e w' hp => by
    rcases hp with ⟨hn, _⟩ | ⟨_, h⟩
    · exact absurd hn h
    · exact h
theorem nparseY (s : ByteArray) (w : World) (h : IsNum (byts s)) : Calls Tryz.prog 64 #[.string s] w fun e w' => ∃ v, e = .returned (.tuple #[v, .bool true]) ∧ (RefV 161 w' v (decL (byts s)) ∧ decL (byts s) < pw 500) ∧ Below w.heap.size w w' :=
  (refParse_any s w).mono fun e w' hp => by
    rcases hp with ⟨hn, v, e1, h1, h2⟩ | ⟨hn, _⟩
    · exact ⟨v, e1, ⟨h1, isNum_lt hn⟩, h2⟩
    · exact absurd h hn
theorem nparseN (s : ByteArray) (w : World) (h : ¬ IsNum (byts s)) : Calls Tryz.prog 64 #[.string s] w fun e w' => e = .returned (.tuple #[.slice none 0 0, .bool false]) ∧ Below w.heap.size w w' :=
  (refParse_any s w).mono fun e w' hp => by
    rcases hp with ⟨hn, _⟩ | ⟨_, h⟩
    · exact absurd hn h
    · exact h
def Srch (s : ByteArray) (cs : List Value) : Prop := ∃ (p : Int) (i : Nat), cs = [.int .i64 p, .int .i64 i] ∧ i ≤ s.size ∧
  ((p = -1 ∧ ∀ k, k < i → s.data.toList[k]? ≠ some 47) ∨ (∃ o : Nat, p = o ∧ o < i ∧ s.data.toList[o]? = some 47 ∧ ∀ k, k < o → s.data.toList[k]? ≠ some 47))
theorem index_of {l : List UInt8} {c : UInt8} {o : Nat} (h : l[o]? = some c) (hn : ∀ k, k < o → l[k]? ≠ some c) : Lib.indexByte l c = o := by
  by_cases h0 : Lib.indexByte l c < 0
  · have := Lib.indexByte_ge l c
    exact absurd h (Lib.indexByte_none (show Lib.indexByte l c = -1 by omega) o)
  · obtain ⟨m, hm⟩ := Int.eq_ofNat_of_zero_le (Int.not_lt.1 h0)
    obtain ⟨h1, h2⟩ := Lib.indexByte_some hm
    rcases Nat.lt_trichotomy m o with h3 | h3 | h3
    · exact absurd h1 (hn m h3)
    · omega
    · exact absurd h (h2 o h3)
theorem index_no {l : List UInt8} {c : UInt8} (hn : ∀ k, k < l.length → l[k]? ≠ some c) : Lib.indexByte l c = -1 := by
  by_cases h0 : Lib.indexByte l c < 0
  · have := Lib.indexByte_ge l c; omega
  · obtain ⟨m, hm⟩ := Int.eq_ofNat_of_zero_le (Int.not_lt.1 h0)
    obtain ⟨h1, _⟩ := Lib.indexByte_some hm
    exact absurd h1 (hn m (List.getElem?_eq_some_iff.1 h1).1)
theorem bytes_len (s : ByteArray) : s.data.toList.length = s.size := by rw [Array.length_toList]; rfl
def Smu (s : ByteArray) : List Value → Nat
  | [_, .int _ i] => s.size - i.toNat
  | _ => 0
theorem wrap_small {z : Int} (h0 : 0 ≤ z) (h1 : z ≤ 9223372036854775807) : IntKind.i64.wrap z = z := by
  unfold IntKind.wrap
  simp [IntKind.signed, IntKind.bits]
  omega
end Go.Proofs.YtpmnakjllkidiaaGreatDoor
