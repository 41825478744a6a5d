/- Contracts of nat's divideByLimb, of slices.Clone, of groupsOf. -/
import Derived.Test.YtfohgkabmdhhaaaGreatDoorYe
import Derived.Test.YtfohgkabmdhhaaaGreatDoorYf
import Derived.Test.YtfohgkabmdhhaaaGreatDoorYc
import Derived.Lib.AppendStr
import Derived.Lib.SlBytesRow
namespace Cin
open Go Go.RowKit
section
variable {t : TypeId} {k : IntKind} {w w' : World} {base : Nat} {v : Value} {xs : List Nat}
theorem Own.take {ad : Option Addr} {n cap m : Nat} (h : Own t k w base (.slice ad n cap) xs) (hm : m ≤ n) : Own t k w base (.slice ad m cap) (xs.take m) := by
  have hlen := h.1
  have hus : us k (xs.take m) = (us k xs).take m := by simp [us, List.map_take]
  rcases h.2 with ⟨e, hn⟩ | ⟨g, cap', cur, e, hb, hg, hn, hx, hs, ht⟩
  · cases e
    obtain rfl : m = 0 := by omega
    rw [List.take_zero]
    exact Own.nil _ _ _ _
  · cases e
    have hl : (xs.take m).length = m := by rw [List.length_take]; omega
    refine ⟨by rw [hus, hl, List.length_take, hlen]; omega, .inr ⟨g, cap, cur, by rw [hl], hb, hg, by omega, hx, hs, ?_⟩⟩
    rw [hl, hus, ← ht, List.take_take, Nat.mul_one, Nat.mul_one, Nat.min_eq_left hm]
theorem Own.keep {S : Nat → Prop} (h : Own t k w base v xs) (hw : Keep S w w') (hs : ∀ b, S b → b < base) : Own t k w' base v xs := by
  refine ⟨h.1, ?_⟩
  rcases h.2 with h2 | ⟨g, cap, cur, rfl, hbg, hg, r⟩
  · exact .inl h2
  · exact .inr ⟨g, cap, cur, rfl, hbg, by rw [hw.block g (lt_of_heap hg) (fun h3 => by have := hs g h3; omega)]; exact hg, r⟩
theorem Own.below2 {B : Nat} {g n cap : Nat} (h : Own t k w base (.slice (some ⟨g, 0, none⟩) n cap) xs) (hb : Below B w w') (hg : g < B) : Own t k w' base (.slice (some ⟨g, 0, none⟩) n cap) xs := by
  refine ⟨h.1, ?_⟩
  rcases h.2 with ⟨e, _⟩ | ⟨g', cap, cur, e, hbg, hg', r⟩
  · cases e
  · cases e; exact .inr ⟨_, cap, cur, rfl, hbg, by rw [hb.block _ hg]; exact hg', r⟩
end
/-- 'append(s, x...)' of a slice of integers to a slice of the call's own. -/
theorem wpList_append_sl {P : Program} {ops : Array Oper} {rest : List Oper} {o : Oper} {a : Act} {Q : Exit → Act → World → Prop} (wr : World) (hgd : o.guard = none) (s x : Operand) (t : TypeId)
    (ho : o.op = .call { callee := .builtin .append, args := #[s, x], argTypes := #[t, t] }) (base : Nat) (e : TypeId) (i : TypeInfo) (k : IntKind) (bytes : Nat)
    (ht : P.underlying t = some (.slice e)) (hi : P.info? e = some i) (hz : i.zero = some (.int k 0)) (hsize : i.size = 1) (hby : i.bytes = bytes)
    (v : Value) (xs : List Nat) (hs : a.eval s = v) (hown : Own e k wr base v xs) (b off m c : Nat) (ys : List Nat) (hx : a.eval x = .slice (some ⟨b, off, none⟩) m c) (hm : m = ys.length) (hsl : Sl e k wr (.slice (some ⟨b, off, none⟩) m c) ys)
    (hlen : xs.length + ys.length ≤ 1000000000) (hbytes : (xs.length + ys.length) * bytes ≤ 140737488355328) (hbase : base ≤ wr.heap.size)
    (h : ∀ v' w', Own e k w' base v' (xs ++ ys) → Below base wr w' → (v' = .slice none 0 0 ↔ v = .slice none 0 0 ∧ m = 0) → wpList P ops Q rest (a.put o.dst v') w') : wpList P ops Q (o :: rest) a wr := by
  subst hm
  refine wpList_append_own _ hgd s x t ho base e i (.int k 0) 1 bytes ht hi hz hsize hby rfl (by decide) v xs.length (us k xs) hs hown ⟨b, off, none⟩ ys.length c (us k ys) hx (by simp [us])
    (fun j u hj => ?_) (fun u hu => ?_) (by unfold maxLen; omega) hbytes hbase ?_
  · rcases Nat.lt_or_ge j ys.length with hl | hl
    · rw [us_get hl] at hj
      obtain ⟨b', off', e', hc, _⟩ := hsl.cell hl
      cases e'
      injection hj with hj
      subst hj
      have ea : Addr.add ⟨b, off, none⟩ j = ⟨b, off + j, none⟩ := by unfold Addr.add; split <;> simp_all
      rw [ea]; exact hc
    · rw [List.getElem?_eq_none (by simp [us]; omega)] at hj; cases hj
  · obtain ⟨y, _, rfl⟩ := List.mem_map.1 hu
    rfl
  · intro v' w' h1 h2 h3
    refine h v' w' ?_ ?_ h3
    · unfold Own
      rw [List.length_append, show us k (xs ++ ys) = us k xs ++ us k ys by simp [us]]
      exact h1
    · exact (Below.refl _ wr).grown h2 hbase (fun g hg => (World.ownsRow.lt hown g hg).1)
/-- One word of a division by a word. -/
theorem step_div {xs zs : List Nat} {i q d t z r : Nat} (hl : zs.length = xs.length) (hok : Ok zs) (hv : val (zs.drop (i + 1)) * d + q = val (xs.drop (i + 1))) (hun : ∀ j, j ≤ i → lim zs j = lim xs j) (hi : i < xs.length)
    (et : t = q * 4294967296 + lim xs i) (hz : z = t / d) (hr : r = t % d) (hq : q < d) (hx : lim xs i < 4294967296) (hd : d < 4294967296) :
    z < 4294967296 ∧ r < d ∧ (zs.set i z).length = xs.length ∧ Ok (zs.set i z) ∧ val ((zs.set i z).drop i) * d + r = val (xs.drop i) ∧ ∀ j, j < i → lim (zs.set i z) j = lim xs j := by
  have hd0 : 0 < d := by omega
  have hzl : z < 4294967296 := by
    rw [hz]
    refine Nat.div_lt_of_lt_mul ?_
    have : (q + 1) * 4294967296 ≤ d * 4294967296 := Nat.mul_le_mul_right _ hq
    omega
  refine ⟨hzl, by rw [hr]; exact Nat.mod_lt _ hd0, by rw [List.length_set, hl], hok.set _ _ hzl, ?_, fun j hj => by rw [lim_set_other (by omega)]; exact hun j (by omega)⟩
  rw [val_drop_step, val_drop_step xs, lim_set_same (by omega), List.drop_set_of_lt (by omega)]
  have e1 : z * d + r = t := by rw [hz, hr, Nat.mul_comm]; exact Nat.div_add_mod t d
  rw [Nat.add_mul, ← hv, Nat.mul_add, Nat.mul_assoc]
  omega

end Cin
namespace Go.Proofs.YtfohgkabmdhhaaaGreatDoor
open Go.RowKit Cin

set_option maxRecDepth 100000 in
set_option maxHeartbeats 1000000 in
/-- divideByLimb: how often d goes into x, in x's place; what is left is told. -/
theorem divLimb_any (g n cap : Nat) (xs : List Nat) (d base : Nat) (w : World) (h : Own 146 .u32 w base (.slice (some ⟨g, 0, none⟩) n cap) xs) (hn : n = xs.length) (ho : Ok xs) (hd0 : 0 < d) (hd : d < 4294967296) (hl : n ≤ 100000000) :
    Calls Tryz.prog 182 #[.slice (some ⟨g, 0, none⟩) n cap, .int .u32 d] w fun e w' => ∃ zs, e = .returned (.int .u32 (val xs % d : Nat)) ∧ Own 146 .u32 w' base (.slice (some ⟨g, 0, none⟩) n cap) zs ∧ zs.length = n ∧ Ok zs ∧ val zs = val xs / d ∧ Keep (· = g) w w' := by
  have H := Lib.hid h
  have HN := Lib.hid hn
  clear h hn
  go_enter Tryz.func182, Tryz.ntmps182
  go_wp2_with fail
  go_loopw [5, 6] (fun c i wr => ∃ (k q : Nat) (zs : List Nat), k ≤ n ∧ i = .int .i64 ((k : Int) - 1) ∧ c = .int .u64 q ∧ q < d ∧ zs.length = xs.length ∧ Ok zs ∧ val (zs.drop k) * d + q = val (xs.drop k) ∧
      (∀ j, j < k → lim zs j = lim xs j) ∧ Own 146 .u32 wr base (.slice (some ⟨g, 0, none⟩) n cap) zs ∧ Keep (· = g) w wr) (fun _ i _ => (intOf i + 1).toNat)
  case atStart => exact ⟨n, 0, xs, Nat.le_refl _, rfl, rfl, hd0, rfl, ho, by rw [List.drop_of_length_le (by have := HN.out; omega), val_nil]; omega, fun _ _ => rfl, H.out, Keep.refl _ _⟩
  case round =>
    obtain ⟨k, q, zs, hk, rfl, rfl, hq, hzl, hok, hv, hun, hown, hkeep⟩ := hrel
    have hzn : n = zs.length := by have := HN.out; omega
    by_cases hk0 : k = 0
    · subst hk0
      have hv0 : val zs * d + q = val xs := by simpa using hv
      have hq2 : q = val xs % d := by rw [← hv0, Nat.add_comm, Nat.add_mul_mod_self_right, Nat.mod_eq_of_lt hq]
      have hz2 : val zs = val xs / d := by rw [← hv0, Nat.add_comm, Nat.add_mul_div_right _ _ hd0, Nat.div_eq_of_lt hq, Nat.zero_add]
      have HR := Lib.hid (show ∃ zs', Own 146 .u32 wr base (.slice (some ⟨g, 0, none⟩) n cap) zs' ∧ zs'.length = n ∧ Ok zs' ∧ val zs' = val xs / d ∧ Keep (· = g) w wr from ⟨zs, hown, hzn.symm, hok, hz2, hkeep⟩)
      have HQ := Lib.hid hq2
      have hq32 : q < 4294967296 := by omega
      clear hv hun hown hkeep hv0 hq2 hz2 hzl hzn
      go_wp2_with fail
      go_ret
      obtain ⟨zs', r1, r2, r3, r4, r5⟩ := HR.out
      exact ⟨zs', ret_int (by rw [← HQ.out]), r1, r2, r3, r4, r5⟩
    · obtain ⟨i, rfl⟩ : ∃ i, k = i + 1 := ⟨k - 1, by omega⟩
      have hcell := hown.cell hzn (i := i) (by omega)
      have hf := hown.free hzn i
      rw [hun i (by omega)] at hcell
      have hlim : lim xs i < 4294967296 := lim_lt ho _
      have hor : bits BinOp.or IntKind.u64 ((q : Int) * 4294967296) ((lim xs i : Nat) : Int) = ((q * 4294967296 + lim xs i : Nat) : Int) := by
        have := or_u64 (x := q) (y := lim xs i) (s := 32) (by omega) (by omega) (by omega)
        simpa using this
      obtain ⟨t, et⟩ : ∃ t : Nat, t = q * 4294967296 + lim xs i := ⟨_, rfl⟩
      rw [← et] at hor
      obtain ⟨z, hz, ez⟩ : ∃ z : Nat, IntKind.u64.wrap ((t : Int) / (d : Int)) = (z : Int) ∧ z = t / d := ⟨t / d, by
        rw [← Int.natCast_ediv, IntKind.wrap_u64]
        have := Nat.div_le_self t d
        generalize t / d = z at *
        omega, rfl⟩
      obtain ⟨r, hr, er⟩ : ∃ r : Nat, (t : Int).tmod (d : Int) = (r : Int) ∧ r = t % d := ⟨t % d, rfl, rfl⟩
      have R := step_div hzl hok hv (fun j hj => hun j (by omega)) (by have := HN.out; omega) et ez er hq hlim hd
      have HR := Lib.hid R
      have hz32 : z < 4294967296 := R.1
      have HO := Lib.hid (hown.set hzn i z)
      have HK := Lib.hid (hkeep.setCell (a := ⟨g, i, none⟩) rfl (.int .u32 (z : Nat)))
      have ei : ((i + 1 : Nat) : Int) - 1 = (i : Int) := by omega
      clear R et ez er hown hkeep hv hun hzl hzn
      go_wp2_with fail
      obtain ⟨r1, r2, r3, r4, r5, r6⟩ := HR.out
      exact ⟨⟨i, r, zs.set i z, by omega, by go_num, rfl, r2, r3, r4, r5, r6, HO.out, HK.out⟩, by simp [intOf]⟩

set_option maxRecDepth 100000 in
set_option maxHeartbeats 1000000 in
/-- slices.Clone: the same words in memory of their own. -/
theorem cloneSl_any (v : Value) (xs : List Nat) (w : World) (h : Sl 146 .u32 w v xs) (hl : xs.length ≤ 100000000) :
    Calls Tryz.prog 160 #[v] w fun e w' => ∃ v', e = .returned v' ∧ Own 146 .u32 w' w.heap.size v' xs ∧ Below w.heap.size w w' := by
  obtain ⟨i0, hi0, hz0, hz1, hz2⟩ := info_parts info_u32
  rcases h with ⟨rfl, rfl⟩ | ⟨b, off, cap, cur, rfl, r⟩
  · have heq := Lib.run_eql_slice_nil (P := Tryz.prog) w 25 146 none 0 0 0 0 Tryz.underlying25
    go_enter Tryz.func160, Tryz.ntmps160
    go_wp2_with fail
    go_ret
    exact ⟨_, rfl, Own.nil _ _ _ _, Below.refl _ _⟩
  · have hsl : Sl 146 .u32 w (.slice (some ⟨b, off, none⟩) xs.length cap) xs := .inr ⟨b, off, cap, cur, rfl, r⟩
    have HS := Lib.hid (hsl.below (bel_alloc w (Obj.cells #[] 146)))
    have HO := Lib.hid (show Own 146 .u32 (w.alloc (Obj.cells #[] 146)) w.heap.size (.slice (some ⟨w.heap.size, 0, none⟩) 0 0) [] from Own.made w (Nat.le_refl _) 0 (by decide))
    clear hsl r
    generalize hn : xs.length = n at *
    have HN := Lib.hid hn
    clear hn
    have heq := Lib.run_eql_slice_nil (P := Tryz.prog) w 25 146 (some ⟨b, off, none⟩) n cap 0 0 Tryz.underlying25
    go_enter Tryz.func160, Tryz.ntmps160
    go_wp2_with (at_builtin; go_must (refine wpList_append_sl (w.alloc (Obj.cells #[] 146)) rfl _ _ 25 rfl w.heap.size 146 i0 .u32 4 Tryz.underlying25 hi0 hz0 hz1 hz2 _ [] (by rfl) (by exact HO.out) b off n cap xs (by rfl) HN.out.symm HS.out (by have := HN.out; simp; omega) (by have := HN.out; simp; omega) (by simp) ?_))
    intro v' w' h1 h2 _
    have H1 := Lib.hid h1
    have H2 := Lib.hid (((Below.refl _ w).alloc (Nat.le_refl _) _).trans h2)
    clear h1 h2
    go_wp2_with fail
    go_ret
    exact ⟨_, rfl, H1.out, H2.out⟩

/-- The number that groups of nine digits stand for, the lowest first. -/
def gval : List Nat → Nat
  | [] => 0
  | x :: xs => x + 1000000000 * gval xs
theorem gval_snoc (xs : List Nat) (x : Nat) : gval (xs ++ [x]) = gval xs + 1000000000 ^ xs.length * x := by
  induction xs with
  | nil => simp [gval]
  | cons y ys ih =>
    rw [List.cons_append, gval, gval, ih, List.length_cons, Nat.pow_succ, Nat.mul_add, Nat.mul_comm (1000000000 ^ ys.length) 1000000000, Nat.mul_assoc]
    omega
/-- What groupsOf makes: the groups of n, each below 10 to the 9th, the last not 0. -/
def Groups (n : Nat) (gs : List Nat) : Prop := gval gs = n ∧ (∀ x ∈ gs, x < 1000000000) ∧ (gs = [] ∨ lim gs (gs.length - 1) ≠ 0)

theorem divGroup (g n cap : Nat) (xs : List Nat) (base : Nat) (w : World) (h : Own 146 .u32 w base (.slice (some ⟨g, 0, none⟩) n cap) xs) (hn : n = xs.length) (ho : Ok xs) (hl : n ≤ 100000000) :
    Calls Tryz.prog 182 #[.slice (some ⟨g, 0, none⟩) n cap, .int .u32 1000000000] w fun e w' => ∃ zs, e = .returned (.int .u32 (val xs % 1000000000 : Nat)) ∧ Own 146 .u32 w' base (.slice (some ⟨g, 0, none⟩) n cap) zs ∧ zs.length = n ∧ Ok zs ∧ val zs = val xs / 1000000000 ∧ Keep (· = g) w w' :=
  divLimb_any g n cap xs 1000000000 base w h hn ho (by decide) (by decide) hl

/-- One group more. -/
theorem group_more {n c q r : Nat} {gs : List Nat} (h : gval gs + 1000000000 ^ gs.length * c = n) (hlt : ∀ x ∈ gs, x < 1000000000) (hq : q = c / 1000000000) (hr : r = c % 1000000000) :
    gval (gs ++ [r]) + 1000000000 ^ (gs ++ [r]).length * q = n ∧ ∀ x ∈ gs ++ [r], x < 1000000000 := by
  refine ⟨?_, fun x hx => ?_⟩
  · rw [gval_snoc, List.length_append, List.length_singleton, Nat.pow_succ, ← h]
    have : c = r + 1000000000 * q := by omega
    rw [this, Nat.mul_add, Nat.mul_assoc]
    omega
  · rcases List.mem_append.1 hx with hx | hx
    · exact hlt x hx
    · rw [List.mem_singleton.1 hx, hr]; exact Nat.mod_lt _ (by decide)

def sliceLen : Value → Nat
  | .slice _ n _ => n
  | _ => 0
/-- So many groups there are at most. -/
theorem groups_few {n c L : Nat} {gs : List Nat} (h : gval gs + 1000000000 ^ gs.length * c = n) (hc : c ≠ 0) (hn : n < pw L) : gs.length < 2 * L := by
  have h1 : 1000000000 ^ gs.length * 1 ≤ 1000000000 ^ gs.length * c := Nat.mul_le_mul_left _ (by omega)
  rw [pw_two] at hn
  have h2 : 2 ^ (29 * gs.length) ≤ 1000000000 ^ gs.length := by rw [Nat.pow_mul]; exact Nat.pow_le_pow_left (by decide) _
  have h3 := (Nat.pow_lt_pow_iff_right (a := 2) (by decide)).1 (show 2 ^ (29 * gs.length) < 2 ^ (32 * L) by omega)
  omega
theorem val_pos {zs : List Nat} (hn : Norm zs) (h : zs.length ≠ 0) : val zs ≠ 0 := fun e => h (by rw [norm_val_zero hn e]; rfl)

set_option maxRecDepth 100000 in
set_option maxHeartbeats 2000000 in
/-- groupsOf: the groups of digits, the lowest first. -/
theorem groupsOf_any (v : Value) (x L : Nat) (w : World) (h : NatV 146 w v x) (hx : x < pw L) (hL : L ≤ 10000000) (hx0 : x ≠ 0) :
    Calls Tryz.prog 178 #[v] w fun e w' => ∃ v' gs, e = .returned v' ∧ Sl 146 .u32 w' v' gs ∧ Groups x gs ∧ gs.length ≤ 2 * L ∧ Below w.heap.size w w' := by
  obtain ⟨i0, hi0, hz0, hz1, hz2⟩ := info_parts info_u32
  obtain ⟨ad, len, cap, rfl, xs, hs, ho, hnm, hxv⟩ := h.shape
  have hlx := hs.len
  have hl : xs.length ≤ L := norm_len hnm (by rw [hxv]; exact hx)
  have hl0 : xs ≠ [] := fun e => hx0 (by rw [← hxv, e]; rfl)
  have H := Lib.hid hs
  have HNM := Lib.hid hnm
  have HXV := Lib.hid hxv
  have HX := Lib.hid hx
  clear h hs hnm hx hxv
  go_enter Tryz.func178, Tryz.ntmps178
  go_wp2_with fail
  refine (cloneSl_any _ xs _ (H.out.below (bel_alloc _ _)) (by omega)).mono ?_
  rintro e w1 ⟨v1, rfl, hown, hb⟩
  obtain ⟨g, cap1, rfl, hg0, hg1, hc1⟩ : ∃ g cap1, v1 = .slice (some ⟨g, 0, none⟩) xs.length cap1 ∧ w.heap.size ≤ g ∧ g < w1.heap.size ∧ xs.length ≤ cap1 := by
    rcases hown.shape with ⟨_, e⟩ | ⟨g, cap1, e, h1, h2, h3⟩
    · exact absurd e hl0
    · exact ⟨g, cap1, e, by simp at h1; omega, h2, h3⟩
  have HB1 := Lib.hid (bel_on (bel_alloc _ _) hb)
  have HO1 := Lib.hid (show Own 146 .u32 w1 w.heap.size (.slice (some ⟨g, 0, none⟩) xs.length cap1) xs from ⟨hown.1, by
    rcases hown.2 with h2 | ⟨g', c', cur, e, hb', r⟩
    · exact .inl h2
    · exact .inr ⟨g', c', cur, e, by simp at hb'; omega, r⟩⟩)
  clear hb hown hl0 hlx
  go_wp2_with fail
  go_loopw [3, 4] (fun l gu wr => ∃ (n : Nat) (zs gs : List Nat) (gv : Value), gv = gu ∧ l = .slice (some ⟨g, 0, none⟩) n cap1 ∧ n = zs.length ∧ n ≤ L ∧ Own 146 .u32 wr w.heap.size l zs ∧ Ok zs ∧ Norm zs ∧ sliceLen gv = gs.length ∧ Own 146 .u32 wr (g + 1) gv gs ∧ gval gs + 1000000000 ^ gs.length * val zs = x ∧
      (∀ y ∈ gs, y < 1000000000) ∧ (gs = [] ∨ n ≠ 0 ∨ lim gs (gs.length - 1) ≠ 0) ∧ gs.length ≤ 2 * L ∧ Below w.heap.size w wr ∧ g < wr.heap.size) (fun _ gv _ => 2 * L - sliceLen gv)
  case atStart => exact ⟨xs.length, xs, [], _, rfl, rfl, rfl, hl, HO1.out, ho, HNM.out, rfl, Own.nil _ _ _ _, by simp [gval]; exact HXV.out, (fun y hy => by cases hy), .inl rfl, Nat.zero_le _, HB1.out, hg1⟩
  case round =>
    obtain ⟨n, zs, gs, gv, rfl, rfl, hn, hnL, hoz, hok, hnz, hsl, hog, hv, hlt, hlast, hgl, hbel, hgw⟩ := hrel
    by_cases hn0 : n = 0
    · subst hn0
      have hz : zs = [] := List.length_eq_zero_iff.1 hn.symm
      have hval : gval gs = x := by rw [← hv, hz, val_nil]; omega
      have hgs : gs ≠ [] := fun e => hx0 (by rw [← hval, e]; rfl)
      have HR := Lib.hid (show Sl 146 .u32 wr gv gs ∧ Groups x gs ∧ gs.length ≤ 2 * L ∧ Below w.heap.size w wr from ⟨hog.sl, ⟨hval, hlt, by rcases hlast with h | h | h; exact .inl h; exact absurd rfl h; exact .inr h⟩, hgl, hbel⟩)
      clear hoz hog hbel hv hlt hlast hsl hnz hn
      go_wp2_with fail
      go_ret
      exact ⟨_, gs, rfl, HR.out⟩
    · have hvz := val_pos hnz (by omega)
      have hfew := groups_few hv hvz HX.out
      obtain ⟨r, hr⟩ : ∃ r : Nat, r = val zs % 1000000000 := ⟨_, rfl⟩
      have HOZ := Lib.hid hoz
      have HOG := Lib.hid hog
      have HBE := Lib.hid hbel
      have HV := Lib.hid hv
      have HLT := Lib.hid hlt
      have HSL := Lib.hid hsl
      have HVZ := Lib.hid hvz
      have HR := Lib.hid hr
      have HN := Lib.hid hn
      have hn0' : decide ((0 : Int) < (n : Int)) = true := by rw [decide_eq_true_iff]; omega
      clear hoz hog hbel hv hlt hlast hsl hnz hvz hr hn
      go_wp2_with fail
      refine (divGroup g n cap1 zs w.heap.size _ HOZ.out HN.out hok (by omega)).mono ?_
      rintro e w2 ⟨ys, rfl, hoy, hyl, hoky, hvy, hk⟩
      rw [← HR.out]
      have HOY := Lib.hid hoy
      have HYL := Lib.hid hyl
      have HVY := Lib.hid hvy
      have HOG2 := Lib.hid (HOG.out.keep hk (fun b e => by omega))
      have HB2 := Lib.hid (HBE.out.trans (hk.below (B := w.heap.size) (HBE.out.size) (fun k e => by omega)))
      have hg2 : g < w2.heap.size := by have := hk.size; omega
      clear hoy hyl hvy hk
      go_wp2_with (at_builtin; go_must (refine wpList_append_one w2 rfl _ _ 25 rfl (g + 1) 146 i0 .u32 4 Tryz.underlying25 hi0 hz0 hz1 hz2 _ gs (by rfl) (by exact HOG2.out) r (by rfl) (by omega) (by omega) (by omega) ?_))
      intro gv' w3 h1 h2
      have hoy3 := HOY.out.below2 h2 (by omega)
      have HG3 := Lib.hid h1
      have HB3 := Lib.hid (HB2.out.trans (h2.mono (B' := w.heap.size) (by omega)))
      have hg3 : g < w3.heap.size := by have := h2.size; omega
      have HS3 := Lib.hid hoy3.sl
      have HO3 := Lib.hid hoy3
      have hncap : n ≤ cap1 := by
        rcases HOZ.out.shape with ⟨e, _⟩ | ⟨_, _, e, _, _, h⟩
        · cases e
        · cases e; have := HN.out; omega
      clear h1 h2 hoy3
      go_wp2_with fail
      refine (trim_at _ n cap1 ys _ HS3.out HYL.out.symm (by omega) hncap).mono ?_
      rintro e w4 ⟨rfl, rfl⟩
      go_wp2_with fail
      have hle := trimN_le ys n
      have hyn : n ≤ ys.length := by have := HYL.out; omega
      have hq : val (ys.take (trimN ys n)) = val zs / 1000000000 := by rw [trimN_val ys n hyn, List.take_of_length_le (by have := HYL.out; omega), HVY.out]
      have G := group_more HV.out HLT.out hq HR.out
      have hlen : (ys.take (trimN ys n)).length = trimN ys n := by rw [List.length_take]; omega
      have hgv : sliceLen gv' = (gs ++ [r]).length := by
        rcases HG3.out.shape with ⟨_, e⟩ | ⟨_, _, e, _⟩
        · simp at e
        · rw [e]; rfl
      have hgl' : (gs ++ [r]).length = gs.length + 1 := by simp
      refine ⟨⟨trimN ys n, ys.take (trimN ys n), gs ++ [r], _, rfl, rfl, hlen.symm, by omega, HO3.out.take hle, hoky.take _, trimN_norm ys n hyn, hgv, HG3.out, G.1, G.2, ?_, by omega, HB3.out, hg3⟩, ?_⟩
      · by_cases ht : trimN ys n = 0
        · right; right
          rw [hgl', Nat.add_sub_cancel, lim_append_right (Nat.le_refl _), Nat.sub_self]
          show r ≠ 0
          rw [ht, List.take_zero, val_nil] at hq
          have := HVZ.out
          have := HR.out
          omega
        · exact .inr (.inl ht)
      · rw [hgv, HSL.out, hgl']; omega

end Go.Proofs.YtfohgkabmdhhaaaGreatDoor
/- The contract of strconv's FormatUint at base 10, for every word. -/
namespace Go.Proofs.YtfohgkabmdhhaaaGreatDoor
open Go.RowKit Cin Go.Sort Go.Lib

set_option maxRecDepth 100000 in
set_option maxHeartbeats 4000000 in
theorem formatUintI_big (u : Nat) (w : World) (hu : 100 ≤ u) (hu64 : u < 18446744073709551616) (hT : Tabs w) :
    Calls Tryz.prog 200 #[.int .u64 u, .int .i64 10] w fun e w' => e = .returned (.string (decS u)) ∧ Below w.heap.size w w' := by
  have hu1 : 1 ≤ u := by omega
  have hnd20 : Lib.nDigits u ≤ 20 := by have := Lib.numDigits_eq u hu1 hu64; split at this <;> omega
  have hal : Tryz.prog.arrayLen 212 = 24 := by simp [Program.arrayLen, Tryz.underlying212]
  have hsl : ∀ W, (Instr.sliceAt 212 (.pointer (some ⟨w.heap.size, 0, none⟩)) none (some (.int .i64 (Lib.nDigits u : Int))) none).run Tryz.prog W = .ok (.slice (some ⟨w.heap.size, 0, none⟩) (Lib.nDigits u) 24) W := fun W => by
    rw [run_sliceAt_array_h W 212 ⟨w.heap.size, 0, none⟩ (by simp [Program.arrayLen, Program.elem, Tryz.underlying212]) .i64 (Lib.nDigits u : Int) (by omega) (by rw [hal]; omega)]
    go_simp
  have hH0 := Lib.holds_zero0 w 212 (Lib.nDigits u) (by omega)
  have hfmt := Tryz.internal_strconv_formatBase10 w.heap.size 0 24 u (Array.replicate (Lib.nDigits u) 0) (w.alloc (.cells Lib.zeros24 212)) hH0 (by rw [Array.size_replicate]; exact Lib.lt_pow_nDigits u) hu64 (by rw [Array.size_replicate]; omega)
  rw [Array.size_replicate] at hfmt
  have HH0 := Lib.hid hH0
  have HP := Lib.hid hT.p10
  have iu : (100 : Int) ≤ (u : Int) := by omega
  clear hH0 hal hT
  go_enter Tryz.func200, Tryz.ntmps200
  go_wp2_with (go_at_call 207; refine (Tryz.internal_strconv_numDigits u hu1 hu64 _ (Lib.tabIs_alloc HP.out _)).mono ?_; rintro e w' ⟨rfl, rfl⟩)
  refine hfmt.mono ?_
  rintro e w' ⟨rfl, k, v', dk, rfl, hF⟩
  have hcv : (convert 169 9 (.slice (some ⟨w.heap.size, 0, none⟩) (Lib.nDigits u) 24)).run Tryz.prog ((putRow (fun (b : UInt8) => Value.int .u8 (b.toNat : Int)) (w.alloc (.cells Lib.zeros24 212)) w.heap.size 0 dk).drewN k) = .ok (.string (decS u)) ((putRow (fun (b : UInt8) => Value.int .u8 (b.toNat : Int)) (w.alloc (.cells Lib.zeros24 212)) w.heap.size 0 dk).drewN k) := by
    have h := run_convert_bytes_back (P := Tryz.prog) ((putRow (fun (b : UInt8) => Value.int .u8 (b.toNat : Int)) (w.alloc (.cells Lib.zeros24 212)) w.heap.size 0 dk).drewN k) 169 9 5 ⟨w.heap.size, 0, none⟩ 24 (Lib.decDigits u) Tryz.underlying169 Tryz.underlying5 Tryz.underlying9 (fun j hj => by
      rw [Lib.row_is_numeral hF j hj, Lib.add_plain, World.cell?_drewN]
      exact cell?_putRow (fun (b : UInt8) => Value.int .u8 (b.toNat : Int)) _ w.heap.size 0 _ dk HH0.out (by rw [hF.size, Array.size_replicate]) j (by rw [hF.size]; rw [Lib.decDigits_length] at hj; exact hj))
    rw [Lib.decDigits_length] at h
    exact h
  obtain ⟨os, eo⟩ := Lib.fin_at w (.cells Lib.zeros24 212) dk k 0
  have HB := Lib.hid (show Below w.heap.size w ((putRow (fun (b : UInt8) => Value.int .u8 (b.toNat : Int)) (w.alloc (.cells Lib.zeros24 212)) w.heap.size 0 dk).drewN k) by rw [eo]; exact Lib.below_grow w.heap.size w (Nat.le_refl _) k os)
  clear eo hF hfmt HH0
  go_wp2
  go_ret
  exact ⟨rfl, HB.out⟩

set_option maxHeartbeats 400000 in
theorem formatUint_any (u : Nat) (w : World) (hu64 : u < 18446744073709551616) (hT : Tabs w) :
    Calls Tryz.prog 177 #[.int .u64 u, .int .i64 10] w fun e w' => e = .returned (.string (decS u)) ∧ Below w.heap.size w w' := by
  by_cases h : u < 100
  · exact (formatUint_small u w h).mono fun _ _ ⟨e, hw⟩ => ⟨e, by rw [← hw]; exact Below.refl _ _⟩
  · have HT := Lib.hid hT
    clear hT
    go_enter Tryz.func177, Tryz.ntmps177
    go_wp2_with fail
    refine (formatUintI_big u _ (by omega) hu64 HT.out).mono ?_
    rintro e w' ⟨rfl, hb⟩
    have HB := Lib.hid hb
    clear hb
    go_wp2
    go_ret
    exact ⟨rfl, HB.out⟩

end Go.Proofs.YtfohgkabmdhhaaaGreatDoor
/- Contracts of nat's appendGroup and of Text. -/
namespace Go.Proofs.YtfohgkabmdhhaaaGreatDoor
open Go.RowKit Cin

theorem info_u8' : (Tryz.prog.info? 5).map (fun i => (i.zero, i.size, i.bytes)) = some (some (.int .u8 0), 1, 1) := by kernel_rfl
/-- The slice v owns its bytes. -/
def OwnB (w : World) (base : Nat) (v : Value) (l : List UInt8) : Prop := w.ownsRow base 5 1 v l.length (Lib.byteCells l)
theorem strCells_eq (l : List UInt8) : Lib.strCells ⟨l.toArray⟩ = Lib.byteCells l := by simp [Lib.strCells, Lib.byteCells]
theorem byteCells_append (l m : List UInt8) : Lib.byteCells (l ++ m) = Lib.byteCells l ++ Lib.byteCells m := by simp [Lib.byteCells]
theorem OwnB.appended {w : World} {base : Nat} {v : Value} {l m : List UInt8} {n : Nat} (h : w.ownsRow base 5 1 v (l.length + n) (Lib.byteCells l ++ Lib.byteCells m)) (hn : n = m.length) : OwnB w base v (l ++ m) := by
  unfold OwnB
  rw [List.length_append, byteCells_append, ← hn]
  exact h
theorem ownB_below {w w' : World} {base : Nat} {v : Value} {l : List UInt8} (h : OwnB w base v l) (hb : Below w.heap.size w w') : OwnB w' base v l := by
  refine ⟨h.1, ?_⟩
  rcases h.2 with h2 | ⟨g, cap, cur, e, hbg, hg, r⟩
  · exact .inl h2
  · exact .inr ⟨g, cap, cur, e, hbg, by rw [hb.block g (lt_of_heap hg)]; exact hg, r⟩
theorem gval_pos : ∀ (gs : List Nat), lim gs (gs.length - 1) ≠ 0 → gs.length ≠ 0 → gval gs ≠ 0
  | [], _, h => absurd rfl h
  | [x], h, _ => by show x + 1000000000 * 0 ≠ 0; have : x ≠ 0 := h; omega
  | x :: y :: gs, h, _ => by
    have := gval_pos (y :: gs) (by simpa [lim] using h) (by simp)
    show x + 1000000000 * gval (y :: gs) ≠ 0
    omega
theorem repeat_zero : ∀ c : Nat, Lib.repeatL [48] c = List.replicate c 48
  | 0 => rfl
  | c + 1 => by rw [Lib.repeatL, repeat_zero c]; rfl
theorem itoa_nat (n : Nat) : Lib.itoa (n : Int) = Lib.decDigits n := by unfold Lib.itoa; rw [if_neg (by omega)]; rfl

set_option maxRecDepth 100000 in
set_option maxHeartbeats 1000000 in
/-- appendGroup: the nine digits of a group. -/
theorem appendGroup_any (v : Value) (l : List UInt8) (r base : Nat) (w : World) (h : OwnB w base v l) (hr : r < 1000000000) (hl : l.length ≤ 1000000000) (hbase : base ≤ w.heap.size) (hT : Tabs w) :
    Calls Tryz.prog 180 #[v, .int .u32 r] w fun e w' => ∃ v', e = .returned v' ∧ OwnB w' base v' (l ++ padk 9 r) ∧ Below base w w' := by
  obtain ⟨i0, hi0, hz0, hz1, hz2⟩ := info_parts info_u8'
  have hlen := dec_len 9 r (by decide) hr
  have hpos : 1 ≤ (Lib.decDigits r).length := by rw [Lib.decDigits_length]; exact Lib.nDigits_pos r
  have hIt := Tryz.strconv_Itoa (r : Int) (by omega) (by omega) w hT.p10
  rw [itoa_nat] at hIt
  have H := Lib.hid h
  have HPK := Lib.hid (show padk 9 r = List.replicate (9 - (Lib.decDigits r).length) 48 ++ Lib.decDigits r from rfl)
  clear h hT
  generalize hdd : Lib.decDigits r = dd at *
  clear hdd
  obtain ⟨c, hc⟩ : ∃ c : Nat, c = 9 - dd.length := ⟨_, rfl⟩
  have hci : (9 : Int) - (dd.length : Int) = (c : Int) := by omega
  have hc9 : c ≤ 9 := by omega
  have HC := Lib.hid hc
  clear hc
  go_enter Tryz.func180, Tryz.ntmps180
  go_wp2_with fail
  refine hIt.mono ?_
  rintro e w1 ⟨rfl, k, os, ew⟩
  have hb1 : Below w.heap.size w w1 := by rw [ew]; exact Lib.below_grow w.heap.size w (Nat.le_refl _) k os
  have HB1 := Lib.hid hb1
  have HO1 := Lib.hid (ownB_below H.out hb1)
  clear ew hb1 hIt H
  go_wp2_with fail
  refine (Tryz.strings_Repeat ⟨#[48]⟩ c _ (by omega) (show 1 * c ≤ _ by omega)).mono ?_
  rintro e w2 ⟨rfl, hb2⟩
  rw [show Lib.repeatL (⟨#[48]⟩ : ByteArray).data.toList c = List.replicate c 48 from repeat_zero c]
  have HB2 := Lib.hid (bel_on HB1.out hb2)
  have HO2 := Lib.hid (ownB_below HO1.out hb2)
  have hbase2 : base ≤ w2.heap.size := by have := HB1.out.size; have := hb2.size; omega
  clear hb2 HO1 HB1
  generalize hpp : List.replicate c (48 : UInt8) = pp at *
  have hpl : pp.length ≤ 9 := by rw [← hpp]; simp; exact hc9
  have HPP := Lib.hid hpp
  clear hpp
  go_wp2_with (at_builtin; go_must (refine Lib.wpList_append_own_string w2 rfl _ _ 169 9 rfl base 5 i0 Tryz.underlying169 Tryz.underlying9 hi0 hz0 hz1 hz2 _ l.length (Lib.byteCells l) (by rfl) (by exact HO2.out) ⟨pp.toArray⟩ (by rfl) (by show l.length + pp.length ≤ maxLen; unfold maxLen; omega) (by show l.length + pp.length ≤ _; omega) hbase2 ?_))
  intro v3 w3 h1 h2 _
  have hO3 : OwnB w3 base v3 (l ++ pp) := OwnB.appended (m := pp) (by rw [← strCells_eq pp]; exact h1) rfl
  have HO3 := Lib.hid hO3
  have HB3 := Lib.hid ((HB2.out.mono (B' := base) hbase).trans ((Below.refl _ w2).grown h2 hbase2 (fun g hg => (World.ownsRow.lt HO2.out g hg).1)))
  have hbase3 : base ≤ w3.heap.size := by have := HB3.out.size; omega
  clear h1 h2 hO3
  go_wp2_with (at_builtin; go_must (refine Lib.wpList_append_own_string w3 rfl _ _ 169 9 rfl base 5 i0 Tryz.underlying169 Tryz.underlying9 hi0 hz0 hz1 hz2 _ (l ++ pp).length (Lib.byteCells (l ++ pp)) (by rfl) (by exact HO3.out) ⟨dd.toArray⟩ (by rfl) (by show (l ++ pp).length + dd.length ≤ maxLen; unfold maxLen; rw [List.length_append]; omega) (by show (l ++ pp).length + dd.length ≤ _; rw [List.length_append]; omega) hbase3 ?_))
  intro v4 w4 h1 h2 _
  have hO4 : OwnB w4 base v4 ((l ++ pp) ++ dd) := OwnB.appended (m := dd) (by rw [← strCells_eq dd, List.length_append]; exact h1) rfl
  have HO4 := Lib.hid hO4
  have HB4 := Lib.hid (HB3.out.trans ((Below.refl _ w3).grown h2 hbase3 (fun g hg => (World.ownsRow.lt HO3.out g hg).1)))
  clear h1 h2 hO4
  go_wp2
  go_ret
  refine ⟨_, rfl, ?_, HB4.out⟩
  rw [HPK.out, ← HC.out, HPP.out, ← List.append_assoc]
  exact HO4.out

set_option maxHeartbeats 400000 in
/-- AppendUint, of a word, to bytes of the call's own. -/
theorem appendUint_any (v : Value) (l : List UInt8) (u base : Nat) (w : World) (h : OwnB w base v l) (hu : u < 18446744073709551616) (hl : l.length ≤ 1000000000) (hbase : base ≤ w.heap.size) (hT : Tabs w) :
    Calls Tryz.prog 179 #[v, .int .u64 u, .int .i64 10] w fun e w' => ∃ v', e = .returned v' ∧ OwnB w' base v' (l ++ Lib.decDigits u) ∧ Below base w w' := by
  have hI : Calls Tryz.prog 201 #[v, .int .u64 u, .int .i64 10] w fun e w' => ∃ v', e = .returned v' ∧ OwnB w' base v' (l ++ Lib.decDigits u) ∧ Below base w w' := by
    by_cases h1 : u < 100
    · exact (Tryz.internal_strconv_AppendUint_10_small base l.length u h1 v _ w h hbase (by omega)).mono fun _ _ ⟨v', e, ho, hb, _⟩ => ⟨v', e, OwnB.appended ho rfl, hb⟩
    · exact (Tryz.internal_strconv_AppendUint_10_big base l.length u (by omega) hu v _ w h hbase (by omega) hT.p10).mono fun _ _ ⟨v', e, ho, hb, _⟩ => ⟨v', e, OwnB.appended ho rfl, hb⟩
  have HI := Lib.hid hI
  clear hI h hT
  go_enter Tryz.func179, Tryz.ntmps179
  go_wp2_with fail
  refine HI.out.mono ?_
  rintro e w' ⟨v', rfl, ho, hb⟩
  have HO := Lib.hid ho
  have HB := Lib.hid hb
  clear ho hb
  go_wp2
  go_ret
  exact ⟨_, rfl, HO.out, HB.out⟩

/-- The text of the groups from a place on, of which the highest is not 0. -/
theorem groups_text {n : Nat} {gs : List Nat} (h : Groups n gs) (k : Nat) (hk : k + 1 < gs.length) : Lib.decDigits (gval (gs.drop (k + 1))) ++ padk 9 (lim gs k) = Lib.decDigits (gval (gs.drop k)) := by
  have e : gval (gs.drop k) = gval (gs.drop (k + 1)) * 10 ^ 9 + lim gs k := by
    rw [drop_lim (show k < gs.length by omega), gval]; omega
  have hne : gval (gs.drop (k + 1)) ≠ 0 := gval_pos (gs.drop (k + 1)) (by
    rw [List.length_drop, lim_drop]
    have := h.2.2
    rcases this with h0 | h0
    · rw [h0] at hk; simp at hk
    · rw [show k + 1 + (gs.length - (k + 1) - 1) = gs.length - 1 by omega]; exact h0) (by rw [List.length_drop]; omega)
  rw [e, dec_group hne 9 (lim gs k) (by decide) (by
    have := h.2.1 (lim gs k) (by rw [lim_eq (show k < gs.length by omega)]; exact List.getElem_mem _)
    simpa using this)]

end Go.Proofs.YtfohgkabmdhhaaaGreatDoor
/- The contract of nat's Text. -/
namespace Go.Proofs.YtfohgkabmdhhaaaGreatDoor
open Go.RowKit Cin

theorem gval_drop (gs : List Nat) : ∀ j, gval (gs.drop j) ≤ gval gs := by
  induction gs with
  | nil => intro j; simp
  | cons x xs ih =>
    intro j
    cases j with
    | zero => exact Nat.le_refl _
    | succ j =>
      have := ih j
      show gval (xs.drop j) ≤ x + 1000000000 * gval xs
      omega
/-- Bytes that a call owns, as a text. -/
theorem ownB_text {w : World} {base : Nat} {v : Value} {l : List UInt8} (h : OwnB w base v l) (hl : l ≠ []) : ∃ g cap, v = .slice (some ⟨g, 0, none⟩) l.length cap ∧
    (convert 169 9 (.slice (some ⟨g, 0, none⟩) l.length cap)).run Tryz.prog w = .ok (.string ⟨l.toArray⟩) w := by
  rcases h.2 with ⟨_, hn⟩ | ⟨g, cap, cur, e, hbg, hg, hn, hm, hs, ht⟩
  · exact absurd (List.length_eq_zero_iff.1 hn) hl
  · refine ⟨g, cap, e, ?_⟩
    refine run_convert_bytes_back (P := Tryz.prog) w 169 9 5 ⟨g, 0, none⟩ cap l Tryz.underlying169 Tryz.underlying5 Tryz.underlying9 (fun j hj => ?_)
    rw [Lib.add_plain, Nat.zero_add, cell_of hg]
    have h1 : (Lib.byteCells l)[j]? = some (Value.int .u8 (l[j].toNat : Int)) := by simp [Lib.byteCells, hj]
    rw [← ht, Nat.mul_one, List.getElem?_take, if_pos hj, Array.getElem?_toList] at h1
    exact h1

theorem run_make_bytes (i0 : TypeInfo) (hi0 : Tryz.prog.info? 5 = some i0) (hz0 : i0.zero = some (.int .u8 0)) (hz1 : i0.size = 1) (hz2 : i0.bytes = 1) (M : Nat) (hM : M ≤ 1000000000) (W : World) :
    Sem.run Tryz.prog (Instr.makeSlice 169 (.int .i64 0) (.int .i64 M)) W = .ok (.slice (some ⟨W.heap.size, 0, none⟩) 0 M) (W.alloc (.cells (ints .u8 (List.replicate M 0)) 5)) := by
  have h := run_make (P := Tryz.prog) W 169 5 i0 _ Tryz.underlying169 hi0 hz0 .i64 .i64 0 M (by omega) (by omega) (by rw [hz2]; omega) (by omega)
  rw [hz1, Nat.mul_one, Int.toNat_natCast, madeCells_int] at h
  exact h
theorem ownB_made (W : World) (M : Nat) (hM : M ≤ 1000000000) : OwnB (W.alloc (.cells (ints .u8 (List.replicate M 0)) 5)) W.heap.size (.slice (some ⟨W.heap.size, 0, none⟩) 0 M) [] :=
  World.ownsRow_made W _ M (Nat.le_refl _) (by unfold maxLen; omega) (by simp [ints])

set_option maxRecDepth 100000 in
set_option maxHeartbeats 2000000 in
/-- Text: the decimal digits. -/
theorem text_any (v : Value) (n k : Nat) (w : World) (h : NatB 146 w v n k) (hk : k ≤ 1000000) (hT : Tabs w) :
    Calls Tryz.prog 148 #[v] w fun e w' => e = .returned (.string (decS n)) ∧ Below w.heap.size w w' := by
  obtain ⟨ad, len, cap, rfl, xs, hs, ho, hnm, hval⟩ := h.shape
  have hlx := hs.len
  have HT := Lib.hid hT
  have H := Lib.hid h
  by_cases hl : len ≤ 2
  · have hn64 : n < 18446744073709551616 := by
      have h1 := val_lt ho
      have h2 := pw_le (show xs.length ≤ 2 by omega)
      rw [hval] at h1
      exact Nat.lt_of_lt_of_le h1 h2
    clear h hs hnm hval ho hlx hT
    go_enter Tryz.func148, Tryz.ntmps148
    go_wp2_with fail
    refine (low_any _ n _ (H.out.1.below (bel_alloc _ _))).mono ?_
    rintro e w1 ⟨rfl, hb⟩
    rw [Nat.mod_eq_of_lt hn64]
    have HB := Lib.hid (bel_on (bel_alloc _ _) hb)
    clear hb
    go_wp2_with fail
    refine (formatUint_any n _ hn64 (HT.out.below HB.out)).mono ?_
    rintro e w2 ⟨rfl, hb2⟩
    have HB2 := Lib.hid (bel_on HB.out hb2)
    clear hb2
    go_wp2
    go_ret
    exact ⟨rfl, HB2.out⟩
  · have hn0 : n ≠ 0 := fun e => by
      rw [norm_val_zero hnm (hval.trans e)] at hlx
      simp at hlx
      omega
    clear h hs hnm hval ho hlx hT
    obtain ⟨i0, hi0, hz0, hz1, hz2⟩ := info_parts info_u8'
    go_enter Tryz.func148, Tryz.ntmps148
    go_wp2_with fail
    refine (groupsOf_any _ n k _ (H.out.1.below (bel_alloc _ _)) H.out.2 (by omega) hn0).mono ?_
    rintro e w1 ⟨v1, gs, rfl, hsl, hgr, hgl, hb⟩
    have hg0 : gs.length ≠ 0 := fun e => hn0 (by rw [← hgr.1, List.length_eq_zero_iff.1 e]; rfl)
    obtain ⟨adg, capg, rfl, hcg, _⟩ := hsl.shape
    obtain ⟨bg, og, rfl, hcl, hbl⟩ := hsl.cell (i := gs.length - 1) (by omega)
    have HSL := Lib.hid hsl
    have HGR := Lib.hid hgr
    have HB1 := Lib.hid (bel_on (bel_alloc _ _) hb)
    clear hsl hgr hb
    obtain ⟨m, hm⟩ : ∃ m : Nat, gs.length = m + 1 := ⟨gs.length - 1, by omega⟩
    rw [hm, Nat.add_sub_cancel] at hcl
    rw [hm]
    have HM := Lib.hid hm
    have hmk : m + 1 ≤ 2 * k := by omega
    have hlm : lim gs m < 1000000000 := HGR.out.2.1 _ (by rw [lim_eq (by have := HM.out; omega)]; exact List.getElem_mem _)
    clear hm hg0 hgl
    have e1 : ((m + 1 : Nat) : Int) - 1 = (m : Int) := by omega
    have e2 : (m : Int) < (m : Int) + 1 := by omega
    obtain ⟨M, e3, hM⟩ : ∃ M : Nat, IntKind.i64.wrap (9 * ((m : Int) + 1)) = (M : Int) ∧ M ≤ 20000000 := ⟨9 * (m + 1), by rw [IntWalk.i64_in _ (by omega)]; omega, by omega⟩
    have e4 : IntKind.u64.wrap ((lim gs m : Nat) : Int) = ((lim gs m : Nat) : Int) := by rw [IntKind.wrap_u64]; omega
    have hmk2 := run_make_bytes i0 hi0 hz0 hz1 hz2 M (by omega)
    have HMADE := Lib.hid (fun W => ownB_made W M (by omega))
    have hszw : w.heap.size ≤ w1.heap.size := HB1.out.size
    go_wp2_with fail
    refine wp_region_sched (fun w' => w'.cell? ⟨bg, og + m, none⟩ = some (.int .u32 (lim gs m : Nat)) ∧ Below w.heap.size w w') [(0, true), (1, true), (2, true), (4, true), (5, true), (6, true), (7, true), (8, true), (3, false), (9, false), (10, true)] (by kernel_rfl) (by kernel_rfl) ?_ (fun hHeld => ?_)
    · (try dsimp only)
      exact ⟨hcl, HB1.out.drew⟩
    try dsimp only at hHeld
    repeat (refine wpSched_at (by simp only [List.getElem?_toArray, List.getElem?_cons_zero, List.getElem?_cons_succ]; rfl) ?_; (first | (apply wpAt_take rfl; (intro wx hSx; (try dsimp only at hSx); go_simp; (try with_reducible rfl)); simp only [Act.put, List.setIfInBounds_toArray, List.set_cons_zero, List.set_cons_succ]) | (refine wpAt_skip rfl ?_; simp only [Act.put, List.setIfInBounds_toArray, List.set_cons_zero, List.set_cons_succ]) | (refine wpAt_pass rfl hHeld ?_; simp only [Act.put, List.setIfInBounds_toArray, List.set_cons_zero, List.set_cons_succ]) | (refine wpAt_eff rfl (fun K hK => ?_); (skip); go_simp; (first | (go_at_call 179; (refine (appendUint_any _ [] (lim gs m) w1.heap.size _ (HMADE.out w1.drew) (by omega) (by simp) (by simp) (HT.out.below hHeld.2)).mono ?_); rintro e w' ⟨vA, rfl, hn, hb⟩; have NA := Lib.hid hn; have hS := And.intro trivial (And.intro ((hb.cell (p := ⟨bg, og + m, none⟩) hbl).trans hHeld.1) (hHeld.2.trans (hb.mono (B' := w.heap.size) hszw))); have HKB := Lib.hid hb; clear hb hn hHeld) | skip); (refine hK.out _ _ ?_ (fun hHeld => ?_)); ((try dsimp only); first | exact hS.2 | exact ⟨cell_below hHeld.1 (bel_alloc _ _), bel_on hHeld.2 (bel_alloc _ _)⟩ | exact ⟨cell_below (cell_below hHeld.1 (bel_alloc _ _)) (Below.refl _ _).drew, bel_on (bel_on hHeld.2 (bel_alloc _ _)) (Below.refl _ _).drew⟩); clear hK K; (try clear hS); (try clear hfx0 hx0 x0); (try clear hfy0 hy0 y0); (try clear hfx1 hx1 x1); (try clear hfy1 hy1 y1); (try dsimp only at hHeld))))
    refine wpSched_nil ?_
    have hb2 : Below w1.heap.size w1 w' := ((Below.refl _ w1).drew.alloc (Nat.le_refl _) _).trans HKB.out
    have hO2 : OwnB w' w1.heap.size vA (Lib.decDigits (gval (gs.drop m))) := by
      have h1 := NA.out
      rw [List.nil_append] at h1
      rw [drop_lim (by have := HM.out; omega), List.drop_of_length_le (by have := HM.out; omega)]
      show OwnB w' w1.heap.size vA (Lib.decDigits (lim gs m + 1000000000 * 0))
      rw [Nat.mul_zero, Nat.add_zero]
      exact h1
    have HB2 := Lib.hid hb2
    have HO2 := Lib.hid hO2
    clear hHeld hb2 hO2 NA HKB hmk2 HMADE e2 e3 e4 hcl
    go_wp2_with fail
    go_loopw [5, 6] (fun o i wr => ∃ (j : Nat) (ov : Value), ov = o ∧ j ≤ m ∧ i = .int .i64 ((j : Int) - 1) ∧ OwnB wr w1.heap.size ov (Lib.decDigits (gval (gs.drop j))) ∧ Below w1.heap.size w1 wr) (fun _ i _ => (intOf i + 1).toNat)
    case atStart => exact ⟨m, _, rfl, Nat.le_refl _, rfl, HO2.out, HB2.out⟩
    case round =>
      obtain ⟨j, ov, rfl, hj, rfl, hown, hbel⟩ := hrel
      by_cases hj0 : j = 0
      · subst hj0
        rw [List.drop_zero, HGR.out.1] at hown
        have hne : Lib.decDigits n ≠ [] := fun e => by have := Lib.nDigits_pos n; rw [← Lib.decDigits_length, e] at this; simp at this
        obtain ⟨g, cap9, rfl, hcv⟩ := ownB_text hown hne
        have HE := Lib.hid (HB1.out.trans (hbel.mono (B' := w.heap.size) hszw))
        clear hown hbel hne
        go_wp2_with fail
        go_ret
        exact ⟨rfl, HE.out⟩
      · obtain ⟨i, rfl⟩ : ∃ i, j = i + 1 := ⟨j - 1, by omega⟩
        obtain ⟨b', o', e', hc', hb'⟩ := (HSL.out.of_block (w' := wr) (fun b off n c e => hbel.block b (HSL.out.lt e))).cell (i := i) (by have := HM.out; omega)
        cases e'
        have hgt := groups_text HGR.out i (by have := HM.out; omega)
        have hlr : lim gs i < 1000000000 := HGR.out.2.1 _ (by rw [lim_eq (by have := HM.out; omega)]; exact List.getElem_mem _)
        have hlen : (Lib.decDigits (gval (gs.drop (i + 1)))).length ≤ 1000000000 := by
          have h1 := gval_drop gs (i + 1)
          rw [HGR.out.1] at h1
          have h2 := dec_len_pw (Nat.lt_of_le_of_lt h1 H.out.2)
          omega
        have HO3 := Lib.hid hown
        have HB3 := Lib.hid hbel
        have HGT := Lib.hid hgt
        have HLEN := Lib.hid hlen
        have ei : ((i + 1 : Nat) : Int) - 1 = (i : Int) := by omega
        have ei2 : (i : Int) < (m : Int) + 1 := by omega
        have hsz3 : w1.heap.size ≤ wr.heap.size := hbel.size
        clear hown hbel hgt hlen
        go_wp2_with fail
        refine (appendGroup_any _ _ (lim gs i) w1.heap.size _ HO3.out hlr HLEN.out hsz3 (HT.out.below (HB1.out.trans (HB3.out.mono (B' := w.heap.size) hszw)))).mono ?_
        rintro e w5 ⟨v5, rfl, ho5, hb5⟩
        rw [HGT.out] at ho5
        have HO5 := Lib.hid ho5
        have HB5 := Lib.hid (HB3.out.trans hb5)
        clear ho5 hb5
        go_wp2_with fail
        exact ⟨⟨i, _, rfl, by omega, by go_num, HO5.out, HB5.out⟩, by simp [intOf]⟩

end Go.Proofs.YtfohgkabmdhhaaaGreatDoor
