/- Contracts of nat's divideByLimb, of slices.Clone, of groupsOf. -/
import Derived.Test.YtpchnejdbmoicaaDoorWR
import Derived.Test.YtpchnejdbmoicaaDoorDig
import Derived.Test.YtpchnejdbmoicaaDoorI0
namespace Cin
open Go Go.RowKit
section
variable {t : TypeId} {k : IntKind} {w w' : World} {base : Nat} {v : Value} {xs : List Nat}
theorem Own.take {ad : Option Addr} {n cap m : Nat} (h : Own t k w base (.slice ad n cap) xs) (hm : m ≤ n) : Own t k w base (.slice ad m cap) (xs.take m) := by
  have hlen := h.1
  have hus : us k (xs.take m) = (us k xs).take m := by simp [us, List.map_take]
  rcases h.2 with ⟨e, hn⟩ | ⟨g, cap', cur, e, hb, hg, hn, hx, hs, ht⟩
  · cases e
    obtain rfl : m = 0 := by omega
    rw [List.take_zero]
    exact Own.nil _ _ _ _
  · cases e
    have hl : (xs.take m).length = m := by rw [List.length_take]; omega
    refine ⟨by rw [hus, hl, List.length_take, hlen]; omega, .inr ⟨g, cap, cur, by rw [hl], hb, hg, by omega, hx, hs, ?_⟩⟩
    rw [hl, hus, ← ht, List.take_take, Nat.mul_one, Nat.mul_one, Nat.min_eq_left hm]
theorem Own.keep {S : Nat → Prop} (h : Own t k w base v xs) (hw : Keep S w w') (hs : ∀ b, S b → b < base) : Own t k w' base v xs := by
  refine ⟨h.1, ?_⟩
  rcases h.2 with h2 | ⟨g, cap, cur, rfl, hbg, hg, r⟩
  · exact .inl h2
  · exact .inr ⟨g, cap, cur, rfl, hbg, by rw [hw.block g (lt_of_heap hg) (fun h3 => by have := hs g h3; omega)]; exact hg, r⟩
theorem Own.below2 {B : Nat} {g n cap : Nat} (h : Own t k w base (.slice (some ⟨g, 0, none⟩) n cap) xs) (hb : Below B w w') (hg : g < B) : Own t k w' base (.slice (some ⟨g, 0, none⟩) n cap) xs := by
  refine ⟨h.1, ?_⟩
  rcases h.2 with ⟨e, _⟩ | ⟨g', cap, cur, e, hbg, hg', r⟩
  · cases e
  · cases e; exact .inr ⟨_, cap, cur, rfl, hbg, by rw [hb.block _ hg]; exact hg', r⟩
end
/-- 'append(s, x...)' of a slice of integers to a slice of the call's own. -/
theorem wpList_append_sl {P : Program} {ops : Array Oper} {rest : List Oper} {o : Oper} {a : Act} {Q : Exit → Act → World → Prop} (wr : World) (hgd : o.guard = none) (s x : Operand) (t : TypeId)
    (ho : o.op = .call { callee := .builtin .append, args := #[s, x], argTypes := #[t, t] }) (base : Nat) (e : TypeId) (i : TypeInfo) (k : IntKind) (bytes : Nat)
    (ht : P.underlying t = some (.slice e)) (hi : P.info? e = some i) (hz : i.zero = some (.int k 0)) (hsize : i.size = 1) (hby : i.bytes = bytes)
    (v : Value) (xs : List Nat) (hs : a.eval s = v) (hown : Own e k wr base v xs) (b off m c : Nat) (ys : List Nat) (hx : a.eval x = .slice (some ⟨b, off, none⟩) m c) (hm : m = ys.length) (hsl : Sl e k wr (.slice (some ⟨b, off, none⟩) m c) ys)
    (hlen : xs.length + ys.length ≤ 1000000000) (hbytes : (xs.length + ys.length) * bytes ≤ 140737488355328) (hbase : base ≤ wr.heap.size)
    (h : ∀ v' w', Own e k w' base v' (xs ++ ys) → Below base wr w' → (v' = .slice none 0 0 ↔ v = .slice none 0 0 ∧ m = 0) → wpList P ops Q rest (a.put o.dst v') w') : wpList P ops Q (o :: rest) a wr := by
  subst hm
  refine wpList_append_own _ hgd s x t ho base e i (.int k 0) 1 bytes ht hi hz hsize hby rfl (by decide) v xs.length (us k xs) hs hown ⟨b, off, none⟩ ys.length c (us k ys) hx (by simp [us])
    (fun j u hj => ?_) (fun u hu => ?_) (by unfold maxLen; omega) hbytes hbase ?_
  · rcases Nat.lt_or_ge j ys.length with hl | hl
    · rw [us_get hl] at hj
      obtain ⟨b', off', e', hc, _⟩ := hsl.cell hl
      cases e'
      injection hj with hj
      subst hj
      have ea : Addr.add ⟨b, off, none⟩ j = ⟨b, off + j, none⟩ := by unfold Addr.add; split <;> simp_all
      rw [ea]; exact hc
    · rw [List.getElem?_eq_none (by simp [us]; omega)] at hj; cases hj
  · obtain ⟨y, _, rfl⟩ := List.mem_map.1 hu
    rfl
  · intro v' w' h1 h2 h3
    refine h v' w' ?_ ?_ h3
    · unfold Own
      rw [List.length_append, show us k (xs ++ ys) = us k xs ++ us k ys by simp [us]]
      exact h1
    · exact (Below.refl _ wr).grown h2 hbase (fun g hg => (World.ownsRow.lt hown g hg).1)
/-- One word of a division by a word. -/
theorem step_div {xs zs : List Nat} {i q d t z r : Nat} (hl : zs.length = xs.length) (hok : Ok zs) (hv : val (zs.drop (i + 1)) * d + q = val (xs.drop (i + 1))) (hun : ∀ j, j ≤ i → lim zs j = lim xs j) (hi : i < xs.length)
    (et : t = q * 4294967296 + lim xs i) (hz : z = t / d) (hr : r = t % d) (hq : q < d) (hx : lim xs i < 4294967296) (hd : d < 4294967296) :
    z < 4294967296 ∧ r < d ∧ (zs.set i z).length = xs.length ∧ Ok (zs.set i z) ∧ val ((zs.set i z).drop i) * d + r = val (xs.drop i) ∧ ∀ j, j < i → lim (zs.set i z) j = lim xs j := by
  have hd0 : 0 < d := by omega
  have hzl : z < 4294967296 := by
    rw [hz]
    refine Nat.div_lt_of_lt_mul ?_
    have : (q + 1) * 4294967296 ≤ d * 4294967296 := Nat.mul_le_mul_right _ hq
    omega
  refine ⟨hzl, by rw [hr]; exact Nat.mod_lt _ hd0, by rw [List.length_set, hl], hok.set _ _ hzl, ?_, fun j hj => by rw [lim_set_other (by omega)]; exact hun j (by omega)⟩
  rw [val_drop_step, val_drop_step xs, lim_set_same (by omega), List.drop_set_of_lt (by omega)]
  have e1 : z * d + r = t := by rw [hz, hr, Nat.mul_comm]; exact Nat.div_add_mod t d
  rw [Nat.add_mul, ← hv, Nat.mul_add, Nat.mul_assoc]
  omega

end Cin
namespace Go.Proofs.YtpchnejdbmoicaaDoor
open Go.RowKit Cin

set_option maxRecDepth 100000 in
set_option maxHeartbeats 1000000 in
/-- divideByLimb: how often d goes into x, in x's place; what is left is told. -/
theorem divLimb_any (g n cap : Nat) (xs : List Nat) (d base : Nat) (w : World) (h : Own 68 .u32 w base (.slice (some ⟨g, 0, none⟩) n cap) xs) (hn : n = xs.length) (ho : Ok xs) (hd0 : 0 < d) (hd : d < 4294967296) (hl : n ≤ 100000000) :
    Calls Tryd.prog 61 #[.slice (some ⟨g, 0, none⟩) n cap, .int .u32 d] w fun e w' => ∃ zs, e = .returned (.int .u32 (val xs % d : Nat)) ∧ Own 68 .u32 w' base (.slice (some ⟨g, 0, none⟩) n cap) zs ∧ zs.length = n ∧ Ok zs ∧ val zs = val xs / d ∧ Keep (· = g) w w' := by
  have H := Lib.hid h
  have HN := Lib.hid hn
  clear h hn
  go_enter Tryd.func61, Tryd.ntmps61
  go_wp2_with fail
  go_loopw [5, 6] (fun c i wr => ∃ (k q : Nat) (zs : List Nat), k ≤ n ∧ i = .int .i64 ((k : Int) - 1) ∧ c = .int .u64 q ∧ q < d ∧ zs.length = xs.length ∧ Ok zs ∧ val (zs.drop k) * d + q = val (xs.drop k) ∧
      (∀ j, j < k → lim zs j = lim xs j) ∧ Own 68 .u32 wr base (.slice (some ⟨g, 0, none⟩) n cap) zs ∧ Keep (· = g) w wr) (fun _ i _ => (intOf i + 1).toNat)
  case atStart => exact ⟨n, 0, xs, Nat.le_refl _, rfl, rfl, hd0, rfl, ho, by rw [List.drop_of_length_le (by have := HN.out; omega), val_nil]; omega, fun _ _ => rfl, H.out, Keep.refl _ _⟩
  case round =>
    obtain ⟨k, q, zs, hk, rfl, rfl, hq, hzl, hok, hv, hun, hown, hkeep⟩ := hrel
    have hzn : n = zs.length := by have := HN.out; omega
    by_cases hk0 : k = 0
    · subst hk0
      have hv0 : val zs * d + q = val xs := by simpa using hv
      have hq2 : q = val xs % d := by rw [← hv0, Nat.add_comm, Nat.add_mul_mod_self_right, Nat.mod_eq_of_lt hq]
      have hz2 : val zs = val xs / d := by rw [← hv0, Nat.add_comm, Nat.add_mul_div_right _ _ hd0, Nat.div_eq_of_lt hq, Nat.zero_add]
      have HR := Lib.hid (show ∃ zs', Own 68 .u32 wr base (.slice (some ⟨g, 0, none⟩) n cap) zs' ∧ zs'.length = n ∧ Ok zs' ∧ val zs' = val xs / d ∧ Keep (· = g) w wr from ⟨zs, hown, hzn.symm, hok, hz2, hkeep⟩)
      have HQ := Lib.hid hq2
      have hq32 : q < 4294967296 := by omega
      clear hv hun hown hkeep hv0 hq2 hz2 hzl hzn
      go_wp2_with fail
      go_ret
      obtain ⟨zs', r1, r2, r3, r4, r5⟩ := HR.out
      exact ⟨zs', ret_int (by rw [← HQ.out]), r1, r2, r3, r4, r5⟩
    · obtain ⟨i, rfl⟩ : ∃ i, k = i + 1 := ⟨k - 1, by omega⟩
      have hcell := hown.cell hzn (i := i) (by omega)
      have hf := hown.free hzn i
      rw [hun i (by omega)] at hcell
      have hlim : lim xs i < 4294967296 := lim_lt ho _
      have hor : bits BinOp.or IntKind.u64 ((q : Int) * 4294967296) ((lim xs i : Nat) : Int) = ((q * 4294967296 + lim xs i : Nat) : Int) := by
        have := or_u64 (x := q) (y := lim xs i) (s := 32) (by omega) (by omega) (by omega)
        simpa using this
      obtain ⟨t, et⟩ : ∃ t : Nat, t = q * 4294967296 + lim xs i := ⟨_, rfl⟩
      rw [← et] at hor
      obtain ⟨z, hz, ez⟩ : ∃ z : Nat, IntKind.u64.wrap ((t : Int) / (d : Int)) = (z : Int) ∧ z = t / d := ⟨t / d, by
        rw [← Int.natCast_ediv, IntKind.wrap_u64]
        have := Nat.div_le_self t d
        generalize t / d = z at *
        omega, rfl⟩
      obtain ⟨r, hr, er⟩ : ∃ r : Nat, (t : Int).tmod (d : Int) = (r : Int) ∧ r = t % d := ⟨t % d, rfl, rfl⟩
      have R := step_div hzl hok hv (fun j hj => hun j (by omega)) (by have := HN.out; omega) et ez er hq hlim hd
      have HR := Lib.hid R
      have hz32 : z < 4294967296 := R.1
      have HO := Lib.hid (hown.set hzn i z)
      have HK := Lib.hid (hkeep.setCell (a := ⟨g, i, none⟩) rfl (.int .u32 (z : Nat)))
      have ei : ((i + 1 : Nat) : Int) - 1 = (i : Int) := by omega
      clear R et ez er hown hkeep hv hun hzl hzn
      go_wp2_with fail
      obtain ⟨r1, r2, r3, r4, r5, r6⟩ := HR.out
      exact ⟨⟨i, r, zs.set i z, by omega, by go_num, rfl, r2, r3, r4, r5, r6, HO.out, HK.out⟩, by simp [intOf]⟩

set_option maxRecDepth 100000 in
set_option maxHeartbeats 1000000 in
/-- slices.Clone: the same words in memory of their own. -/
theorem cloneSl_any (v : Value) (xs : List Nat) (w : World) (h : Sl 68 .u32 w v xs) (hl : xs.length ≤ 100000000) :
    Calls Tryd.prog 60 #[v] w fun e w' => ∃ v', e = .returned v' ∧ Own 68 .u32 w' w.heap.size v' xs ∧ Below w.heap.size w w' := by
  obtain ⟨i0, hi0, hz0, hz1, hz2⟩ := info_parts info_u32
  rcases h with ⟨rfl, rfl⟩ | ⟨b, off, cap, cur, rfl, r⟩
  · have heq := Lib.run_eql_slice_nil (P := Tryd.prog) w 23 68 none 0 0 0 0 Tryd.underlying23
    go_enter Tryd.func60, Tryd.ntmps60
    go_wp2_with fail
    go_ret
    exact ⟨_, rfl, Own.nil _ _ _ _, Below.refl _ _⟩
  · have hsl : Sl 68 .u32 w (.slice (some ⟨b, off, none⟩) xs.length cap) xs := .inr ⟨b, off, cap, cur, rfl, r⟩
    have HS := Lib.hid (hsl.below (bel_alloc w (Obj.cells #[] 68)))
    have HO := Lib.hid (show Own 68 .u32 (w.alloc (Obj.cells #[] 68)) w.heap.size (.slice (some ⟨w.heap.size, 0, none⟩) 0 0) [] from Own.made w (Nat.le_refl _) 0 (by decide))
    clear hsl r
    generalize hn : xs.length = n at *
    have HN := Lib.hid hn
    clear hn
    have heq := Lib.run_eql_slice_nil (P := Tryd.prog) w 23 68 (some ⟨b, off, none⟩) n cap 0 0 Tryd.underlying23
    go_enter Tryd.func60, Tryd.ntmps60
    go_wp2_with (at_builtin; go_must (refine wpList_append_sl (w.alloc (Obj.cells #[] 68)) rfl _ _ 23 rfl w.heap.size 68 i0 .u32 4 Tryd.underlying23 hi0 hz0 hz1 hz2 _ [] (by rfl) (by exact HO.out) b off n cap xs (by rfl) HN.out.symm HS.out (by have := HN.out; simp; omega) (by have := HN.out; simp; omega) (by simp) ?_))
    intro v' w' h1 h2 _
    have H1 := Lib.hid h1
    have H2 := Lib.hid (((Below.refl _ w).alloc (Nat.le_refl _) _).trans h2)
    clear h1 h2
    go_wp2_with fail
    go_ret
    exact ⟨_, rfl, H1.out, H2.out⟩

/-- The number that groups of nine digits stand for, the lowest first. -/
def gval : List Nat → Nat
  | [] => 0
  | x :: xs => x + 1000000000 * gval xs
theorem gval_snoc (xs : List Nat) (x : Nat) : gval (xs ++ [x]) = gval xs + 1000000000 ^ xs.length * x := by
  induction xs with
  | nil => simp [gval]
  | cons y ys ih =>
    rw [List.cons_append, gval, gval, ih, List.length_cons, Nat.pow_succ, Nat.mul_add, Nat.mul_comm (1000000000 ^ ys.length) 1000000000, Nat.mul_assoc]
    omega
/-- What groupsOf makes: the groups of n, each below 10 to the 9th, the last not 0. -/
def Groups (n : Nat) (gs : List Nat) : Prop := gval gs = n ∧ (∀ x ∈ gs, x < 1000000000) ∧ (gs = [] ∨ lim gs (gs.length - 1) ≠ 0)

theorem divGroup (g n cap : Nat) (xs : List Nat) (base : Nat) (w : World) (h : Own 68 .u32 w base (.slice (some ⟨g, 0, none⟩) n cap) xs) (hn : n = xs.length) (ho : Ok xs) (hl : n ≤ 100000000) :
    Calls Tryd.prog 61 #[.slice (some ⟨g, 0, none⟩) n cap, .int .u32 1000000000] w fun e w' => ∃ zs, e = .returned (.int .u32 (val xs % 1000000000 : Nat)) ∧ Own 68 .u32 w' base (.slice (some ⟨g, 0, none⟩) n cap) zs ∧ zs.length = n ∧ Ok zs ∧ val zs = val xs / 1000000000 ∧ Keep (· = g) w w' :=
  divLimb_any g n cap xs 1000000000 base w h hn ho (by decide) (by decide) hl

/-- One group more. -/
theorem group_more {n c q r : Nat} {gs : List Nat} (h : gval gs + 1000000000 ^ gs.length * c = n) (hlt : ∀ x ∈ gs, x < 1000000000) (hq : q = c / 1000000000) (hr : r = c % 1000000000) :
    gval (gs ++ [r]) + 1000000000 ^ (gs ++ [r]).length * q = n ∧ ∀ x ∈ gs ++ [r], x < 1000000000 := by
  refine ⟨?_, fun x hx => ?_⟩
  · rw [gval_snoc, List.length_append, List.length_singleton, Nat.pow_succ, ← h]
    have : c = r + 1000000000 * q := by omega
    rw [this, Nat.mul_add, Nat.mul_assoc]
    omega
  · rcases List.mem_append.1 hx with hx | hx
    · exact hlt x hx
    · rw [List.mem_singleton.1 hx, hr]; exact Nat.mod_lt _ (by decide)

def sliceLen : Value → Nat
  | .slice _ n _ => n
  | _ => 0
/-- So many groups there are at most. -/
theorem groups_few {n c L : Nat} {gs : List Nat} (h : gval gs + 1000000000 ^ gs.length * c = n) (hc : c ≠ 0) (hn : n < pw L) : gs.length < 2 * L := by
  have h1 : 1000000000 ^ gs.length * 1 ≤ 1000000000 ^ gs.length * c := Nat.mul_le_mul_left _ (by omega)
  rw [pw_two] at hn
  have h2 : 2 ^ (29 * gs.length) ≤ 1000000000 ^ gs.length := by rw [Nat.pow_mul]; exact Nat.pow_le_pow_left (by decide) _
  have h3 := (Nat.pow_lt_pow_iff_right (a := 2) (by decide)).1 (show 2 ^ (29 * gs.length) < 2 ^ (32 * L) by omega)
  omega
theorem val_pos {zs : List Nat} (hn : Norm zs) (h : zs.length ≠ 0) : val zs ≠ 0 := fun e => h (by rw [norm_val_zero hn e]; rfl)

set_option maxRecDepth 100000 in
set_option maxHeartbeats 2000000 in
/-- groupsOf: the groups of digits, the lowest first. -/
theorem groupsOf_any (v : Value) (x L : Nat) (w : World) (h : NatV 68 w v x) (hx : x < pw L) (hL : L ≤ 10000000) (hx0 : x ≠ 0) :
    Calls Tryd.prog 51 #[v] w fun e w' => ∃ v' gs, e = .returned v' ∧ Sl 68 .u32 w' v' gs ∧ Groups x gs ∧ gs.length ≤ 2 * L ∧ Below w.heap.size w w' := by
  obtain ⟨i0, hi0, hz0, hz1, hz2⟩ := info_parts info_u32
  obtain ⟨ad, len, cap, rfl, xs, hs, ho, hnm, hxv⟩ := h.shape
  have hlx := hs.len
  have hl : xs.length ≤ L := norm_len hnm (by rw [hxv]; exact hx)
  have hl0 : xs ≠ [] := fun e => hx0 (by rw [← hxv, e]; rfl)
  have H := Lib.hid hs
  have HNM := Lib.hid hnm
  have HXV := Lib.hid hxv
  have HX := Lib.hid hx
  clear h hs hnm hx hxv
  go_enter Tryd.func51, Tryd.ntmps51
  go_wp2_with fail
  refine (cloneSl_any _ xs _ (H.out.below (bel_alloc _ _)) (by omega)).mono ?_
  rintro e w1 ⟨v1, rfl, hown, hb⟩
  obtain ⟨g, cap1, rfl, hg0, hg1, hc1⟩ : ∃ g cap1, v1 = .slice (some ⟨g, 0, none⟩) xs.length cap1 ∧ w.heap.size ≤ g ∧ g < w1.heap.size ∧ xs.length ≤ cap1 := by
    rcases hown.shape with ⟨_, e⟩ | ⟨g, cap1, e, h1, h2, h3⟩
    · exact absurd e hl0
    · exact ⟨g, cap1, e, by simp at h1; omega, h2, h3⟩
  have HB1 := Lib.hid (bel_on (bel_alloc _ _) hb)
  have HO1 := Lib.hid (show Own 68 .u32 w1 w.heap.size (.slice (some ⟨g, 0, none⟩) xs.length cap1) xs from ⟨hown.1, by
    rcases hown.2 with h2 | ⟨g', c', cur, e, hb', r⟩
    · exact .inl h2
    · exact .inr ⟨g', c', cur, e, by simp at hb'; omega, r⟩⟩)
  clear hb hown hl0 hlx
  go_wp2_with fail
  go_loopw [3, 4] (fun l gu wr => ∃ (n : Nat) (zs gs : List Nat) (gv : Value), gv = gu ∧ l = .slice (some ⟨g, 0, none⟩) n cap1 ∧ n = zs.length ∧ n ≤ L ∧ Own 68 .u32 wr w.heap.size l zs ∧ Ok zs ∧ Norm zs ∧ sliceLen gv = gs.length ∧ Own 68 .u32 wr (g + 1) gv gs ∧ gval gs + 1000000000 ^ gs.length * val zs = x ∧
      (∀ y ∈ gs, y < 1000000000) ∧ (gs = [] ∨ n ≠ 0 ∨ lim gs (gs.length - 1) ≠ 0) ∧ gs.length ≤ 2 * L ∧ Below w.heap.size w wr ∧ g < wr.heap.size) (fun _ gv _ => 2 * L - sliceLen gv)
  case atStart => exact ⟨xs.length, xs, [], _, rfl, rfl, rfl, hl, HO1.out, ho, HNM.out, rfl, Own.nil _ _ _ _, by simp [gval]; exact HXV.out, (fun y hy => by cases hy), .inl rfl, Nat.zero_le _, HB1.out, hg1⟩
  case round =>
    obtain ⟨n, zs, gs, gv, rfl, rfl, hn, hnL, hoz, hok, hnz, hsl, hog, hv, hlt, hlast, hgl, hbel, hgw⟩ := hrel
    by_cases hn0 : n = 0
    · subst hn0
      have hz : zs = [] := List.length_eq_zero_iff.1 hn.symm
      have hval : gval gs = x := by rw [← hv, hz, val_nil]; omega
      have hgs : gs ≠ [] := fun e => hx0 (by rw [← hval, e]; rfl)
      have HR := Lib.hid (show Sl 68 .u32 wr gv gs ∧ Groups x gs ∧ gs.length ≤ 2 * L ∧ Below w.heap.size w wr from ⟨hog.sl, ⟨hval, hlt, by rcases hlast with h | h | h; exact .inl h; exact absurd rfl h; exact .inr h⟩, hgl, hbel⟩)
      clear hoz hog hbel hv hlt hlast hsl hnz hn
      go_wp2_with fail
      go_ret
      exact ⟨_, gs, rfl, HR.out⟩
    · have hvz := val_pos hnz (by omega)
      have hfew := groups_few hv hvz HX.out
      obtain ⟨r, hr⟩ : ∃ r : Nat, r = val zs % 1000000000 := ⟨_, rfl⟩
      have HOZ := Lib.hid hoz
      have HOG := Lib.hid hog
      have HBE := Lib.hid hbel
      have HV := Lib.hid hv
      have HLT := Lib.hid hlt
      have HSL := Lib.hid hsl
      have HVZ := Lib.hid hvz
      have HR := Lib.hid hr
      have HN := Lib.hid hn
      have hn0' : decide ((0 : Int) < (n : Int)) = true := by rw [decide_eq_true_iff]; omega
      clear hoz hog hbel hv hlt hlast hsl hnz hvz hr hn
      go_wp2_with fail
      refine (divGroup g n cap1 zs w.heap.size _ HOZ.out HN.out hok (by omega)).mono ?_
      rintro e w2 ⟨ys, rfl, hoy, hyl, hoky, hvy, hk⟩
      rw [← HR.out]
      have HOY := Lib.hid hoy
      have HYL := Lib.hid hyl
      have HVY := Lib.hid hvy
      have HOG2 := Lib.hid (HOG.out.keep hk (fun b e => by omega))
      have HB2 := Lib.hid (HBE.out.trans (hk.below (B := w.heap.size) (HBE.out.size) (fun k e => by omega)))
      have hg2 : g < w2.heap.size := by have := hk.size; omega
      clear hoy hyl hvy hk
      go_wp2_with (at_builtin; go_must (refine wpList_append_one w2 rfl _ _ 23 rfl (g + 1) 68 i0 .u32 4 Tryd.underlying23 hi0 hz0 hz1 hz2 _ gs (by rfl) (by exact HOG2.out) r (by rfl) (by omega) (by omega) (by omega) ?_))
      intro gv' w3 h1 h2
      have hoy3 := HOY.out.below2 h2 (by omega)
      have HG3 := Lib.hid h1
      have HB3 := Lib.hid (HB2.out.trans (h2.mono (B' := w.heap.size) (by omega)))
      have hg3 : g < w3.heap.size := by have := h2.size; omega
      have HS3 := Lib.hid hoy3.sl
      have HO3 := Lib.hid hoy3
      have hncap : n ≤ cap1 := by
        rcases HOZ.out.shape with ⟨e, _⟩ | ⟨_, _, e, _, _, h⟩
        · cases e
        · cases e; have := HN.out; omega
      clear h1 h2 hoy3
      go_wp2_with fail
      refine (trim_at _ n cap1 ys _ HS3.out HYL.out.symm (by omega) hncap).mono ?_
      rintro e w4 ⟨rfl, rfl⟩
      go_wp2_with fail
      have hle := trimN_le ys n
      have hyn : n ≤ ys.length := by have := HYL.out; omega
      have hq : val (ys.take (trimN ys n)) = val zs / 1000000000 := by rw [trimN_val ys n hyn, List.take_of_length_le (by have := HYL.out; omega), HVY.out]
      have G := group_more HV.out HLT.out hq HR.out
      have hlen : (ys.take (trimN ys n)).length = trimN ys n := by rw [List.length_take]; omega
      have hgv : sliceLen gv' = (gs ++ [r]).length := by
        rcases HG3.out.shape with ⟨_, e⟩ | ⟨_, _, e, _⟩
        · simp at e
        · rw [e]; rfl
      have hgl' : (gs ++ [r]).length = gs.length + 1 := by simp
      refine ⟨⟨trimN ys n, ys.take (trimN ys n), gs ++ [r], _, rfl, rfl, hlen.symm, by omega, HO3.out.take hle, hoky.take _, trimN_norm ys n hyn, hgv, HG3.out, G.1, G.2, ?_, by omega, HB3.out, hg3⟩, ?_⟩
      · by_cases ht : trimN ys n = 0
        · right; right
          rw [hgl', Nat.add_sub_cancel, lim_append_right (Nat.le_refl _), Nat.sub_self]
          show r ≠ 0
          rw [ht, List.take_zero, val_nil] at hq
          have := HVZ.out
          have := HR.out
          omega
        · exact .inr (.inl ht)
      · rw [hgv, HSL.out, hgl']; omega

end Go.Proofs.YtpchnejdbmoicaaDoor
