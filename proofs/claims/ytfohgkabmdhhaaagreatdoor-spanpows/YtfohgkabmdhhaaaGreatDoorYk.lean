/- Contracts of nat's divideByLimb, of slices.Clone, of groupsOf. -/
import Derived.Test.YtfohgkabmdhhaaaGreatDoorYj
import Derived.Test.YtfohgkabmdhhaaaGreatDoorYi
import Derived.Test.YtfohgkabmdhhaaaGreatDoorYg
import Derived.Test.YtfohgkabmdhhaaaGreatDoorYb
namespace Cin
open Go Go.RowKit
section
variable {t : TypeId} {k : IntKind} {w w' : World} {base : Nat} {v : Value} {xs : List Nat}
theorem Own.take {ad : Option Addr} {n cap m : Nat} (h : Own t k w base (.slice ad n cap) xs) (hm : m ≤ n) : Own t k w base (.slice ad m cap) (xs.take m) := by
  have hlen := h.1
  have hus : us k (xs.take m) = (us k xs).take m := by simp [us, List.map_take]
  rcases h.2 with ⟨e, hn⟩ | ⟨g, cap', cur, e, hb, hg, hn, hx, hs, ht⟩
  · cases e
    obtain rfl : m = 0 := by omega
    rw [List.take_zero]
    exact Own.nil _ _ _ _
  · cases e
    have hl : (xs.take m).length = m := by rw [List.length_take]; omega
    refine ⟨by rw [hus, hl, List.length_take, hlen]; omega, .inr ⟨g, cap, cur, by rw [hl], hb, hg, by omega, hx, hs, ?_⟩⟩
    rw [hl, hus, ← ht, List.take_take, Nat.mul_one, Nat.mul_one, Nat.min_eq_left hm]
theorem Own.keep {S : Nat → Prop} (h : Own t k w base v xs) (hw : Keep S w w') (hs : ∀ b, S b → b < base) : Own t k w' base v xs := by
  refine ⟨h.1, ?_⟩
  rcases h.2 with h2 | ⟨g, cap, cur, rfl, hbg, hg, r⟩
  · exact .inl h2
  · exact .inr ⟨g, cap, cur, rfl, hbg, by rw [hw.block g (lt_of_heap hg) (fun h3 => by have := hs g h3; omega)]; exact hg, r⟩
theorem Own.below2 {B : Nat} {g n cap : Nat} (h : Own t k w base (.slice (some ⟨g, 0, none⟩) n cap) xs) (hb : Below B w w') (hg : g < B) : Own t k w' base (.slice (some ⟨g, 0, none⟩) n cap) xs := by
  refine ⟨h.1, ?_⟩
  rcases h.2 with ⟨e, _⟩ | ⟨g', cap, cur, e, hbg, hg', r⟩
  · cases e
  · cases e; exact .inr ⟨_, cap, cur, rfl, hbg, by rw [hb.block _ hg]; exact hg', r⟩
end
theorem wpList_append_sl {P : Program} {ops : Array Oper} {rest : List Oper} {o : Oper} {a : Act} {Q : Exit → Act → World → Prop} (wr : World) (hgd : o.guard = none) (s x : Operand) (t : TypeId)
    (ho : o.op = .call { callee := .builtin .append, args := #[s, x], argTypes := #[t, t] }) (base : Nat) (e : TypeId) (i : TypeInfo) (k : IntKind) (bytes : Nat)
    (ht : P.underlying t = some (.slice e)) (hi : P.info? e = some i) (hz : i.zero = some (.int k 0)) (hsize : i.size = 1) (hby : i.bytes = bytes)
    (v : Value) (xs : List Nat) (hs : a.eval s = v) (hown : Own e k wr base v xs) (b off m c : Nat) (ys : List Nat) (hx : a.eval x = .slice (some ⟨b, off, none⟩) m c) (hm : m = ys.length) (hsl : Sl e k wr (.slice (some ⟨b, off, none⟩) m c) ys)
    (hlen : xs.length + ys.length ≤ 1000000000) (hbytes : (xs.length + ys.length) * bytes ≤ 140737488355328) (hbase : base ≤ wr.heap.size)
    (h : ∀ v' w', Own e k w' base v' (xs ++ ys) → Below base wr w' → (v' = .slice none 0 0 ↔ v = .slice none 0 0 ∧ m = 0) → wpList P ops Q rest (a.put o.dst v') w') : wpList P ops Q (o :: rest) a wr := by
  subst hm
  refine wpList_append_own _ hgd s x t ho base e i (.int k 0) 1 bytes ht hi hz hsize hby rfl (by decide) v xs.length (us k xs) hs hown ⟨b, off, none⟩ ys.length c (us k ys) hx (by simp [us])
    (fun j u hj => ?_) (fun u hu => ?_) (by unfold maxLen; omega) hbytes hbase ?_
  · rcases Nat.lt_or_ge j ys.length with hl | hl
    · rw [us_get hl] at hj
      obtain ⟨b', off', e', hc, _⟩ := hsl.cell hl
      cases e'
      injection hj with hj
      subst hj
      have ea : Addr.add ⟨b, off, none⟩ j = ⟨b, off + j, none⟩ := by unfold Addr.add; split <;> simp_all
      rw [ea]; exact hc
    · rw [List.getElem?_eq_none (by simp [us]; omega)] at hj; cases hj
  · obtain ⟨y, _, rfl⟩ := List.mem_map.1 hu
    rfl
  · intro v' w' h1 h2 h3
    refine h v' w' ?_ ?_ h3
    · unfold Own
      rw [List.length_append, show us k (xs ++ ys) = us k xs ++ us k ys by simp [us]]
      exact h1
    · exact (Below.refl _ wr).grown h2 hbase (fun g hg => (World.ownsRow.lt hown g hg).1)
theorem step_div {xs zs : List Nat} {i q d t z r : Nat} (hl : zs.length = xs.length) (hok : Ok zs) (hv : val (zs.drop (i + 1)) * d + q = val (xs.drop (i + 1))) (hun : ∀ j, j ≤ i → lim zs j = lim xs j) (hi : i < xs.length)
    (et : t = q * 4294967296 + lim xs i) (hz : z = t / d) (hr : r = t % d) (hq : q < d) (hx : lim xs i < 4294967296) (hd : d < 4294967296) :
    z < 4294967296 ∧ r < d ∧ (zs.set i z).length = xs.length ∧ Ok (zs.set i z) ∧ val ((zs.set i z).drop i) * d + r = val (xs.drop i) ∧ ∀ j, j < i → lim (zs.set i z) j = lim xs j := by
  have hd0 : 0 < d := by omega
  have hzl : z < 4294967296 := by
    rw [hz]
    refine Nat.div_lt_of_lt_mul ?_
    have : (q + 1) * 4294967296 ≤ d * 4294967296 := Nat.mul_le_mul_right _ hq
    omega
  refine ⟨hzl, by rw [hr]; exact Nat.mod_lt _ hd0, by rw [List.length_set, hl], hok.set _ _ hzl, ?_, fun j hj => by rw [lim_set_other (by omega)]; exact hun j (by omega)⟩
  rw [val_drop_step, val_drop_step xs, lim_set_same (by omega), List.drop_set_of_lt (by omega)]
  have e1 : z * d + r = t := by rw [hz, hr, Nat.mul_comm]; exact Nat.div_add_mod t d
  rw [Nat.add_mul, ← hv, Nat.mul_add, Nat.mul_assoc]
  omega
end Cin
namespace Go.Proofs.YtfohgkabmdhhaaaGreatDoor
open Go.RowKit Cin
set_option maxRecDepth 100000 in
set_option maxHeartbeats 1000000 in
theorem divLimb_any (g n cap : Nat) (xs : List Nat) (d base : Nat) (w : World) (h : Own 146 .u32 w base (.slice (some ⟨g, 0, none⟩) n cap) xs) (hn : n = xs.length) (ho : Ok xs) (hd0 : 0 < d) (hd : d < 4294967296) (hl : n ≤ 100000000) :
    Calls Tryz.prog 182 #[.slice (some ⟨g, 0, none⟩) n cap, .int .u32 d] w fun e w' => ∃ zs, e = .returned (.int .u32 (val xs % d : Nat)) ∧ Own 146 .u32 w' base (.slice (some ⟨g, 0, none⟩) n cap) zs ∧ zs.length = n ∧ Ok zs ∧ val zs = val xs / d ∧ Keep (· = g) w w' := by
  have H := Lib.hid h
  have HN := Lib.hid hn
  clear h hn
  go_enter Tryz.func182, Tryz.ntmps182
  go_wp2_with fail
  go_loopw [5, 6] (fun c i wr => ∃ (k q : Nat) (zs : List Nat), k ≤ n ∧ i = .int .i64 ((k : Int) - 1) ∧ c = .int .u64 q ∧ q < d ∧ zs.length = xs.length ∧ Ok zs ∧ val (zs.drop k) * d + q = val (xs.drop k) ∧
      (∀ j, j < k → lim zs j = lim xs j) ∧ Own 146 .u32 wr base (.slice (some ⟨g, 0, none⟩) n cap) zs ∧ Keep (· = g) w wr) (fun _ i _ => (intOf i + 1).toNat)
  case atStart => exact ⟨n, 0, xs, Nat.le_refl _, rfl, rfl, hd0, rfl, ho, by rw [List.drop_of_length_le (by have := HN.out; omega), val_nil]; omega, fun _ _ => rfl, H.out, Keep.refl _ _⟩
  case round =>
    obtain ⟨k, q, zs, hk, rfl, rfl, hq, hzl, hok, hv, hun, hown, hkeep⟩ := hrel
    have hzn : n = zs.length := by have := HN.out; omega
    by_cases hk0 : k = 0
    · subst hk0
      have hv0 : val zs * d + q = val xs := by simpa using hv
      have hq2 : q = val xs % d := by rw [← hv0, Nat.add_comm, Nat.add_mul_mod_self_right, Nat.mod_eq_of_lt hq]
      have hz2 : val zs = val xs / d := by rw [← hv0, Nat.add_comm, Nat.add_mul_div_right _ _ hd0, Nat.div_eq_of_lt hq, Nat.zero_add]
      have HR := Lib.hid (show ∃ zs', Own 146 .u32 wr base (.slice (some ⟨g, 0, none⟩) n cap) zs' ∧ zs'.length = n ∧ Ok zs' ∧ val zs' = val xs / d ∧ Keep (· = g) w wr from ⟨zs, hown, hzn.symm, hok, hz2, hkeep⟩)
      have HQ := Lib.hid hq2
      have hq32 : q < 4294967296 := by omega
      clear hv hun hown hkeep hv0 hq2 hz2 hzl hzn
      go_wp2_with fail
      go_ret
      obtain ⟨zs', r1, r2, r3, r4, r5⟩ := HR.out
      exact ⟨zs', ret_int (by rw [← HQ.out]), r1, r2, r3, r4, r5⟩
    · obtain ⟨i, rfl⟩ : ∃ i, k = i + 1 := ⟨k - 1, by omega⟩
      have hcell := hown.cell hzn (i := i) (by omega)
      have hf := hown.free hzn i
      rw [hun i (by omega)] at hcell
      have hlim : lim xs i < 4294967296 := lim_lt ho _
      have hor : bits BinOp.or IntKind.u64 ((q : Int) * 4294967296) ((lim xs i : Nat) : Int) = ((q * 4294967296 + lim xs i : Nat) : Int) := by
        have := or_u64 (x := q) (y := lim xs i) (s := 32) (by omega) (by omega) (by omega)
        simpa using this
      obtain ⟨t, et⟩ : ∃ t : Nat, t = q * 4294967296 + lim xs i := ⟨_, rfl⟩
      rw [← et] at hor
      obtain ⟨z, hz, ez⟩ : ∃ z : Nat, IntKind.u64.wrap ((t : Int) / (d : Int)) = (z : Int) ∧ z = t / d := ⟨t / d, by
        rw [← Int.natCast_ediv, IntKind.wrap_u64]
        have := Nat.div_le_self t d
        generalize t / d = z at *
        omega, rfl⟩
      obtain ⟨r, hr, er⟩ : ∃ r : Nat, (t : Int).tmod (d : Int) = (r : Int) ∧ r = t % d := ⟨t % d, rfl, rfl⟩
      have R := step_div hzl hok hv (fun j hj => hun j (by omega)) (by have := HN.out; omega) et ez er hq hlim hd
      have HR := Lib.hid R
      have hz32 : z < 4294967296 := R.1
      have HO := Lib.hid (hown.set hzn i z)
      have HK := Lib.hid (hkeep.setCell (a := ⟨g, i, none⟩) rfl (.int .u32 (z : Nat)))
      have ei : ((i + 1 : Nat) : Int) - 1 = (i : Int) := by omega
      clear R et ez er hown hkeep hv hun hzl hzn
      go_wp2_with fail
      obtain ⟨r1, r2, r3, r4, r5, r6⟩ := HR.out
      exact ⟨⟨i, r, zs.set i z, by omega, by go_num, rfl, r2, r3, r4, r5, r6, HO.out, HK.out⟩, by simp [intOf]⟩
set_option maxRecDepth 100000 in
set_option maxHeartbeats 1000000 in
theorem cloneSl_any (v : Value) (xs : List Nat) (w : World) (h : Sl 146 .u32 w v xs) (hl : xs.length ≤ 100000000) :
    Calls Tryz.prog 160 #[v] w fun e w' => ∃ v', e = .returned v' ∧ Own 146 .u32 w' w.heap.size v' xs ∧ Below w.heap.size w w' := by
  obtain ⟨i0, hi0, hz0, hz1, hz2⟩ := info_parts info_u32
  rcases h with ⟨rfl, rfl⟩ | ⟨b, off, cap, cur, rfl, r⟩
  · have heq := Lib.run_eql_slice_nil (P := Tryz.prog) w 25 146 none 0 0 0 0 Tryz.underlying25
    go_enter Tryz.func160, Tryz.ntmps160
    go_wp2_with fail
    go_ret
    exact ⟨_, rfl, Own.nil _ _ _ _, Below.refl _ _⟩
  · have hsl : Sl 146 .u32 w (.slice (some ⟨b, off, none⟩) xs.length cap) xs := .inr ⟨b, off, cap, cur, rfl, r⟩
    have HS := Lib.hid (hsl.below (bel_alloc w (Obj.cells #[] 146)))
    have HO := Lib.hid (show Own 146 .u32 (w.alloc (Obj.cells #[] 146)) w.heap.size (.slice (some ⟨w.heap.size, 0, none⟩) 0 0) [] from Own.made w (Nat.le_refl _) 0 (by decide))
    clear hsl r
    generalize hn : xs.length = n at *
    have HN := Lib.hid hn
    clear hn
    have heq := Lib.run_eql_slice_nil (P := Tryz.prog) w 25 146 (some ⟨b, off, none⟩) n cap 0 0 Tryz.underlying25
    go_enter Tryz.func160, Tryz.ntmps160
    go_wp2_with (at_builtin; go_must (refine wpList_append_sl (w.alloc (Obj.cells #[] 146)) rfl _ _ 25 rfl w.heap.size 146 i0 .u32 4 Tryz.underlying25 hi0 hz0 hz1 hz2 _ [] (by rfl) (by exact HO.out) b off n cap xs (by rfl) HN.out.symm HS.out (by have := HN.out; simp; omega) (by have := HN.out; simp; omega) (by simp) ?_))
    intro v' w' h1 h2 _
    have H1 := Lib.hid h1
    have H2 := Lib.hid (((Below.refl _ w).alloc (Nat.le_refl _) _).trans h2)
    clear h1 h2
    go_wp2_with fail
    go_ret
    exact ⟨_, rfl, H1.out, H2.out⟩
def gval : List Nat → Nat
  | [] => 0
  | x :: xs => x + 1000000000 * gval xs
theorem gval_snoc (xs : List Nat) (x : Nat) : gval (xs ++ [x]) = gval xs + 1000000000 ^ xs.length * x := by
  induction xs with
  | nil => simp [gval]
  | cons y ys ih =>
    rw [List.cons_append, gval, gval, ih, List.length_cons, Nat.pow_succ, Nat.mul_add, Nat.mul_comm (1000000000 ^ ys.length) 1000000000, Nat.mul_assoc]
    omega
def Groups (n : Nat) (gs : List Nat) : Prop := gval gs = n ∧ (∀ x ∈ gs, x < 1000000000) ∧ (gs = [] ∨ lim gs (gs.length - 1) ≠ 0)
theorem divGroup (g n cap : Nat) (xs : List Nat) (base : Nat) (w : World) (h : Own 146 .u32 w base (.slice (some ⟨g, 0, none⟩) n cap) xs) (hn : n = xs.length) (ho : Ok xs) (hl : n ≤ 100000000) :
    Calls Tryz.prog 182 #[.slice (some ⟨g, 0, none⟩) n cap, .int .u32 1000000000] w fun e w' => ∃ zs, e = .returned (.int .u32 (val xs % 1000000000 : Nat)) ∧ Own 146 .u32 w' base (.slice (some ⟨g, 0, none⟩) n cap) zs ∧ zs.length = n ∧ Ok zs ∧ val zs = val xs / 1000000000 ∧ Keep (· = g) w w' :=
  divLimb_any g n cap xs 1000000000 base w h hn ho (by decide) (by decide) hl
theorem group_more {n c q r : Nat} {gs : List Nat} (h : gval gs + 1000000000 ^ gs.length * c = n) (hlt : ∀ x ∈ gs, x < 1000000000) (hq : q = c / 1000000000) (hr : r = c % 1000000000) :
    gval (gs ++ [r]) + 1000000000 ^ (gs ++ [r]).length * q = n ∧ ∀ x ∈ gs ++ [r], x < 1000000000 := by
  refine ⟨?_, fun x hx => ?_⟩
  · rw [gval_snoc, List.length_append, List.length_singleton, Nat.pow_succ, ← h]
    have : c = r + 1000000000 * q := by omega
    rw [this, Nat.mul_add, Nat.mul_assoc]
    omega
  · rcases List.mem_append.1 hx with hx | hx
    · exact hlt x hx
    · rw [List.mem_singleton.1 hx, hr]; exact Nat.mod_lt _ (by decide)
def sliceLen : Value → Nat
  | .slice _ n _ => n
  | _ => 0
theorem groups_few {n c L : Nat} {gs : List Nat} (h : gval gs + 1000000000 ^ gs.length * c = n) (hc : c ≠ 0) (hn : n < pw L) : gs.length < 2 * L := by
  have h1 : 1000000000 ^ gs.length * 1 ≤ 1000000000 ^ gs.length * c := Nat.mul_le_mul_left _ (by omega)
  rw [pw_two] at hn
  have h2 : 2 ^ (29 * gs.length) ≤ 1000000000 ^ gs.length := by rw [Nat.pow_mul]; exact Nat.pow_le_pow_left (by decide) _
  have h3 := (Nat.pow_lt_pow_iff_right (a := 2) (by decide)).1 (show 2 ^ (29 * gs.length) < 2 ^ (32 * L) by omega)
  omega
theorem val_pos {zs : List Nat} (hn : Norm zs) (h : zs.length ≠ 0) : val zs ≠ 0 := fun e => h (by rw [norm_val_zero hn e]; rfl)
set_option maxRecDepth 100000 in
set_option maxHeartbeats 2000000 in
theorem groupsOf_any (v : Value) (x L : Nat) (w : World) (h : NatV 146 w v x) (hx : x < pw L) (hL : L ≤ 10000000) (hx0 : x ≠ 0) :
    Calls Tryz.prog 178 #[v] w fun e w' => ∃ v' gs, e = .returned v' ∧ Sl 146 .u32 w' v' gs ∧ Groups x gs ∧ gs.length ≤ 2 * L ∧ Below w.heap.size w w' := by
  obtain ⟨i0, hi0, hz0, hz1, hz2⟩ := info_parts info_u32
  obtain ⟨ad, len, cap, rfl, xs, hs, ho, hnm, hxv⟩ := h.shape
  have hlx := hs.len
  have hl : xs.length ≤ L := norm_len hnm (by rw [hxv]; exact hx)
  have hl0 : xs ≠ [] := fun e => hx0 (by rw [← hxv, e]; rfl)
  have H := Lib.hid hs
  have HNM := Lib.hid hnm
  have HXV := Lib.hid hxv
  have HX := Lib.hid hx
  clear h hs hnm hx hxv
  go_enter Tryz.func178, Tryz.ntmps178
  go_wp2_with fail
  refine (cloneSl_any _ xs _ (H.out.below (bel_alloc _ _)) (by omega)).mono ?_
  rintro e w1 ⟨v1, rfl, hown, hb⟩
  obtain ⟨g, cap1, rfl, hg0, hg1, hc1⟩ : ∃ g cap1, v1 = .slice (some ⟨g, 0, none⟩) xs.length cap1 ∧ w.heap.size ≤ g ∧ g < w1.heap.size ∧ xs.length ≤ cap1 := by
    rcases hown.shape with ⟨_, e⟩ | ⟨g, cap1, e, h1, h2, h3⟩
    · exact absurd e hl0
    · exact ⟨g, cap1, e, by simp at h1; omega, h2, h3⟩
  have HB1 := Lib.hid (bel_on (bel_alloc _ _) hb)
  have HO1 := Lib.hid (show Own 146 .u32 w1 w.heap.size (.slice (some ⟨g, 0, none⟩) xs.length cap1) xs from ⟨hown.1, by
    rcases hown.2 with h2 | ⟨g', c', cur, e, hb', r⟩
    · exact .inl h2
    · exact .inr ⟨g', c', cur, e, by simp at hb'; omega, r⟩⟩)
  clear hb hown hl0 hlx
  go_wp2_with fail
  go_loopw [3, 4] (fun l gu wr => ∃ (n : Nat) (zs gs : List Nat) (gv : Value), gv = gu ∧ l = .slice (some ⟨g, 0, none⟩) n cap1 ∧ n = zs.length ∧ n ≤ L ∧ Own 146 .u32 wr w.heap.size l zs ∧ Ok zs ∧ Norm zs ∧ sliceLen gv = gs.length ∧ Own 146 .u32 wr (g + 1) gv gs ∧ gval gs + 1000000000 ^ gs.length * val zs = x ∧
      (∀ y ∈ gs, y < 1000000000) ∧ (gs = [] ∨ n ≠ 0 ∨ lim gs (gs.length - 1) ≠ 0) ∧ gs.length ≤ 2 * L ∧ Below w.heap.size w wr ∧ g < wr.heap.size) (fun _ gv _ => 2 * L - sliceLen gv)
  case atStart => exact ⟨xs.length, xs, [], _, rfl, rfl, rfl, hl, HO1.out, ho, HNM.out, rfl, Own.nil _ _ _ _, by simp [gval]; exact HXV.out, (fun y hy => by cases hy), .inl rfl, Nat.zero_le _, HB1.out, hg1⟩
  case round =>
    obtain ⟨n, zs, gs, gv, rfl, rfl, hn, hnL, hoz, hok, hnz, hsl, hog, hv, hlt, hlast, hgl, hbel, hgw⟩ := hrel
    by_cases hn0 : n = 0
    · subst hn0
      have hz : zs = [] := List.length_eq_zero_iff.1 hn.symm
      have hval : gval gs = x := by rw [← hv, hz, val_nil]; omega
      have hgs : gs ≠ [] := fun e => hx0 (by rw [← hval, e]; rfl)
      have HR := Lib.hid (show Sl 146 .u32 wr gv gs ∧ Groups x gs ∧ gs.length ≤ 2 * L ∧ Below w.heap.size w wr from ⟨hog.sl, ⟨hval, hlt, by rcases hlast with h | h | h; exact .inl h; exact absurd rfl h; exact .inr h⟩, hgl, hbel⟩)
      clear hoz hog hbel hv hlt hlast hsl hnz hn
      go_wp2_with fail
      go_ret
      exact ⟨_, gs, rfl, HR.out⟩
    · have hvz := val_pos hnz (by omega)
      have hfew := groups_few hv hvz HX.out
      obtain ⟨r, hr⟩ : ∃ r : Nat, r = val zs % 1000000000 := ⟨_, rfl⟩
      have HOZ := Lib.hid hoz
      have HOG := Lib.hid hog
      have HBE := Lib.hid hbel
      have HV := Lib.hid hv
      have HLT := Lib.hid hlt
      have HSL := Lib.hid hsl
      have HVZ := Lib.hid hvz
      have HR := Lib.hid hr
      have HN := Lib.hid hn
      have hn0' : decide ((0 : Int) < (n : Int)) = true := by rw [decide_eq_true_iff]; omega
      clear hoz hog hbel hv hlt hlast hsl hnz hvz hr hn
      go_wp2_with fail
      refine (divGroup g n cap1 zs w.heap.size _ HOZ.out HN.out hok (by omega)).mono ?_
      rintro e w2 ⟨ys, rfl, hoy, hyl, hoky, hvy, hk⟩
      rw [← HR.out]
      have HOY := Lib.hid hoy
      have HYL := Lib.hid hyl
      have HVY := Lib.hid hvy
      have HOG2 := Lib.hid (HOG.out.keep hk (fun b e => by omega))
      have HB2 := Lib.hid (HBE.out.trans (hk.below (B := w.heap.size) (HBE.out.size) (fun k e => by omega)))
      have hg2 : g < w2.heap.size := by have := hk.size; omega
      clear hoy hyl hvy hk
      go_wp2_with (at_builtin; go_must (refine wpList_append_one w2 rfl _ _ 25 rfl (g + 1) 146 i0 .u32 4 Tryz.underlying25 hi0 hz0 hz1 hz2 _ gs (by rfl) (by exact HOG2.out) r (by rfl) (by omega) (by omega) (by omega) ?_))
      intro gv' w3 h1 h2
      have hoy3 := HOY.out.below2 h2 (by omega)
      have HG3 := Lib.hid h1
      have HB3 := Lib.hid (HB2.out.trans (h2.mono (B' := w.heap.size) (by omega)))
      have hg3 : g < w3.heap.size := by have := h2.size; omega
      have HS3 := Lib.hid hoy3.sl
      have HO3 := Lib.hid hoy3
      have hncap : n ≤ cap1 := by
        rcases HOZ.out.shape with ⟨e, _⟩ | ⟨_, _, e, _, _, h⟩
        · cases e
        · cases e; have := HN.out; omega
      clear h1 h2 hoy3
      go_wp2_with fail
      refine (trim_at _ n cap1 ys _ HS3.out HYL.out.symm (by omega) hncap).mono ?_
      rintro e w4 ⟨rfl, rfl⟩
      go_wp2_with fail
      have hle := trimN_le ys n
      have hyn : n ≤ ys.length := by have := HYL.out; omega
      have hq : val (ys.take (trimN ys n)) = val zs / 1000000000 := by rw [trimN_val ys n hyn, List.take_of_length_le (by have := HYL.out; omega), HVY.out]
      have G := group_more HV.out HLT.out hq HR.out
      have hlen : (ys.take (trimN ys n)).length = trimN ys n := by rw [List.length_take]; omega
      have hgv : sliceLen gv' = (gs ++ [r]).length := by
        rcases HG3.out.shape with ⟨_, e⟩ | ⟨_, _, e, _⟩
        · simp at e
        · rw [e]; rfl
      have hgl' : (gs ++ [r]).length = gs.length + 1 := by simp
      refine ⟨⟨trimN ys n, ys.take (trimN ys n), gs ++ [r], _, rfl, rfl, hlen.symm, by omega, HO3.out.take hle, hoky.take _, trimN_norm ys n hyn, hgv, HG3.out, G.1, G.2, ?_, by omega, HB3.out, hg3⟩, ?_⟩
      · by_cases ht : trimN ys n = 0
        · right; right
          rw [hgl', Nat.add_sub_cancel, lim_append_right (Nat.le_refl _), Nat.sub_self]
          show r ≠ 0
          rw [ht, List.take_zero, val_nil] at hq
          have := HVZ.out
          have := HR.out
          omega
        · exact .inr (.inl ht)
      · rw [hgv, HSL.out, hgl']; omega
end Go.Proofs.YtfohgkabmdhhaaaGreatDoor

namespace Go.Proofs.YtfohgkabmdhhaaaGreatDoor
open Go.RowKit Cin
theorem hkX_lt {w : World} {b : Nat} {t : TypeId} {k : IntKind} {ys : List Nat} (h : Blk w b t k ys) : b < w.heap.size := h.lt
theorem run_make_words (i0 : TypeInfo) (hi0 : Tryz.prog.info? 146 = some i0) (hz0 : i0.zero = some (.int .u32 0)) (hz1 : i0.size = 1) (hz2 : i0.bytes = 4) (M : Nat) (hM : M ≤ 1000000000) (W : World) :
    Sem.run Tryz.prog (Instr.makeSlice 25 (.int .i64 M) (.int .i64 M)) W = .ok (.slice (some ⟨W.heap.size, 0, none⟩) M M) (W.alloc (.cells (ints .u32 (List.replicate M 0)) 146)) := by
  have h := run_make (P := Tryz.prog) W 25 146 i0 _ Tryz.underlying25 hi0 hz0 .i64 .i64 M M (by omega) (by omega) (by rw [hz2]; omega) (by omega)
  rw [hz1, Nat.mul_one, Int.toNat_natCast, madeCells_int] at h
  exact h
set_option maxRecDepth 100000 in
set_option maxHeartbeats 8000000 in
theorem divideLong_any (v u : Value) (xs ys : List Nat) (w : World) (h : Sl 146 .u32 w v xs) (h' : Sl 146 .u32 w u ys) (ox : Ok xs) (oy : Ok ys) (hn2 : 2 ≤ ys.length) (hla : ys.length ≤ xs.length) (hb : xs.length ≤ 10000000) (htop : lim ys (ys.length - 1) ≠ 0) :
    Calls Tryz.prog 164 #[v, u] w fun e w' => ∃ (v' u' : Value) (os rs : List Nat), e = .returned (.tuple #[v', u']) ∧ Sl 146 .u32 w' v' os ∧ Own 146 .u32 w' w.heap.size u' rs ∧ Ok os ∧ Ok rs ∧ val os = val xs / val ys ∧ val rs = val xs % val ys ∧ os.length = xs.length - ys.length + 1 ∧ rs.length = ys.length ∧ Below w.heap.size w w' := by
  obtain ⟨i0, hi0, hz0, hz1, hz2⟩ := info_parts info_u32
  obtain ⟨ad, cap, rfl, hc, _⟩ := h.shape
  obtain ⟨ad', cap', rfl, hc', _⟩ := h'.shape
  have hb31 := lim_lt oy (ys.length - 1)
  have hbl := isBl_len _ hb31
  obtain ⟨bY, oY, e1, hcy, _⟩ := h'.cell (i := ys.length - 1) (by omega)
  subst e1
  obtain ⟨bl, ebl⟩ : ∃ bl : Nat, Lib.bitLen (lim ys (ys.length - 1)) = bl := ⟨_, rfl⟩
  rw [ebl] at hbl
  have hbl1 : 1 ≤ bl := by
    rcases Nat.eq_zero_or_pos bl with e | e
    · subst e; have := hbl.1; simp at this; omega
    · exact e
  have hbl32 : bl ≤ 32 := by
    rcases hbl.2 with e | e
    · omega
    · rcases Nat.lt_or_ge 32 bl with h3 | h3
      · have := Nat.pow_le_pow_right (n := 2) (by decide) (show 32 ≤ bl - 1 by omega)
        omega
      · exact h3
  obtain ⟨s, es, es'⟩ : ∃ s : Nat, (32 : Int) - (bl : Int) = (s : Int) ∧ bl = 32 - s := ⟨32 - bl, by omega, by omega⟩
  have hs32 : s < 32 := by omega
  have hhi : 2 ^ 31 ≤ lim ys (ys.length - 1) * 2 ^ s ∧ lim ys (ys.length - 1) * 2 ^ s < 2 ^ 32 := by
    have hp : 0 < 2 ^ s := Nat.pow_pos (by decide)
    constructor
    · have h1 : 2 ^ (bl - 1) * 2 ^ s ≤ lim ys (ys.length - 1) * 2 ^ s := Nat.mul_le_mul_right _ (by rcases hbl.2 with e | e; omega; exact e)
      rwa [← Nat.pow_add, show bl - 1 + s = 31 by omega] at h1
    · have h1 : lim ys (ys.length - 1) * 2 ^ s < 2 ^ bl * 2 ^ s := Nat.mul_lt_mul_of_pos_right hbl.1 hp
      rwa [← Nat.pow_add, show bl + s = 32 by omega] at h1
  obtain ⟨n, hn⟩ : ∃ n : Nat, ys.length = n := ⟨_, rfl⟩
  obtain ⟨la, hlx⟩ : ∃ la : Nat, xs.length = la := ⟨_, rfl⟩
  rw [hn] at hn2 hla htop hcy hhi ebl hb31 h' hc' ⊢
  rw [hlx] at hla hb h hc ⊢
  obtain ⟨n1, hn1⟩ : ∃ n1 : Nat, n = n1 + 1 := ⟨n - 1, by omega⟩
  have i1 : (n : Int) - 1 = (n1 : Int) := by omega
  rw [show n - 1 = n1 by omega] at hcy hhi ebl htop hb31
  have hmk1 := run_make_words i0 hi0 hz0 hz1 hz2 (la + 1) (by omega)
  have hmk2 := run_make_words i0 hi0 hz0 hz1 hz2 (n + 1) (by omega)
  simp only [Int.natCast_add, Int.natCast_one] at hmk1 hmk2
  have H := Lib.hid h
  have H' := Lib.hid h'
  have HHI := Lib.hid hhi
  have HN := Lib.hid hn
  have HLX := Lib.hid hlx
  have HN1 := Lib.hid hn1
  clear h h' hhi hbl hn hlx hn1 es' hc hc'
  go_enter Tryz.func164, Tryz.ntmps164
  go_wp2_with (go_at_call 190; refine (Tryz.bits_LeadingZeros32 ((lim ys n1 : Nat) : Int) _ (by omega) (by omega)).mono ?_; rintro e w1 ⟨rfl, e0⟩; replace e0 := e0.symm; subst e0; rw [Int.toNat_natCast, ebl])
  go_region
  ·
    have hkL : Blk ((w.alloc (Obj.cells (ints IntKind.u32 (List.replicate (la + 1) 0)) 146)).alloc (Obj.cells (ints IntKind.u32 (List.replicate (n + 1) 0)) 146)).drew (w.heap.size) 146 .u32 (List.replicate (la + 1) 0) := (Blk.new w 146 .u32 (List.replicate (la + 1) 0)).alloc (Obj.cells (ints IntKind.u32 (List.replicate (n + 1) 0)) 146)
    have hkY : Blk ((w.alloc (Obj.cells (ints IntKind.u32 (List.replicate (la + 1) 0)) 146)).alloc (Obj.cells (ints IntKind.u32 (List.replicate (n + 1) 0)) 146)).drew (w.heap.size + 1) 146 .u32 (List.replicate (n + 1) 0) := by
      have h1 := Blk.new (w.alloc (Obj.cells (ints IntKind.u32 (List.replicate (la + 1) 0)) 146)) 146 .u32 (List.replicate (n + 1) 0)
      simp only [World.size_alloc] at h1
      exact h1
    have hbX : Below w.heap.size w ((w.alloc (Obj.cells (ints IntKind.u32 (List.replicate (la + 1) 0)) 146)).alloc (Obj.cells (ints IntKind.u32 (List.replicate (n + 1) 0)) 146)).drew := (bel_alloc2 w (Obj.cells (ints IntKind.u32 (List.replicate (la + 1) 0)) 146) (Obj.cells (ints IntKind.u32 (List.replicate (n + 1) 0)) 146)).drew
    have hsX : w.heap.size + 1 < ((w.alloc (Obj.cells (ints IntKind.u32 (List.replicate (la + 1) 0)) 146)).alloc (Obj.cells (ints IntKind.u32 (List.replicate (n + 1) 0)) 146)).drew.heap.size := hkX_lt hkY
    generalize ((w.alloc (Obj.cells (ints IntKind.u32 (List.replicate (la + 1) 0)) 146)).alloc (Obj.cells (ints IntKind.u32 (List.replicate (n + 1) 0)) 146)).drew = X at *
    have HX := Lib.hid (H.out.below hbX)
    have HY := Lib.hid (H'.out.below hbX)
    have hneX : ∀ b' o' n' c', Value.slice ad la cap = .slice (some ⟨b', o', none⟩) n' c' → b' < w.heap.size := fun b' o' n' c' e => H.out.lt e
    have hneY : bY < w.heap.size := H'.out.lt rfl
    have HNX := Lib.hid hneX
    clear hneX
    go_wp2_with fail
    refine (shiftUp_any (w.heap.size) 0 (la + 1) (la + 1) (List.replicate (la + 1) 0) _ xs s _ hs32 HX.out ox hkL (fun b' o' n' c' e => by have := HNX.out b' o' n' c' e; omega) (by have := HLX.out; omega) (Nat.le_refl _) (by simp) (by have := HLX.out; omega)).mono ?_
    rintro e w2 ⟨rfl, ls0, hl0, ok0, hv0, hblk0, hkp0⟩
    rw [splice_zeros_all (by rw [hl0, HLX.out])] at hblk0
    have hkY2 : Blk w2 (w.heap.size + 1) 146 .u32 (List.replicate (n + 1) 0) := hkY.of_block (hkp0.block (w.heap.size + 1) (hkY.lt) (by omega))
    have HY2 := Lib.hid (HY.out.keep hkp0 (fun b' o' n' c' e => by injection e with e1; injection e1 with e1; injection e1 with e1; omega))
    have hs2 := hkp0.size
    have HB2 := Lib.hid (hbX.trans (hkp0.below (B := w.heap.size) (by omega) (fun k e => by omega)))
    have HK0 := Lib.hid hblk0
    clear hblk0 hkp0 HY HX hkL hkY hbX
    go_wp2_with fail
    refine (shiftUp_any (w.heap.size + 1) 0 (n + 1) (n + 1) (List.replicate (n + 1) 0) _ ys s _ hs32 HY2.out oy hkY2 (fun b' o' n' c' e => by injection e with e1; injection e1 with e1; injection e1 with e1; omega) (by have := HN.out; omega) (Nat.le_refl _) (by simp) (by have := HN.out; omega)).mono ?_
    rintro e w3 ⟨rfl, ds0, hd0, okd0, hvd0, hblkd, hkpd⟩
    rw [splice_zeros_all (by rw [hd0, HN.out])] at hblkd
    have hblkL : Blk w3 (w.heap.size) 146 .u32 ls0 := HK0.out.of_block (hkpd.block (w.heap.size) HK0.out.lt (by omega))
    have hs3 := hkpd.size
    have HB3 := Lib.hid (HB2.out.trans (hkpd.below (B := w.heap.size) (by omega) (fun k e => by omega)))
    rw [HLX.out] at hl0
    rw [HN.out] at hd0
    have hfit := shift_fit (s := s) (by rw [HN.out]; exact HN1.out) oy HHI.out.2 (by omega)
    have hdl : (ds0.take n).length = n := by rw [List.length_take]; omega
    have hdv : val (ds0.take n) = val ys * 2 ^ s := by
      have h1 := val_take_succ (xs := ds0) (i := n) (by omega)
      rw [List.take_of_length_le (by omega), hvd0] at h1
      rw [← hvd0]
      have h2 : lim ds0 n = 0 := lim_top_zero hd0 okd0 (by rw [hvd0, HN1.out]; exact hfit)
      rw [hvd0, h1, h2, Nat.mul_zero, Nat.add_zero]
    have hhd : 2 ^ 31 ≤ lim (ds0.take n) n1 := lim_top_big (by rw [hdl]; exact HN1.out) (okd0.take n) (by rw [hdv]; exact shift_big (by rw [HN.out]; exact HN1.out) oy HHI.out.1)
    have HLS := Lib.hid (Sl.of_part hblkd (off := 0) (n := n) (cap := n + 1) (by omega) (by omega))
    rw [List.drop_zero] at HLS
    generalize hds : ds0.take n = ds at *
    have okd : Ok ds := by rw [← hds]; exact okd0.take n
    have hDn : val ds < pw n := by rw [← hdl]; exact val_lt okd
    have HKL := Lib.hid hblkL
    have HV0 := Lib.hid hv0
    have HDV := Lib.hid hdv
    obtain ⟨M, em, eM⟩ : ∃ M : Nat, (la : Int) - (n : Int) + 1 = (M : Int) ∧ M = la - n + 1 := ⟨_, by omega, rfl⟩
    have hm3 := run_make_words i0 hi0 hz0 hz1 hz2 M (by omega)
    have hbeg := long_begin (ls := ls0) (ds := ds) (x := val xs) hl0 hdl (by omega) hla ok0 HV0.out (by rw [← HLX.out]; exact val_lt ox) (by rw [show n - 1 = n1 by have := HN1.out; omega]; refine Nat.le_trans ?_ hhd; exact Nat.pow_le_pow_right (by decide) (by omega))
    rw [← eM] at hbeg
    have HBEG := Lib.hid hbeg
    have HM := Lib.hid eM
    have hMb : M ≤ 10000001 := by omega
    have hMla : M ≤ la := by omega
    have hhd1 : 1 ≤ lim ds n1 := Nat.le_trans (by decide) hhd
    clear hbeg eM
    clear hblkL hblkd hkpd HK0 HY2 hkY2 hds hv0 hvd0 hd0 okd0 hfit hdv HB2 hmk1 hmk2
    go_wp2_with fail
    have hkO : Blk (w3.alloc (Obj.cells (ints IntKind.u32 (List.replicate M 0)) 146)) w3.heap.size 146 .u32 (List.replicate M 0) := Blk.new _ _ _ _
    have hkL4 := HKL.out.alloc (Obj.cells (ints IntKind.u32 (List.replicate M 0)) 146)
    have hbW := bel_alloc w3 (Obj.cells (ints IntKind.u32 (List.replicate M 0)) 146)
    have HLS4 := Lib.hid (HLS.out.below hbW)
    have HB4 := Lib.hid (bel_on HB3.out hbW)
    generalize w3.alloc (Obj.cells (ints IntKind.u32 (List.replicate M 0)) 146) = W at *
    have hOs := hkO.lt
    have hLs := hkL4.lt
    have HKO := Lib.hid hkO
    have HKL4 := Lib.hid hkL4
    have hsz3 : w.heap.size + 1 < w3.heap.size := by omega
    clear hkO hkL4 hbW hm3
    go_loopw [11, 12, 13] (fun ix _ _ wr => ∃ (k : Nat) (ls os : List Nat), k ≤ M ∧ ix = .int .i64 ((k : Int) - 1) ∧ ls.length = la + 1 ∧ Ok ls ∧ os.length = M ∧ Ok os ∧ val ls + val ds * (pw k * val (os.drop k)) = val xs * 2 ^ s ∧ val (ls.drop k) < val ds ∧
        Blk wr (w.heap.size) 146 .u32 ls ∧ Blk wr w3.heap.size 146 .u32 os ∧ Keep (fun b => b = (w.heap.size) ∨ b = w3.heap.size) W wr) (fun ix _ _ _ => (intOf ix + 1).toNat)
    case atStart => exact ⟨M, ls0, List.replicate M 0, Nat.le_refl _, rfl, hl0, ok0, by simp, Ok.replicate _, by rw [List.drop_of_length_le (by simp), val_nil, Nat.mul_zero, Nat.mul_zero, Nat.add_zero]; exact HV0.out, HBEG.out, HKL4.out, HKO.out, Keep.refl _ _⟩
    case round =>
      obtain ⟨k, ls, os, hk, rfl, hll, okl, hol, oko, hv, hdlt, hbL, hbO, hkeep⟩ := hrel
      by_cases hk0 : k = 0
      · subst hk0
        have HSL := Lib.hid (Sl.of_part hbL (off := 0) (n := la + 1) (cap := la + 1) (by omega) (by omega))
        rw [List.drop_zero, List.take_of_length_le (by omega)] at HSL
        have HBL := Lib.hid hbL
        have HBO := Lib.hid hbO
        have HKP := Lib.hid hkeep
        have HV := Lib.hid hv
        have HDL := Lib.hid hdlt
        clear hbL hbO hkeep hv hdlt
        rw [show ((0 : Nat) : Int) - 1 = -1 from rfl]
        go_wp2_with fail
        refine (shiftDown_any (w.heap.size) 0 (la + 1) (la + 1) ls _ ls s wr hs32 HSL.out okl HBL.out (.inr ⟨_, _, rfl⟩) (by omega) (Nat.le_refl _) (by omega) (by omega)).mono ?_
        rintro e w5 ⟨rfl, rs, hrl, okr, hrv, hbL5, hk5⟩
        rw [splice_whole hrl] at hbL5
        have hO5 : Blk w5 w3.heap.size 146 .u32 os := HBO.out.of_block (hk5.block w3.heap.size HBO.out.lt (by omega))
        have hkp5 := HKP.out.trans (hk5.mono (S' := fun b => b = (w.heap.size) ∨ b = w3.heap.size) (fun k _ e => .inl e))
        have hWs : w3.heap.size < W.heap.size := hOs
        have HBW := Lib.hid (HB4.out.trans (hkp5.below (B := w.heap.size) (by omega) (fun k e => by omega)))
        have hV := HV.out
        have hDL := HDL.out
        rw [pw_zero, Nat.one_mul, List.drop_zero, HDV.out] at hV
        rw [List.drop_zero, HDV.out] at hDL
        have hy0 : 0 < val ys := by
          rcases Nat.eq_zero_or_pos (val ys) with e | e
          · rw [e, Nat.zero_mul] at hDL; omega
          · exact e
        have hend := long_end hy0 hV hDL
        rw [← hrv] at hend
        have hsm : val rs < pw n := by
          have h1 := Nat.mod_lt (val xs) hy0
          have h2 := val_lt oy
          rw [HN.out] at h2
          omega
        have hvt := val_take_small (rs := rs) (n := n) (by omega) hsm
        rw [hend.2] at hvt
        have HE1 := Lib.hid hend.1
        have HE2 := Lib.hid hvt
        have HS1 := Lib.hid (Sl.of_blk hO5)
        rw [hol] at HS1
        have hrl1 : rs.length = la + 1 := by omega
        have HS2 := Lib.hid ((Own.of_blk (base := w.heap.size) hbL5 (by omega) (by omega)).take (m := n) (by omega))
        rw [hrl1] at HS2
        clear hV hDL hend hsm hvt hrv hbL5 hO5 hk5 hkp5
        go_wp2_with fail
        go_big_region
        go_wp2_with fail
        go_ret2
        exact ⟨_, _, os, rs.take n, rfl, HS1.out.drew, HS2.out.below (Below.refl _ _).drew, oko, okr.take n, HE1.out, HE2.out, by have := HM.out; omega, by rw [List.length_take]; omega, HBW.out.drew⟩
      · obtain ⟨i, rfl⟩ : ∃ i, k = i + 1 := ⟨k - 1, by omega⟩
        obtain ⟨ps, hps⟩ : ∃ ps, (ls.drop i).take (n + 1) = ps := ⟨_, rfl⟩
        have hin : i + n + 1 ≤ la + 1 := by have := HM.out; omega
        have hpsl : ps.length = n + 1 := by rw [← hps, List.length_take, List.length_drop]; omega
        have okp : Ok ps := by rw [← hps]; exact (okl.drop i).take _
        have hplt := (long_step (ros := []) (Q := 0) hll hin hps okl hdlt hDn hv (by omega)).1
        have HSP := Lib.hid (Sl.of_part hbL (off := i) (n := n + 1) (cap := la + 1 - i) (by omega) (by omega))
        rw [hps] at HSP
        have HSD := Lib.hid (HLS4.out.keep hkeep (fun b' o' n' c' e => by injection e with e1; injection e1 with e1; injection e1 with e1; omega))
        have ei : ((i + 1 : Nat) : Int) - 1 = (i : Int) := by omega
        obtain ⟨j, ej, ej'⟩ : ∃ j : Nat, (i : Int) + (n : Int) = (j : Int) ∧ i + n = j := ⟨_, by omega, rfl⟩
        have hjb : j ≤ la := by omega
        have hij : i ≤ j := by omega
        have EJ := Lib.hid ej'
        have HBL := Lib.hid hbL
        have HBO := Lib.hid hbO
        have HKP := Lib.hid hkeep
        have HV := Lib.hid hv
        have HDL := Lib.hid hdlt
        have HPS := Lib.hid hps
        have HPL := Lib.hid hpsl
        have HPT := Lib.hid hplt
        clear hbL hbO hkeep hv hdlt hps hpsl hplt ej'
        go_wp2_with fail
        rw [show j + 1 - i = n + 1 by have := EJ.out; omega]
        refine (guessLimb_any _ _ ps ds (n1 - 1) _ HSP.out HSD.out okp okd (by have := HPL.out; have := HN1.out; omega) (by have := HN1.out; omega) (by omega) (by rw [show n1 - 1 + 1 = n1 by have := HN1.out; omega]; exact hhd1) HPT.out).mono ?_
        rintro e w5 ⟨q, nq, rfl, hq, hq1, hq2, rfl⟩
        have HSD2 := Lib.hid (HSD.out.drewN nq)
        have HBL2 := Lib.hid (show Blk (wr.drewN nq) (w.heap.size) 146 .u32 ls from HBL.out)
        have HBO2 := Lib.hid (show Blk (wr.drewN nq) w3.heap.size 146 .u32 os from HBO.out)
        have HKP2 := Lib.hid (show Keep (fun b => b = (w.heap.size) ∨ b = w3.heap.size) W (wr.drewN nq) from ⟨HKP.out.os, HKP.out.tape, HKP.out.output, HKP.out.size, HKP.out.block⟩)
        have HQ1 := Lib.hid hq1
        have HQ2 := Lib.hid hq2
        have HDL' := Lib.hid hdl
        clear hq1 hq2
        go_wp2_with fail
        generalize wr.drewN nq = w4 at *
        have ht := takeTimes_any (w.heap.size) i (la + 1 - i) ls ps _ ds q w4 HSD2.out okd HBL2.out (by rw [hdl]; exact HPS.out) okl (fun b' o' n' c' e => by injection e with e1; injection e1 with e1; injection e1 with e1; omega) (by omega) (by omega) hq (by omega)
        rw [hdl] at ht
        refine ht.mono ?_
        clear ht
        rintro e w5 ⟨over, rs, rfl, hrl, okr, hrv, hbL5, hk5⟩
        have hO5 : Blk w5 w3.heap.size 146 .u32 os := HBO2.out.of_block (hk5.block w3.heap.size HBO2.out.lt (by omega))
        have HSD5 := Lib.hid (HSD2.out.keep hk5 (fun b' o' n' c' e => by injection e with e1; injection e1 with e1; injection e1 with e1; omega))
        have hkp5 := HKP2.out.trans (hk5.mono (S' := fun b => b = (w.heap.size) ∨ b = w3.heap.size) (fun k _ e => .inl e))
        have hD0 : 0 < val ds := by have := HPT.out; omega
        have HD0 := Lib.hid hD0
        cases over
        · have hex := take_exact hD0 HQ1.out (by simpa using hrv)
          have hst := (long_step (ros := rs) (Q := q) hll hin HPS.out okl HDL.out hDn HV.out (by omega)).2 hrl hex.2 hex.1
          have HST := Lib.hid hst
          have HEX := Lib.hid hex
          have hcO := hO5.cell (i := i) (by omega)
          have hfO := hO5.free i
          have HO5 := Lib.hid hO5
          have HL5 := Lib.hid hbL5
          have HK5 := Lib.hid hkp5
          clear hst hex hO5 hbL5 hkp5 hk5 hrv hD0
          go_wp2_with fail
          obtain ⟨s1, s2, s3⟩ := HST.out
          exact ⟨⟨i, splice ls i rs, os.set i q, by omega, rfl, s1, splice_ok okl okr, by rw [List.length_set]; exact hol, oko.set i q hq, s2, s3, HL5.out.other (by show w3.heap.size ≠ _; omega) _, HO5.out.set i q, HK5.out.setCell (.inr rfl) _⟩, by simp [intOf] <;> omega⟩
        · have hq0 : 1 ≤ q := by
            rcases Nat.eq_zero_or_pos q with e | e
            · subst e
              have := val_lt okr
              rw [hrl] at this
              simp only [Nat.zero_mul, if_true] at hrv
              omega
            · exact e
          have HRV := Lib.hid hrv
          have HO5 := Lib.hid hO5
          have HL5 := Lib.hid hbL5
          have HK5 := Lib.hid hkp5
          obtain ⟨q1, eq1, eq1'⟩ : ∃ q1 : Nat, (q : Int) - 1 = (q1 : Int) ∧ q - 1 = q1 := ⟨_, by omega, rfl⟩
          have hq1b : q1 < 4294967296 := by omega
          have HEQ := Lib.hid eq1'
          clear hO5 hbL5 hkp5 hk5 hrv hD0 eq1'
          go_wp2_with fail
          have ht := giveBack_any (w.heap.size) i (la + 1 - i) (splice ls i rs) rs _ ds w5 HSD5.out okd HL5.out (by rw [hdl, ← hrl]; exact splice_part (by omega)) (splice_ok okl okr) (fun b' o' n' c' e => by injection e with e1; injection e1 with e1; injection e1 with e1; omega) (by omega) (by rw [splice_length (by omega)]; omega) (by omega)
          rw [hdl] at ht
          refine ht.mono ?_
          clear ht
          rintro e w6 ⟨rfl, rs2, c, hrl2, okr2, hrv2, hbL6, hk6⟩
          rw [splice_again (by omega) (by omega)] at hbL6
          have hO6 : Blk w6 w3.heap.size 146 .u32 os := HO5.out.of_block (hk6.block w3.heap.size HO5.out.lt (by omega))
          have hkp6 := HK5.out.trans (hk6.mono (S' := fun b => b = (w.heap.size) ∨ b = w3.heap.size) (fun k _ e => .inl e))
          have hex := take_back HD0.out (show val ds ≤ pw (n + 1) by rw [pw_succ]; omega) HQ2.out (by have := HRV.out; simpa using this) (by rw [← hrl]; exact val_lt okr) hrv2 (by rw [← hrl2]; exact val_lt okr2)
          rw [HEQ.out] at hex
          have hst := (long_step (ros := rs2) (Q := q1) hll hin HPS.out okl HDL.out hDn HV.out (by omega)).2 hrl2 hex.2.2 hex.2.1
          have HST := Lib.hid hst
          have hcO := hO6.cell (i := i) (by omega)
          have hfO := hO6.free i
          have HO6 := Lib.hid hO6
          have HL6 := Lib.hid hbL6
          have HK6 := Lib.hid hkp6
          clear hst hex hO6 hbL6 hkp6 hk6 hrv2
          go_wp2_with fail
          obtain ⟨s1, s2, s3⟩ := HST.out
          exact ⟨⟨i, splice ls i rs2, os.set i q1, by omega, rfl, s1, splice_ok okl okr2, by rw [List.length_set]; exact hol, oko.set i q1 hq1b, s2, s3, HL6.out.other (by show w3.heap.size ≠ _; omega) _, HO6.out.set i q1, HK6.out.setCell (.inr rfl) _⟩, by simp [intOf] <;> omega⟩
  ·
    have hkY : Blk ((w.alloc (Obj.cells (ints IntKind.u32 (List.replicate (n + 1) 0)) 146)).alloc (Obj.cells (ints IntKind.u32 (List.replicate (la + 1) 0)) 146)).drew (w.heap.size) 146 .u32 (List.replicate (n + 1) 0) := (Blk.new w 146 .u32 (List.replicate (n + 1) 0)).alloc (Obj.cells (ints IntKind.u32 (List.replicate (la + 1) 0)) 146)
    have hkL : Blk ((w.alloc (Obj.cells (ints IntKind.u32 (List.replicate (n + 1) 0)) 146)).alloc (Obj.cells (ints IntKind.u32 (List.replicate (la + 1) 0)) 146)).drew (w.heap.size + 1) 146 .u32 (List.replicate (la + 1) 0) := by
      have h1 := Blk.new (w.alloc (Obj.cells (ints IntKind.u32 (List.replicate (n + 1) 0)) 146)) 146 .u32 (List.replicate (la + 1) 0)
      simp only [World.size_alloc] at h1
      exact h1
    have hbX : Below w.heap.size w ((w.alloc (Obj.cells (ints IntKind.u32 (List.replicate (n + 1) 0)) 146)).alloc (Obj.cells (ints IntKind.u32 (List.replicate (la + 1) 0)) 146)).drew := (bel_alloc2 w (Obj.cells (ints IntKind.u32 (List.replicate (n + 1) 0)) 146) (Obj.cells (ints IntKind.u32 (List.replicate (la + 1) 0)) 146)).drew
    have hsX : w.heap.size + 1 < ((w.alloc (Obj.cells (ints IntKind.u32 (List.replicate (n + 1) 0)) 146)).alloc (Obj.cells (ints IntKind.u32 (List.replicate (la + 1) 0)) 146)).drew.heap.size := hkX_lt hkL
    generalize ((w.alloc (Obj.cells (ints IntKind.u32 (List.replicate (n + 1) 0)) 146)).alloc (Obj.cells (ints IntKind.u32 (List.replicate (la + 1) 0)) 146)).drew = X at *
    have HX := Lib.hid (H.out.below hbX)
    have HY := Lib.hid (H'.out.below hbX)
    have hneX : ∀ b' o' n' c', Value.slice ad la cap = .slice (some ⟨b', o', none⟩) n' c' → b' < w.heap.size := fun b' o' n' c' e => H.out.lt e
    have hneY : bY < w.heap.size := H'.out.lt rfl
    have HNX := Lib.hid hneX
    clear hneX
    go_wp2_with fail
    refine (shiftUp_any (w.heap.size + 1) 0 (la + 1) (la + 1) (List.replicate (la + 1) 0) _ xs s _ hs32 HX.out ox hkL (fun b' o' n' c' e => by have := HNX.out b' o' n' c' e; omega) (by have := HLX.out; omega) (Nat.le_refl _) (by simp) (by have := HLX.out; omega)).mono ?_
    rintro e w2 ⟨rfl, ls0, hl0, ok0, hv0, hblk0, hkp0⟩
    rw [splice_zeros_all (by rw [hl0, HLX.out])] at hblk0
    have hkY2 : Blk w2 (w.heap.size) 146 .u32 (List.replicate (n + 1) 0) := hkY.of_block (hkp0.block (w.heap.size) (hkY.lt) (by omega))
    have HY2 := Lib.hid (HY.out.keep hkp0 (fun b' o' n' c' e => by injection e with e1; injection e1 with e1; injection e1 with e1; omega))
    have hs2 := hkp0.size
    have HB2 := Lib.hid (hbX.trans (hkp0.below (B := w.heap.size) (by omega) (fun k e => by omega)))
    have HK0 := Lib.hid hblk0
    clear hblk0 hkp0 HY HX hkL hkY hbX
    go_wp2_with fail
    refine (shiftUp_any (w.heap.size) 0 (n + 1) (n + 1) (List.replicate (n + 1) 0) _ ys s _ hs32 HY2.out oy hkY2 (fun b' o' n' c' e => by injection e with e1; injection e1 with e1; injection e1 with e1; omega) (by have := HN.out; omega) (Nat.le_refl _) (by simp) (by have := HN.out; omega)).mono ?_
    rintro e w3 ⟨rfl, ds0, hd0, okd0, hvd0, hblkd, hkpd⟩
    rw [splice_zeros_all (by rw [hd0, HN.out])] at hblkd
    have hblkL : Blk w3 (w.heap.size + 1) 146 .u32 ls0 := HK0.out.of_block (hkpd.block (w.heap.size + 1) HK0.out.lt (by omega))
    have hs3 := hkpd.size
    have HB3 := Lib.hid (HB2.out.trans (hkpd.below (B := w.heap.size) (by omega) (fun k e => by omega)))
    rw [HLX.out] at hl0
    rw [HN.out] at hd0
    have hfit := shift_fit (s := s) (by rw [HN.out]; exact HN1.out) oy HHI.out.2 (by omega)
    have hdl : (ds0.take n).length = n := by rw [List.length_take]; omega
    have hdv : val (ds0.take n) = val ys * 2 ^ s := by
      have h1 := val_take_succ (xs := ds0) (i := n) (by omega)
      rw [List.take_of_length_le (by omega), hvd0] at h1
      rw [← hvd0]
      have h2 : lim ds0 n = 0 := lim_top_zero hd0 okd0 (by rw [hvd0, HN1.out]; exact hfit)
      rw [hvd0, h1, h2, Nat.mul_zero, Nat.add_zero]
    have hhd : 2 ^ 31 ≤ lim (ds0.take n) n1 := lim_top_big (by rw [hdl]; exact HN1.out) (okd0.take n) (by rw [hdv]; exact shift_big (by rw [HN.out]; exact HN1.out) oy HHI.out.1)
    have HLS := Lib.hid (Sl.of_part hblkd (off := 0) (n := n) (cap := n + 1) (by omega) (by omega))
    rw [List.drop_zero] at HLS
    generalize hds : ds0.take n = ds at *
    have okd : Ok ds := by rw [← hds]; exact okd0.take n
    have hDn : val ds < pw n := by rw [← hdl]; exact val_lt okd
    have HKL := Lib.hid hblkL
    have HV0 := Lib.hid hv0
    have HDV := Lib.hid hdv
    obtain ⟨M, em, eM⟩ : ∃ M : Nat, (la : Int) - (n : Int) + 1 = (M : Int) ∧ M = la - n + 1 := ⟨_, by omega, rfl⟩
    have hm3 := run_make_words i0 hi0 hz0 hz1 hz2 M (by omega)
    have hbeg := long_begin (ls := ls0) (ds := ds) (x := val xs) hl0 hdl (by omega) hla ok0 HV0.out (by rw [← HLX.out]; exact val_lt ox) (by rw [show n - 1 = n1 by have := HN1.out; omega]; refine Nat.le_trans ?_ hhd; exact Nat.pow_le_pow_right (by decide) (by omega))
    rw [← eM] at hbeg
    have HBEG := Lib.hid hbeg
    have HM := Lib.hid eM
    have hMb : M ≤ 10000001 := by omega
    have hMla : M ≤ la := by omega
    have hhd1 : 1 ≤ lim ds n1 := Nat.le_trans (by decide) hhd
    clear hbeg eM
    clear hblkL hblkd hkpd HK0 HY2 hkY2 hds hv0 hvd0 hd0 okd0 hfit hdv HB2 hmk1 hmk2
    go_wp2_with fail
    have hkO : Blk (w3.alloc (Obj.cells (ints IntKind.u32 (List.replicate M 0)) 146)) w3.heap.size 146 .u32 (List.replicate M 0) := Blk.new _ _ _ _
    have hkL4 := HKL.out.alloc (Obj.cells (ints IntKind.u32 (List.replicate M 0)) 146)
    have hbW := bel_alloc w3 (Obj.cells (ints IntKind.u32 (List.replicate M 0)) 146)
    have HLS4 := Lib.hid (HLS.out.below hbW)
    have HB4 := Lib.hid (bel_on HB3.out hbW)
    generalize w3.alloc (Obj.cells (ints IntKind.u32 (List.replicate M 0)) 146) = W at *
    have hOs := hkO.lt
    have hLs := hkL4.lt
    have HKO := Lib.hid hkO
    have HKL4 := Lib.hid hkL4
    have hsz3 : w.heap.size + 1 < w3.heap.size := by omega
    clear hkO hkL4 hbW hm3
    go_loopw [11, 12, 13] (fun ix _ _ wr => ∃ (k : Nat) (ls os : List Nat), k ≤ M ∧ ix = .int .i64 ((k : Int) - 1) ∧ ls.length = la + 1 ∧ Ok ls ∧ os.length = M ∧ Ok os ∧ val ls + val ds * (pw k * val (os.drop k)) = val xs * 2 ^ s ∧ val (ls.drop k) < val ds ∧
        Blk wr (w.heap.size + 1) 146 .u32 ls ∧ Blk wr w3.heap.size 146 .u32 os ∧ Keep (fun b => b = (w.heap.size + 1) ∨ b = w3.heap.size) W wr) (fun ix _ _ _ => (intOf ix + 1).toNat)
    case atStart => exact ⟨M, ls0, List.replicate M 0, Nat.le_refl _, rfl, hl0, ok0, by simp, Ok.replicate _, by rw [List.drop_of_length_le (by simp), val_nil, Nat.mul_zero, Nat.mul_zero, Nat.add_zero]; exact HV0.out, HBEG.out, HKL4.out, HKO.out, Keep.refl _ _⟩
    case round =>
      obtain ⟨k, ls, os, hk, rfl, hll, okl, hol, oko, hv, hdlt, hbL, hbO, hkeep⟩ := hrel
      by_cases hk0 : k = 0
      · subst hk0
        have HSL := Lib.hid (Sl.of_part hbL (off := 0) (n := la + 1) (cap := la + 1) (by omega) (by omega))
        rw [List.drop_zero, List.take_of_length_le (by omega)] at HSL
        have HBL := Lib.hid hbL
        have HBO := Lib.hid hbO
        have HKP := Lib.hid hkeep
        have HV := Lib.hid hv
        have HDL := Lib.hid hdlt
        clear hbL hbO hkeep hv hdlt
        rw [show ((0 : Nat) : Int) - 1 = -1 from rfl]
        go_wp2_with fail
        refine (shiftDown_any (w.heap.size + 1) 0 (la + 1) (la + 1) ls _ ls s wr hs32 HSL.out okl HBL.out (.inr ⟨_, _, rfl⟩) (by omega) (Nat.le_refl _) (by omega) (by omega)).mono ?_
        rintro e w5 ⟨rfl, rs, hrl, okr, hrv, hbL5, hk5⟩
        rw [splice_whole hrl] at hbL5
        have hO5 : Blk w5 w3.heap.size 146 .u32 os := HBO.out.of_block (hk5.block w3.heap.size HBO.out.lt (by omega))
        have hkp5 := HKP.out.trans (hk5.mono (S' := fun b => b = (w.heap.size + 1) ∨ b = w3.heap.size) (fun k _ e => .inl e))
        have hWs : w3.heap.size < W.heap.size := hOs
        have HBW := Lib.hid (HB4.out.trans (hkp5.below (B := w.heap.size) (by omega) (fun k e => by omega)))
        have hV := HV.out
        have hDL := HDL.out
        rw [pw_zero, Nat.one_mul, List.drop_zero, HDV.out] at hV
        rw [List.drop_zero, HDV.out] at hDL
        have hy0 : 0 < val ys := by
          rcases Nat.eq_zero_or_pos (val ys) with e | e
          · rw [e, Nat.zero_mul] at hDL; omega
          · exact e
        have hend := long_end hy0 hV hDL
        rw [← hrv] at hend
        have hsm : val rs < pw n := by
          have h1 := Nat.mod_lt (val xs) hy0
          have h2 := val_lt oy
          rw [HN.out] at h2
          omega
        have hvt := val_take_small (rs := rs) (n := n) (by omega) hsm
        rw [hend.2] at hvt
        have HE1 := Lib.hid hend.1
        have HE2 := Lib.hid hvt
        have HS1 := Lib.hid (Sl.of_blk hO5)
        rw [hol] at HS1
        have hrl1 : rs.length = la + 1 := by omega
        have HS2 := Lib.hid ((Own.of_blk (base := w.heap.size) hbL5 (by omega) (by omega)).take (m := n) (by omega))
        rw [hrl1] at HS2
        clear hV hDL hend hsm hvt hrv hbL5 hO5 hk5 hkp5
        go_wp2_with fail
        go_big_region
        go_wp2_with fail
        go_ret2
        exact ⟨_, _, os, rs.take n, rfl, HS1.out.drew, HS2.out.below (Below.refl _ _).drew, oko, okr.take n, HE1.out, HE2.out, by have := HM.out; omega, by rw [List.length_take]; omega, HBW.out.drew⟩
      · obtain ⟨i, rfl⟩ : ∃ i, k = i + 1 := ⟨k - 1, by omega⟩
        obtain ⟨ps, hps⟩ : ∃ ps, (ls.drop i).take (n + 1) = ps := ⟨_, rfl⟩
        have hin : i + n + 1 ≤ la + 1 := by have := HM.out; omega
        have hpsl : ps.length = n + 1 := by rw [← hps, List.length_take, List.length_drop]; omega
        have okp : Ok ps := by rw [← hps]; exact (okl.drop i).take _
        have hplt := (long_step (ros := []) (Q := 0) hll hin hps okl hdlt hDn hv (by omega)).1
        have HSP := Lib.hid (Sl.of_part hbL (off := i) (n := n + 1) (cap := la + 1 - i) (by omega) (by omega))
        rw [hps] at HSP
        have HSD := Lib.hid (HLS4.out.keep hkeep (fun b' o' n' c' e => by injection e with e1; injection e1 with e1; injection e1 with e1; omega))
        have ei : ((i + 1 : Nat) : Int) - 1 = (i : Int) := by omega
        obtain ⟨j, ej, ej'⟩ : ∃ j : Nat, (i : Int) + (n : Int) = (j : Int) ∧ i + n = j := ⟨_, by omega, rfl⟩
        have hjb : j ≤ la := by omega
        have hij : i ≤ j := by omega
        have EJ := Lib.hid ej'
        have HBL := Lib.hid hbL
        have HBO := Lib.hid hbO
        have HKP := Lib.hid hkeep
        have HV := Lib.hid hv
        have HDL := Lib.hid hdlt
        have HPS := Lib.hid hps
        have HPL := Lib.hid hpsl
        have HPT := Lib.hid hplt
        clear hbL hbO hkeep hv hdlt hps hpsl hplt ej'
        go_wp2_with fail
        rw [show j + 1 - i = n + 1 by have := EJ.out; omega]
        refine (guessLimb_any _ _ ps ds (n1 - 1) _ HSP.out HSD.out okp okd (by have := HPL.out; have := HN1.out; omega) (by have := HN1.out; omega) (by omega) (by rw [show n1 - 1 + 1 = n1 by have := HN1.out; omega]; exact hhd1) HPT.out).mono ?_
        rintro e w5 ⟨q, nq, rfl, hq, hq1, hq2, rfl⟩
        have HSD2 := Lib.hid (HSD.out.drewN nq)
        have HBL2 := Lib.hid (show Blk (wr.drewN nq) (w.heap.size + 1) 146 .u32 ls from HBL.out)
        have HBO2 := Lib.hid (show Blk (wr.drewN nq) w3.heap.size 146 .u32 os from HBO.out)
        have HKP2 := Lib.hid (show Keep (fun b => b = (w.heap.size + 1) ∨ b = w3.heap.size) W (wr.drewN nq) from ⟨HKP.out.os, HKP.out.tape, HKP.out.output, HKP.out.size, HKP.out.block⟩)
        have HQ1 := Lib.hid hq1
        have HQ2 := Lib.hid hq2
        have HDL' := Lib.hid hdl
        clear hq1 hq2
        go_wp2_with fail
        generalize wr.drewN nq = w4 at *
        have ht := takeTimes_any (w.heap.size + 1) i (la + 1 - i) ls ps _ ds q w4 HSD2.out okd HBL2.out (by rw [hdl]; exact HPS.out) okl (fun b' o' n' c' e => by injection e with e1; injection e1 with e1; injection e1 with e1; omega) (by omega) (by omega) hq (by omega)
        rw [hdl] at ht
        refine ht.mono ?_
        clear ht
        rintro e w5 ⟨over, rs, rfl, hrl, okr, hrv, hbL5, hk5⟩
        have hO5 : Blk w5 w3.heap.size 146 .u32 os := HBO2.out.of_block (hk5.block w3.heap.size HBO2.out.lt (by omega))
        have HSD5 := Lib.hid (HSD2.out.keep hk5 (fun b' o' n' c' e => by injection e with e1; injection e1 with e1; injection e1 with e1; omega))
        have hkp5 := HKP2.out.trans (hk5.mono (S' := fun b => b = (w.heap.size + 1) ∨ b = w3.heap.size) (fun k _ e => .inl e))
        have hD0 : 0 < val ds := by have := HPT.out; omega
        have HD0 := Lib.hid hD0
        cases over
        · have hex := take_exact hD0 HQ1.out (by simpa using hrv)
          have hst := (long_step (ros := rs) (Q := q) hll hin HPS.out okl HDL.out hDn HV.out (by omega)).2 hrl hex.2 hex.1
          have HST := Lib.hid hst
          have HEX := Lib.hid hex
          have hcO := hO5.cell (i := i) (by omega)
          have hfO := hO5.free i
          have HO5 := Lib.hid hO5
          have HL5 := Lib.hid hbL5
          have HK5 := Lib.hid hkp5
          clear hst hex hO5 hbL5 hkp5 hk5 hrv hD0
          go_wp2_with fail
          obtain ⟨s1, s2, s3⟩ := HST.out
          exact ⟨⟨i, splice ls i rs, os.set i q, by omega, rfl, s1, splice_ok okl okr, by rw [List.length_set]; exact hol, oko.set i q hq, s2, s3, HL5.out.other (by show w3.heap.size ≠ _; omega) _, HO5.out.set i q, HK5.out.setCell (.inr rfl) _⟩, by simp [intOf] <;> omega⟩
        · have hq0 : 1 ≤ q := by
            rcases Nat.eq_zero_or_pos q with e | e
            · subst e
              have := val_lt okr
              rw [hrl] at this
              simp only [Nat.zero_mul, if_true] at hrv
              omega
            · exact e
          have HRV := Lib.hid hrv
          have HO5 := Lib.hid hO5
          have HL5 := Lib.hid hbL5
          have HK5 := Lib.hid hkp5
          obtain ⟨q1, eq1, eq1'⟩ : ∃ q1 : Nat, (q : Int) - 1 = (q1 : Int) ∧ q - 1 = q1 := ⟨_, by omega, rfl⟩
          have hq1b : q1 < 4294967296 := by omega
          have HEQ := Lib.hid eq1'
          clear hO5 hbL5 hkp5 hk5 hrv hD0 eq1'
          go_wp2_with fail
          have ht := giveBack_any (w.heap.size + 1) i (la + 1 - i) (splice ls i rs) rs _ ds w5 HSD5.out okd HL5.out (by rw [hdl, ← hrl]; exact splice_part (by omega)) (splice_ok okl okr) (fun b' o' n' c' e => by injection e with e1; injection e1 with e1; injection e1 with e1; omega) (by omega) (by rw [splice_length (by omega)]; omega) (by omega)
          rw [hdl] at ht
          refine ht.mono ?_
          clear ht
          rintro e w6 ⟨rfl, rs2, c, hrl2, okr2, hrv2, hbL6, hk6⟩
          rw [splice_again (by omega) (by omega)] at hbL6
          have hO6 : Blk w6 w3.heap.size 146 .u32 os := HO5.out.of_block (hk6.block w3.heap.size HO5.out.lt (by omega))
          have hkp6 := HK5.out.trans (hk6.mono (S' := fun b => b = (w.heap.size + 1) ∨ b = w3.heap.size) (fun k _ e => .inl e))
          have hex := take_back HD0.out (show val ds ≤ pw (n + 1) by rw [pw_succ]; omega) HQ2.out (by have := HRV.out; simpa using this) (by rw [← hrl]; exact val_lt okr) hrv2 (by rw [← hrl2]; exact val_lt okr2)
          rw [HEQ.out] at hex
          have hst := (long_step (ros := rs2) (Q := q1) hll hin HPS.out okl HDL.out hDn HV.out (by omega)).2 hrl2 hex.2.2 hex.2.1
          have HST := Lib.hid hst
          have hcO := hO6.cell (i := i) (by omega)
          have hfO := hO6.free i
          have HO6 := Lib.hid hO6
          have HL6 := Lib.hid hbL6
          have HK6 := Lib.hid hkp6
          clear hst hex hO6 hbL6 hkp6 hk6 hrv2
          go_wp2_with fail
          obtain ⟨s1, s2, s3⟩ := HST.out
          exact ⟨⟨i, splice ls i rs2, os.set i q1, by omega, rfl, s1, splice_ok okl okr2, by rw [List.length_set]; exact hol, oko.set i q1 hq1b, s2, s3, HL6.out.other (by show w3.heap.size ≠ _; omega) _, HO6.out.set i q1, HK6.out.setCell (.inr rfl) _⟩, by simp [intOf] <;> omega⟩
end Go.Proofs.YtfohgkabmdhhaaaGreatDoor
