/- Contracts of the document's dyadic numbers. -/
import Derived.Test.YtfohgkabmdhhaaaGreatDoorYw
import Derived.Test.YtfohgkabmdhhaaaGreatDoorYv
import Derived.Test.YtfohgkabmdhhaaaGreatDoorYr
import Derived.Test.YtfohgkabmdhhaaaGreatDoorYl
namespace Go.Proofs.YtfohgkabmdhhaaaGreatDoor
open Go.RowKit Cin

set_option maxHeartbeats 800000 in
theorem rnatOf_two (w : World) : Calls Tryz.prog 92 #[.int .u64 2] w fun e w' => ∃ v', e = .returned v' ∧ RefB w' v' 2 1 ∧ Below w.heap.size w w' := by
  have hand : bits BinOp.and IntKind.u64 2 4294967295 = 2 := and_mask32 (t := 2) (by decide)
  go_enter Tryz.func92, Tryz.ntmps92
  go_wp2_with fail
  have hblk := Blk.new w 146 .u32 [2, 0]
  refine (rtrim_any _ [2, 0] _ (Sl.of_blk hblk) (Ok.cons (by decide) (Ok.cons (by decide) Ok.nil)) (by decide)).mono ?_
  rintro e w1 ⟨v1, rfl, hr, rfl⟩
  have HR := Lib.hid hr
  clear hr hblk hand
  go_wp2
  go_ret
  exact ⟨_, rfl, ⟨HR.out, by decide⟩, bel_alloc _ _⟩

set_option maxHeartbeats 800000 in
theorem rnatOf_zero (w : World) : Calls Tryz.prog 92 #[.int .u64 0] w fun e w' => ∃ v', e = .returned v' ∧ RefB w' v' 0 1 ∧ Below w.heap.size w w' := by
  have hand : bits BinOp.and IntKind.u64 0 4294967295 = 0 := and_mask32 (t := 0) (by decide)
  go_enter Tryz.func92, Tryz.ntmps92
  go_wp2_with fail
  have hblk := Blk.new w 146 .u32 [0, 0]
  refine (rtrim_any _ [0, 0] _ (Sl.of_blk hblk) (Ok.cons (by decide) (Ok.cons (by decide) Ok.nil)) (by decide)).mono ?_
  rintro e w1 ⟨v1, rfl, hr, rfl⟩
  have HR := Lib.hid hr
  clear hr hblk hand
  go_wp2
  go_ret
  exact ⟨_, rfl, ⟨HR.out, by decide⟩, bel_alloc _ _⟩

set_option maxHeartbeats 800000 in
theorem rintOf_zero (w : World) : Calls Tryz.prog 105 #[.int .i64 0] w fun e w' => ∃ v', e = .returned v' ∧ IntB 146 w' v' 0 1 ∧ Below w.heap.size w w' := by
  go_enter Tryz.func105, Tryz.ntmps105
  go_wp2_with fail
  refine (rnatOf_zero _).mono ?_
  rintro e w1 ⟨v1, rfl, hn1, hb1⟩
  obtain ⟨ad1, l1, c1, xs1, rfl, _⟩ := hn1.1.shape
  have hI : IntB 146 w1 (.agg #[.bool false, .slice ad1 l1 c1]) 0 1 := intB_of (b := false) (n := 0) hn1.1 hn1.2 rfl
  have HSL := Lib.hid (Slot.of (n := 2) ((heldN1 (w := w)).below hb1).1 rfl)
  have HRR := Lib.hid (fin_int hI HSL.out (by decide) (bel_on (bel_alloc _ _) hb1) (Nat.le_refl _))
  obtain ⟨xR, yR, hxR, hyR, hfxR, hfyR⟩ := HSL.out.two
  clear hn1 hb1 hI
  go_wp2
  refine bodyPost_ret (v := .agg #[.bool false, .slice ad1 l1 c1]) (by simp [results, Tryz.results105, go_sem, HRR.out.2.2.1, HRR.out.2.2.2]) rfl ⟨_, rfl, HRR.out.1, HRR.out.2.1⟩

theorem rbitsI (v : Value) (x k : Nat) (w : World) (h : RefB w v x k) (hk : k ≤ 1000000) :
    Calls Tryz.prog 88 #[v] w fun e w' => e = .returned (.int .i64 (blOf x : Nat)) ∧ Below w.heap.size w w' :=
  (rbits_any v x k w h hk).mono fun _ _ ⟨j, e, hn, _, hw⟩ => ⟨by rw [e, hn.unique (blOf_ok x)], by rw [hw]; exact Below.refl _ _⟩
theorem rzerosI (v : Value) (x k : Nat) (w : World) (h : RefB w v x k) (hk : k ≤ 1000000) :
    Calls Tryz.prog 91 #[v] w fun e w' => e = .returned (.int .i64 (tzOf x : Nat)) ∧ Below w.heap.size w w' :=
  (rzeros_any v x k w h hk).mono fun _ _ ⟨j, e, hn, hb⟩ => ⟨by rw [e, hn.unique (tzOf_ok x)], hb⟩

instance (q : Rat) : Decidable (DyOk q) := inferInstanceAs (Decidable (_ = _))

theorem two_neg_parts (n : Nat) : (tp (-(n : Int))).num = 1 ∧ (tp (-(n : Int))).den = 2 ^ n := by
  refine rat_of (Nat.pos_iff_ne_zero.1 (Nat.two_pow_pos n)) (Nat.coprime_one_left _) ?_
  have h := two_neg n
  rw [two_nat] at h
  rw [Rat.mkRat_eq_div, Rat.div_def, Rat.inv_eq_of_mul_eq_one (a := ((2 ^ n : Nat) : Rat)) h]
  exact Rat.one_mul _
theorem two_pos_parts (n : Nat) : (tp (n : Int)).num = ((2 ^ n : Nat) : Int) ∧ (tp (n : Int)).den = 1 := by rw [two_nat]; exact ⟨rfl, rfl⟩
theorem two_pw {n K : Nat} (h : n < 32 * K) : 2 ^ n < pw K := by rw [pw_two]; exact Nat.pow_lt_pow_right (by decide) h

/-- two: 2 to the e. -/
theorem dtwo_any (e : Int) (K : Nat) (w : World) (h0 : -(32 * K : Int) < e) (h1 : e < 32 * K) (hK : K ≤ 1000) :
    Calls Tryz.prog 89 #[.int .i64 e] w fun r w' => ∃ v', r = .returned v' ∧ DRatB w' v' (tp e) K ∧ Below w.heap.size w w' := by
  refine go (fun _ => True) [[.int .i64 e]] [none] (tr := (.em (.pr (.binOp .lss 3 (.tmp 0) (.const (.int .i64 0)) 3) 4 [.s (.c 0 0), .s (.k (.int .i64 0))]) (.cond (.c 1 0) (.em (.call 105 [.s (.k (.int .i64 1))] [some 2]) (.em (.call 92 [.s (.k (.int .u64 1))] [none]) (.em (.pr (.unOp .neg 3 (.tmp 0)) 3 [.s (.c 0 0)]) (.em (.call 126 [.s (.c 3 0), .s (.c 4 0)] [none]) (.ret (.v (.g [.c 2 0, .c 2 1, .c 5 0]))))))) (.em (.call 92 [.s (.k (.int .u64 1))] [none]) (.em (.call 126 [.s (.c 2 0), .s (.c 0 0)] [none]) (.em (.call 69 [.s (.c 3 0)] [some 2]) (.em (.call 92 [.s (.k (.int .u64 1))] [none]) (.ret (.v (.g [.c 4 0, .c 4 1, .c 5 0])))))))))) (by kernel_rfl) (by kernel_rfl) (by kernel_rfl) Mono.true trivial ⟨rfl, trivial⟩ ?_
  refine wPr (prLt rfl rfl) rfl ?_
  have hone : 1 < pw K := one_lt K (by omega)
  refine wIf _ rfl (fun e1 => ?_) (fun e1 => ?_)
  · have e2 : e < 0 := by simpa using e1
    obtain ⟨n, hn⟩ := Int.eq_ofNat_of_zero_le (show 0 ≤ -e by omega)
    obtain ⟨p1, p2⟩ := two_neg_parts n
    rw [show -(n : Int) = e by omega] at p1 p2
    refine wInt hU (fun w b _ => rintOf_one w) (fun x1 y1 => ?_)
    refine wRef hU (fun w b _ => rnatOf_one w) (fun x2 => ?_)
    refine wPr (prNegE (z := (n : Int)) rfl hn (by omega) (by omega)) rfl ?_
    refine wRef hU (fun w b ⟨h2, _⟩ => refShl_any _ 1 n 1 w h2 (by omega) (by omega)) (fun x3 => ?_)
    refine wRet fun w b ⟨h3, _, h1', _⟩ => ⟨_, rfl, ⟨_, _, _, rfl, ?_, ⟨_, h3.1, .inl ?_⟩, ?_⟩, b⟩
    · rw [p1]; exact ⟨h1'.1, hone⟩
    · rw [p2, Nat.one_mul]
    · rw [p2]; exact two_pw (by omega)
  · have e2 : ¬ e < 0 := by simpa using e1
    obtain ⟨n, rfl⟩ := Int.eq_ofNat_of_zero_le (show 0 ≤ e by omega)
    obtain ⟨p1, p2⟩ := two_pos_parts n
    refine wRef hU (fun w b _ => rnatOf_one w) (fun x2 => ?_)
    refine wRef hU (fun w b ⟨h2, _⟩ => refShl_any _ 1 n 1 w h2 (by omega) (by omega)) (fun x3 => ?_)
    refine wInt hU (fun w b ⟨h3, _⟩ => pos_any _ _ _ w h3) (fun x4 y4 => ?_)
    refine wRef hU (fun w b _ => rnatOf_one w) (fun x5 => ?_)
    refine wRet fun w b ⟨h5, h4, _⟩ => ⟨_, rfl, ⟨_, _, _, rfl, ?_, ⟨_, h5.1, .inl ?_⟩, ?_⟩, b⟩
    · rw [p1]
      refine ⟨by have := h4.1; rwa [Nat.one_mul] at this, ?_⟩
      rw [Int.natAbs_natCast]; exact two_pw (by omega)
    · rw [p2]
    · rw [p2]; exact hone

/-- A whole number over 1. -/
theorem overOne {w : World} {x y d : Value} {z : Int} {k : Nat} (h : IB w x y z k) (hd : RefB w d 1 1) (hk : 1 ≤ k) : DQ w x y d (z : Rat) k := ⟨h, ⟨1, hd.1, .inl rfl⟩, one_lt k hk⟩

theorem half_parts : (1 / 2 : Rat).num = 1 ∧ (1 / 2 : Rat).den = 2 := by
  refine rat_of (n := 1) (d := 2) (by decide) (by decide) ?_
  rw [Rat.mkRat_eq_div]; rfl

/-- Half: half of it. -/
theorem dhalf_any (v : Value) (q : Rat) (k : Nat) (w : World) (h : DRatB w v q k) (hk : k ≤ 1000) (hk1 : 1 ≤ k) :
    Calls Tryz.prog 84 #[v] w fun r w' => ∃ v', r = .returned v' ∧ DRatB w' v' (q / 2) (k + 1) ∧ Below w.heap.size w w' := by
  obtain ⟨a, b, d, rfl, h⟩ := h
  refine go (fun w => DQ w a b d q k) [[a, b, d]] [some 3] (tr := (.em (.call 105 [.s (.k (.int .i64 1))] [some 2]) (.em (.call 92 [.s (.k (.int .u64 2))] [none]) (.em (.call 78 [.g [.c 0 0, .c 0 1, .c 0 2], .g [.c 1 0, .c 1 1, .c 2 0]] [some 3]) (.ret (.v (.g [.c 3 0, .c 3 1, .c 3 2]))))))) (by kernel_rfl) (by kernel_rfl) (by kernel_rfl) (mD _ _ _ _ _) h ⟨dpl h, trivial⟩ ?_
  refine wInt hU (fun w b _ => rintOf_one w) (fun x1 y1 => ?_)
  refine wRef hU (fun w b _ => rnatOf_two w) (fun x2 => ?_)
  refine wDQ (q := q / 2) (fun w b ⟨h2, h1, h⟩ => by
    have e : q / 2 = q * (1 / 2) := by grind
    rw [e]
    exact dmul_any _ _ q (1 / 2) k 1 w ⟨_, _, _, rfl, h⟩ ⟨_, _, _, rfl, by rw [half_parts.1]; exact h1, ⟨2, h2.1, .inl half_parts.2.symm⟩, by rw [half_parts.2]; exact h2.2⟩ (by omega) (by omega) hk1) (fun a b d => ?_)
  exact wRet fun w b ⟨h, _⟩ => ⟨_, rfl, ⟨_, _, _, rfl, h⟩, b⟩

theorem exp_num {q : Rat} : expOf q = (tzOf q.num.natAbs : Int) - (tzOf q.den : Int) := by unfold expOf; omega
theorem odd_sg (q : Rat) : sg (decide (q.num < 0)) (q.num.natAbs / 2 ^ tzOf q.num.natAbs) = oddOf q := by
  unfold sg oddOf
  by_cases h : q.num < 0 <;> simp [h]

/-- RatOf(0). -/
theorem dofZero_any (w : World) : Calls Tryz.prog 63 #[.int .i64 0] w fun e w' => ∃ v', e = .returned v' ∧ DRatB w' v' 0 1 ∧ Below w.heap.size w w' := by
  refine go (fun _ => True) [[.int .i64 0]] [none] (tr := (.em (.call 105 [.s (.c 0 0)] [some 2]) (.em (.call 92 [.s (.k (.int .u64 1))] [none]) (.ret (.v (.g [.c 1 0, .c 1 1, .c 2 0])))))) (by kernel_rfl) (by kernel_rfl) (by kernel_rfl) Mono.true trivial ⟨rfl, trivial⟩ ?_
  refine wInt hU (fun w b _ => rintOf_zero w) (fun x1 y1 => ?_)
  refine wRef hU (fun w b _ => rnatOf_one w) (fun x2 => ?_)
  exact wRet fun w b ⟨h2, h1, _⟩ => ⟨_, rfl, ⟨_, _, _, rfl, h1, ⟨1, h2.1, .inl rfl⟩, h2.2⟩, b⟩

def Dmu (e0 : Int) : List Value → Nat
  | .int _ i :: _ => (e0 + 2 - i).toNat
  | _ => 0
def Dinv (e0 : Int) (a : Rat) (b : Nat) (cs : List Value) (_ : World) : Prop := ∃ (e : Int) (x y z : Value), cs = [.int .i64 e, x, y, z] ∧ (e = e0 ∨ e = e0 + 1) ∧ Far (tp (e + (b - 1 : Nat))) a

set_option maxRecDepth 100000 in
set_option maxHeartbeats 4000000 in
/-- Down: the greatest of at most so many digits that is not above. -/
theorem ddown_any (v : Value) (a d : Rat) (bits : Nat) (k : Nat) (w : World) (h : DRatB w v a k) (hk : k ≤ 200) (hk1 : 1 ≤ k) (hb : 1 ≤ bits) (hb2 : bits ≤ 4096) (i : Int) (hi : min (max i 1) 4096 = (bits : Int)) (hd : IsDown bits a d) :
    Calls Tryz.prog 53 #[v, .int .i64 i] w fun r w' => ∃ v', r = .returned v' ∧ DRatB w' v' d (3 * k + 400) ∧ Below w.heap.size w w' := by
  obtain ⟨x, y, z, rfl, h⟩ := h
  have t1 := bl_pw h.1.2
  have t2 := bl_pw h.2.2
  refine go (fun w => DQ w x y z a k) [[x, y, z], [.int .i64 i]] [some 3, none] (tr := (.em (.pr (.call (.mk (.builtin .max) #[.tmp 0, .const (.int .i64 1)] #[3, 3])) 3 [.s (.c 1 0), .s (.k (.int .i64 1))]) (.em (.pr (.call (.mk (.builtin .min) #[.tmp 0, .const (.int .i64 4096)] #[3, 3])) 3 [.s (.c 2 0), .s (.k (.int .i64 4096))]) (.em (.call 81 [.g [.c 0 0, .c 0 1]] [none]) (.em (.pr (.binOp .eql 3 (.tmp 0) (.const (.int .i64 0)) 3) 4 [.s (.c 4 0), .s (.k (.int .i64 0))]) (.cond (.c 5 0) (.em (.call 63 [.s (.k (.int .i64 0))] [some 3]) (.ret (.v (.g [.c 6 0, .c 6 1, .c 6 2])))) (.em (.call 88 [.s (.c 0 1)] [none]) (.em (.call 70 [.g [.c 0 0, .c 0 1, .c 0 2]] [none]) (.em (.call 88 [.s (.c 7 0)] [none]) (.em (.pr (.binOp .sub 3 (.tmp 0) (.tmp 1) 3) 3 [.s (.c 6 0), .s (.c 8 0)]) (.em (.pr (.binOp .sub 3 (.tmp 0) (.tmp 1) 3) 3 [.s (.c 9 0), .s (.c 3 0)]) (.loop 0 [.c 10 0, .k (.bool false), .k (.slice none 0 0), .k (.slice none 0 0)] (.em (.pr (.unOp .neg 3 (.tmp 0)) 3 [.s (.c 11 0)]) (.em (.call 89 [.s (.c 12 0)] [some 3]) (.em (.call 78 [.g [.c 0 0, .c 0 1, .c 0 2], .g [.c 13 0, .c 13 1, .c 13 2]] [some 3]) (.em (.call 70 [.g [.c 14 0, .c 14 1, .c 14 2]] [none]) (.em (.call 69 [.s (.c 15 0)] [some 2]) (.em (.call 90 [.g [.c 14 0, .c 14 1], .g [.c 16 0, .c 16 1]] [some 2, some 2]) (.em (.call 88 [.s (.c 17 1)] [none]) (.em (.pr (.binOp .leq 3 (.tmp 0) (.tmp 1) 3) 4 [.s (.c 18 0), .s (.c 3 0)]) (.cond (.c 19 0) (.em (.call 92 [.s (.k (.int .u64 1))] [none]) (.em (.call 89 [.s (.c 11 0)] [some 3]) (.em (.call 78 [.g [.c 17 0, .c 17 1, .c 20 0], .g [.c 21 0, .c 21 1, .c 21 2]] [some 3]) (.ret (.v (.g [.c 22 0, .c 22 1, .c 22 2])))))) (.em (.call 91 [.s (.c 17 1)] [none]) (.em (.call 88 [.s (.c 17 1)] [none]) (.em (.pr (.binOp .sub 3 (.tmp 0) (.const (.int .i64 1)) 3) 3 [.s (.c 21 0), .s (.k (.int .i64 1))]) (.em (.pr (.binOp .geq 3 (.tmp 0) (.tmp 1) 3) 4 [.s (.c 20 0), .s (.c 22 0)]) (.cond (.c 23 0) (.em (.call 92 [.s (.k (.int .u64 1))] [none]) (.em (.call 89 [.s (.c 11 0)] [some 3]) (.em (.call 78 [.g [.c 17 0, .c 17 1, .c 24 0], .g [.c 25 0, .c 25 1, .c 25 2]] [some 3]) (.ret (.v (.g [.c 26 0, .c 26 1, .c 26 2])))))) (.em (.pr (.binOp .add 3 (.tmp 0) (.const (.int .i64 1)) 3) 3 [.s (.c 11 0), .s (.k (.int .i64 1))]) (.back 0 [.c 24 0, .c 11 1, .c 11 2, .c 11 3])))))))))))))))))))))))))))) (by kernel_rfl) (by kernel_rfl) (by kernel_rfl) (mD _ _ _ _ _) h ⟨dpl h, rfl, trivial⟩ ?_
  refine wPr (prMax rfl rfl) rfl ?_
  refine wPr (prMinE rfl rfl hi) rfl ?_
  refine wVal (fun w b h => rsign_any _ a.num k w h.1) rfl ?_
  refine wPr (prEq rfl rfl) rfl ?_
  refine wIf _ rfl (fun e => ?_) (fun e => ?_)
  · have e1 : a.num = 0 := by have := (sgn_zero a.num).symm.trans e; simpa using this
    have e2 : a = 0 := Rat.num_eq_zero.1 e1
    have e3 : d = 0 := hd.unique (by rw [e2]; exact down_self (rep_zero bits))
    refine wDQ (fun w b _ => dofZero_any w) (fun a1 b1 d1 => ?_)
    refine wRet fun w b ⟨h, _⟩ => ⟨_, rfl, ⟨_, _, _, rfl, ?_⟩, b⟩
    rw [e3]
    exact ⟨h.1.mono (by omega), h.2.1, lt_pw_mono h.2.2 (by omega)⟩
  · have e1 : a.num ≠ 0 := by have := (sgn_zero a.num).symm.trans e; simpa using this
    obtain ⟨far0, near0⟩ := rdown_start (blOf_ok a.num.natAbs) (blOf_ok a.den) e1 hb
    refine wVal (fun w b h => rbitsI _ a.num.natAbs k w (ibr h.1) (by omega)) rfl ?_
    refine wRef hU (fun w b h => dden_any _ a k w ⟨_, _, _, rfl, h⟩) (fun x1 => ?_)
    refine wVal (fun w b ⟨h1, _⟩ => rbitsI _ a.den k w h1 (by omega)) rfl ?_
    refine wPr (prSubI rfl rfl (by omega) (by omega)) rfl ?_
    refine wPr (prSubI rfl rfl (by omega) (by omega)) rfl ?_
    generalize he0 : ((blOf a.num.natAbs : Nat) : Int) - (blOf a.den : Nat) - (bits : Int) = e0 at *
    have hr0 : -(32 * k + 4096 : Int) ≤ e0 := by omega
    have hr1 : e0 ≤ 32 * k := by omega
    refine wMono (G := fun w => DQ w x y z a k) (mD _ _ _ _ _) (fun w h => h.2) ?_
    refine wLoop (Dinv e0 a bits) (fun cs _ _ _ h => h) (Dmu e0) (fun w _ => ⟨e0, _, _, _, rfl, .inl rfl, far0⟩) (fun cs _ => ?_)
    intro hm u hF
    obtain ⟨⟨e, x2, y2, z2, rfl, hc, far⟩, _⟩ := id hF
    refine wMono (G := fun w => DQ w x y z a k) (mD _ _ _ _ _) (fun w h => h.2) ?_ hm u hF
    clear hm hF
    have hre : -(32 * (k + 129) : Int) < -e ∧ -e < 32 * (k + 129) ∧ -(32 * (k + 129) : Int) < e ∧ e < 32 * (k + 129) := by omega
    refine wPr (prNegI rfl (by omega) (by omega)) rfl ?_
    refine wDQ (fun w b _ => dtwo_any (-e) (k + 129) w (by omega) (by omega) (by omega)) (fun a3 b3 d3 => ?_)
    refine wDQ (fun w b ⟨h3, h⟩ => dmul_any _ _ a (tp (-e)) k (k + 129) w ⟨_, _, _, rfl, h⟩ ⟨_, _, _, rfl, h3⟩ (by omega) (by omega) hk1) (fun a4 b4 d4 => ?_)
    generalize hX : a * tp (-e) = X
    refine wRef hU (fun w b ⟨h4, _⟩ => dden_any _ X _ w ⟨_, _, _, rfl, h4⟩) (fun x5 => ?_)
    refine wInt hU (fun w b ⟨h5, _⟩ => pos_any _ _ _ w h5) (fun x6 y6 => ?_)
    have hXd := X.den_pos
    refine wInt2' hU (z := X.floor) (fun w b ⟨h6, _, h4, _⟩ => by
      have := rdivInt_any _ _ X.num X.den _ _ w h4.1 h6 (by omega) (by omega) (by omega)
      rw [divQ_pos (by omega), ← Rat.floor_def] at this
      exact this) (fun x7 y7 x8 y8 => ?_)
    generalize hc7 : X.floor = c
    have hfl : c = (a * tp (-e)).floor := by rw [hX, hc7]
    refine wPure (fun w ⟨h7, _⟩ => h7.2) (fun hcb => ?_)
    have t7 := bl_pw hcb
    refine wVal (fun w b ⟨h7, _⟩ => rbitsI _ c.natAbs _ w (ibr h7) (by omega)) rfl ?_
    refine wPr (prLe rfl rfl) rfl ?_
    have fin : (blOf c.natAbs ≤ bits ∨ ((blOf c.natAbs : Nat) : Int) - 1 ≤ (tzOf c.natAbs : Nat)) → (c : Rat) * tp e = d := fun hh => (rdown_done hb hfl far (blOf_ok _) (tzOf_ok _) hh).unique hd
    refine wIf _ rfl (fun e2 => ?_) (fun e2 => ?_)
    · have e3 : blOf c.natAbs ≤ bits := by
        have : ((blOf c.natAbs : Nat) : Int) ≤ bits := by simpa using e2
        omega
      refine wRef hU (fun w b _ => rnatOf_one w) (fun x9 => ?_)
      refine wDQ (fun w b _ => dtwo_any e (k + 129) w (by omega) (by omega) (by omega)) (fun a10 b10 d10 => ?_)
      refine wDQ (q := d) (m := 3 * k + 400) (fun w b ⟨h10, h9, h7, _⟩ => by
        have := dmul_any _ _ (c : Rat) (tp e) (k + (k + 129) + 2) (k + 129) w ⟨_, _, _, rfl, overOne h7 h9 (by omega)⟩ ⟨_, _, _, rfl, h10⟩ (by omega) (by omega) (by omega)
        rw [fin (.inl e3)] at this
        exact this.mono fun _ _ ⟨v, e, ⟨p, q, r, e', hh⟩, hb⟩ => ⟨v, e, ⟨p, q, r, e', hh.1.mono (by omega), hh.2.1, lt_pw_mono hh.2.2 (by omega)⟩, hb⟩) (fun a11 b11 d11 => ?_)
      exact wRet fun w b ⟨h, _⟩ => ⟨_, rfl, ⟨_, _, _, rfl, h⟩, b⟩
    · have e3 : ¬ blOf c.natAbs ≤ bits := by
        have : ¬ ((blOf c.natAbs : Nat) : Int) ≤ bits := by simpa using e2
        omega
      refine wVal (fun w b ⟨h7, _⟩ => rzerosI _ c.natAbs _ w (ibr h7) (by omega)) rfl ?_
      refine wVal (fun w b ⟨h7, _⟩ => rbitsI _ c.natAbs _ w (ibr h7) (by omega)) rfl ?_
      refine wPr (prSubI rfl rfl (by show _ ≤ _ - (1 : Int); omega) (by show _ - (1 : Int) ≤ _; omega)) rfl ?_
      refine wPr (prGe rfl rfl) rfl ?_
      refine wIf _ rfl (fun e4 => ?_) (fun e4 => ?_)
      · have e5 : ((blOf c.natAbs : Nat) : Int) - 1 ≤ (tzOf c.natAbs : Nat) := by simpa using e4
        refine wRef hU (fun w b _ => rnatOf_one w) (fun x9 => ?_)
        refine wDQ (fun w b _ => dtwo_any e (k + 129) w (by omega) (by omega) (by omega)) (fun a10 b10 d10 => ?_)
        refine wDQ (q := d) (m := 3 * k + 400) (fun w b ⟨h10, h9, h7, _⟩ => by
          have := dmul_any _ _ (c : Rat) (tp e) (k + (k + 129) + 2) (k + 129) w ⟨_, _, _, rfl, overOne h7 h9 (by omega)⟩ ⟨_, _, _, rfl, h10⟩ (by omega) (by omega) (by omega)
          rw [fin (.inr e5)] at this
          exact this.mono fun _ _ ⟨v, e, ⟨p, q, r, e', hh⟩, hb⟩ => ⟨v, e, ⟨p, q, r, e', hh.1.mono (by omega), hh.2.1, lt_pw_mono hh.2.2 (by omega)⟩, hb⟩) (fun a11 b11 d11 => ?_)
        exact wRet fun w b ⟨h, _⟩ => ⟨_, rfl, ⟨_, _, _, rfl, h⟩, b⟩
      · have e5 : ¬ ((blOf c.natAbs : Nat) : Int) - 1 ≤ (tzOf c.natAbs : Nat) := by simpa using e4
        refine wPr (prAddI rfl rfl (by show _ ≤ _ + (1 : Int); omega) (by show _ + (1 : Int) ≤ _; omega)) rfl ?_
        rcases hc with hc | hc
        · refine wBack fun w _ => ⟨⟨e + 1, _, _, _, rfl, .inr (by omega), ?_⟩, ?_⟩
          · exact rdown_next hb hfl (blOf_ok _) (tzOf_ok _) e3 e5
          · show (e0 + 2 - (e + 1)).toNat < (e0 + 2 - e).toNat
            omega
        · exfalso
          rcases rdown_fits (b := bits) hfl (blOf_ok _) (tzOf_ok _) (by rw [hc]; exact near0) with hh | hh
          · exact e3 hh
          · exact e5 hh

/-- Up: the least of at most so many digits that is not below. -/
theorem dup_any (v : Value) (a d : Rat) (bits : Nat) (k : Nat) (w : World) (h : DRatB w v a k) (hk : k ≤ 200) (hk1 : 1 ≤ k) (hb : 1 ≤ bits) (hb2 : bits ≤ 4096) (i : Int) (hi : min (max i 1) 4096 = (bits : Int)) (hd : IsDown bits (-a) (-d)) :
    Calls Tryz.prog 54 #[v, .int .i64 i] w fun r w' => ∃ v', r = .returned v' ∧ DRatB w' v' d (3 * k + 400) ∧ Below w.heap.size w w' := by
  obtain ⟨x, y, z, rfl, h⟩ := h
  refine go (fun w => DQ w x y z a k) [[x, y, z], [.int .i64 i]] [some 3, none] (tr := (.em (.call 93 [.g [.c 0 0, .c 0 1, .c 0 2]] [some 3]) (.em (.call 53 [.g [.c 2 0, .c 2 1, .c 2 2], .s (.c 1 0)] [some 3]) (.em (.call 93 [.g [.c 3 0, .c 3 1, .c 3 2]] [some 3]) (.ret (.v (.g [.c 4 0, .c 4 1, .c 4 2]))))))) (by kernel_rfl) (by kernel_rfl) (by kernel_rfl) (mD _ _ _ _ _) h ⟨dpl h, rfl, trivial⟩ ?_
  refine wDQ (fun w b h => dneg_any _ a k w ⟨_, _, _, rfl, h⟩) (fun a1 b1 d1 => ?_)
  refine wDQ (fun w b ⟨h, _⟩ => ddown_any _ (-a) (-d) bits k w ⟨_, _, _, rfl, h⟩ hk hk1 hb hb2 i hi hd) (fun a2 b2 d2 => ?_)
  refine wDQ (q := d) (fun w b ⟨h, _⟩ => by have := dneg_any _ (-d) (3 * k + 400) w ⟨_, _, _, rfl, h⟩; rwa [Rat.neg_neg] at this) (fun a3 b3 d3 => ?_)
  exact wRet fun w b ⟨h, _⟩ => ⟨_, rfl, ⟨_, _, _, rfl, h⟩, b⟩

end Go.Proofs.YtfohgkabmdhhaaaGreatDoor
/- Contracts of package dyad: round, Down, Up; what the laws have in common. -/
namespace Cin
open Go Go.RowKit

/-- What a division of the one by the other has to fulfil. -/
structure RC (A : Rat) (b M0 X Y : Nat) (p : Int) (ex : Bool) : Prop where
  hA : A * (Y : Rat) = (X : Rat) * tp (-p)
  hY : 0 < Y
  h1 : M0 * Y ≤ X
  h2 : X < (M0 + 1) * Y
  h3 : 2 ^ (b - 1) ≤ M0
  h4 : M0 < 2 ^ b
  he : ex = true ↔ M0 * Y = X
theorem sgr_not (neg : Bool) (x : Rat) : sgr (!neg) x = -sgr neg x := by cases neg <;> simp [sgr]
theorem RC.fin {A a d : Rat} {b M0 X Y : Nat} {p : Int} {ex away : Bool} (h : RC A b M0 X Y p ex) (hb : 1 ≤ b) (ha : a = sgr (decide (a.num < 0)) A) (h0 : a.num ≠ 0)
    (hd : (IsDown b a d ∧ away = decide (a.num < 0)) ∨ (IsDown b (-a) (-d) ∧ away = decide (0 < a.num))) : sgr (decide (a.num < 0)) (((if (away && !ex) = true then M0 + 1 else M0 : Nat) : Rat) * tp (-p)) = d := by
  rcases hd with ⟨hd, rfl⟩ | ⟨hd, rfl⟩
  · have := round_down (neg := decide (a.num < 0)) hb h.hA h.hY h.h1 h.h2 h.h3 h.h4 h.he
    rw [← ha] at this
    exact this.unique hd
  · have e : decide (0 < a.num) = !decide (a.num < 0) := by
      by_cases hn : a.num < 0
      · rw [decide_eq_true hn, decide_eq_false (by omega)]; rfl
      · rw [decide_eq_false hn, decide_eq_true (by omega)]; rfl
    rw [e]
    have := round_down (neg := !decide (a.num < 0)) hb h.hA h.hY h.h1 h.h2 h.h3 h.h4 h.he
    rw [sgr_not, sgr_not, ← ha] at this
    have := this.unique hd
    rw [← Rat.neg_neg d, ← this, Rat.neg_neg]
theorem blOf_gt {n b : Nat} : b < blOf n ↔ 2 ^ b ≤ n := by
  have h := blOf_ok n
  constructor
  · intro hb
    rcases h.2 with r | r
    · omega
    · exact Nat.le_trans (Nat.pow_le_pow_right (by decide) (by omega)) r
  · intro hb
    rcases Nat.lt_or_ge b (blOf n) with hl | hl
    · exact hl
    · have := Nat.pow_le_pow_right (n := 2) (by decide) hl
      have := h.1
      omega
theorem blOf_zero {n : Nat} : blOf n = 0 ↔ n = 0 := by
  unfold blOf
  split
  · rename_i h; simp [h]
  · rename_i h; simp [h]
theorem tz_even {n : Nat} (h : n ≠ 0) : 0 < tzOf n ↔ n % 2 = 0 := by
  rcases tzOf_ok n with ⟨r, _⟩ | ⟨m, hm⟩
  · exact absurd r h
  · constructor
    · intro ht
      obtain ⟨t, ht⟩ : ∃ t, tzOf n = t + 1 := ⟨tzOf n - 1, by omega⟩
      rw [ht, Nat.pow_succ, Nat.mul_right_comm] at hm
      omega
    · intro he
      rcases Nat.eq_zero_or_pos (tzOf n) with h0 | h0
      · rw [h0] at hm; simp at hm; omega
      · exact h0
/-- The digits that are asked for. -/
theorem rc_fit {A : Rat} {N D b : Nat} {p : Int} (hA : A * (D : Rat) = (N : Rat)) (hN : 0 < N) (hD : 0 < D) (hb : 1 ≤ b) (hp : (b : Int) + blOf D - blOf N = p) {X Y : Nat} (hX : N * 2 ^ p.toNat = X) (hY : D * 2 ^ (-p).toNat = Y) :
    0 < Y ∧ (¬ b < blOf (X / Y) → RC A b (X / Y) X Y p (decide (X % Y = 0))) ∧ (b < blOf (X / Y) → RC A b (X / Y / 2) X (2 * Y) (p - 1) (decide (X % Y = 0) && decide (0 < tzOf (X / Y)))) := by
  obtain ⟨f1, f2⟩ := round_fit (blOf_ok N) (blOf_ok D) hN hD hb hp.symm
  rw [hX, hY] at f1 f2
  have hYp : 0 < Y := by rw [← hY]; exact Nat.mul_pos hD (Nat.two_pow_pos _)
  have hdm := Nat.div_add_mod X Y
  have hml := Nat.mod_lt X hYp
  have g1 : 2 ^ (b - 1) ≤ X / Y := (Nat.le_div_iff_mul_le hYp).2 f1
  have g2 : X / Y < 2 ^ (b + 1) := (Nat.div_lt_iff_lt_mul hYp).2 f2
  have hA1 : A * (Y : Rat) = (X : Rat) * tp (-p) := by
    have s := two_split p
    rw [← hX, ← hY, Rat.natCast_mul, Rat.natCast_mul, ← s, ← hA]
    grind
  generalize hm : X / Y = m at *
  generalize hr : X % Y = r at *
  refine ⟨hYp, fun hl => ?_, fun hl => ?_⟩
  · have h4 : m < 2 ^ b := by
      rcases Nat.lt_or_ge m (2 ^ b) with h | h
      · exact h
      · exact absurd (blOf_gt.2 h) hl
    refine ⟨hA1, hYp, by rw [Nat.mul_comm]; omega, by rw [Nat.add_mul, Nat.mul_comm]; omega, g1, h4, ?_⟩
    rw [decide_eq_true_iff, Nat.mul_comm]
    omega
  · have h4 : 2 ^ b ≤ m := blOf_gt.1 hl
    have hpb : 2 ^ b = 2 * 2 ^ (b - 1) := by rw [Nat.mul_comm, ← Nat.pow_succ]; congr 1; omega
    rw [Nat.pow_succ] at g2
    have hm0 : m ≠ 0 := by have := Nat.two_pow_pos b; omega
    have h5 : m = 2 * (m / 2) + m % 2 := by omega
    have h6 : m / 2 * (2 * Y) + (m % 2) * Y = Y * m := by
      conv => rhs; rw [h5]
      grind
    have h7 : m % 2 = 0 ∨ m % 2 = 1 := by omega
    refine ⟨?_, by omega, ?_, ?_, by omega, by omega, ?_⟩
    · rw [Rat.natCast_mul, show -(p - 1) = -p + 1 by omega, two_add, two_one]
      have : ((2 : Nat) : Rat) = 2 := rfl
      rw [this]
      grind
    · omega
    · rw [Nat.add_mul]
      rcases h7 with h | h <;> rw [h] at h6 <;> omega
    · rw [Bool.and_eq_true, decide_eq_true_iff, decide_eq_true_iff, tz_even hm0]
      rcases h7 with h | h <;> rw [h] at h6 ⊢
      · omega
      · constructor
        · rintro ⟨_, h⟩; omega
        · intro h; omega
/-- There is one. -/
theorem down_ex (b : Nat) (a : Rat) (hb : 1 ≤ b) : ∃ d, IsDown b a d := by
  by_cases h0 : a.num = 0
  · have : a = 0 := Rat.num_eq_zero.1 h0
    exact ⟨0, by rw [this]; exact down_self (rep_zero b)⟩
  · obtain ⟨A, ha, hA⟩ := sgr_num a
    obtain ⟨_, r1, r2⟩ := rc_fit hA (by omega) a.den_pos hb rfl rfl rfl
    have go : ∀ {M0 X Y p ex}, RC A b M0 X Y p ex → ∃ d, IsDown b a d := fun {M0 X Y p ex} h => ⟨_, by
      have := round_down (neg := decide (a.num < 0)) hb h.hA h.hY h.h1 h.h2 h.h3 h.h4 h.he
      rw [← ha] at this
      exact this⟩
    by_cases hl : b < blOf (a.num.natAbs * 2 ^ ((b : Int) + blOf a.den - blOf a.num.natAbs).toNat / (a.den * 2 ^ (-((b : Int) + blOf a.den - blOf a.num.natAbs)).toNat))
    · exact go (r2 hl)
    · exact go (r1 hl)
theorem sg_tp (b : Bool) (M : Nat) (t : Rat) : ((sg b M : Int) : Rat) * t = sgr b ((M : Rat) * t) := by
  unfold sg sgr
  cases b
  · rfl
  · simp only [if_true, Rat.intCast_neg, Rat.neg_mul]; rfl

end Cin
namespace Go.Proofs.YtfohgkabmdhhaaaGreatDoor
open Go.RowKit Cin

set_option maxRecDepth 100000 in
set_option maxHeartbeats 4000000 in
/-- round: cut to its highest digits, away from 0 or not. -/
theorem round_any (v : Value) (a d : Rat) (i : Int) (bits : Nat) (away : Bool) (k : Nat) (w : World) (hT : Tabs w) (h : RatB w v a k) (hk : k ≤ 2000) (hb : 1 ≤ bits) (hb2 : bits ≤ 4096) (hi : min (max i 1) 4096 = (bits : Int))
    (hd : (IsDown bits a d ∧ away = decide (a.num < 0)) ∨ (IsDown bits (-a) (-d) ∧ away = decide (0 < a.num))) :
    Calls Tryz.prog 123 #[v, .int .i64 i, .bool away] w fun r w' => ∃ v', r = .returned v' ∧ DyB w' v' d (2 * k + 132) (96 * k + 8400) ∧ Below w.heap.size w w' := by
  obtain ⟨a1, b1, c1, d1, rfl, h⟩ := h
  have t1 := bl_pw h.1.2
  have t2 := bl_pw h.2.2
  refine go (fun w => QB w a1 b1 c1 d1 a k) [[a1, b1, c1, d1], [.int .i64 i], [.bool away]] [some 4, none, none] (tr := (.em (.call 61 [.g [.c 0 0, .c 0 1, .c 0 2, .c 0 3]] [none]) (.em (.pr (.binOp .eql 3 (.tmp 0) (.const (.int .i64 0)) 3) 4 [.s (.c 3 0), .s (.k (.int .i64 0))]) (.cond (.c 4 0) (.ret (.v (.g [.k (.bool false), .k (.slice none 0 0), .k (.int .i64 0)]))) (.em (.pr (.call (.mk (.builtin .max) #[.tmp 0, .const (.int .i64 1)] #[3, 3])) 3 [.s (.c 1 0), .s (.k (.int .i64 1))]) (.em (.pr (.call (.mk (.builtin .min) #[.tmp 0, .const (.int .i64 4096)] #[3, 3])) 3 [.s (.c 5 0), .s (.k (.int .i64 4096))]) (.em (.call 149 [.g [.c 0 0, .c 0 1, .c 0 2, .c 0 3]] [some 2]) (.em (.call 135 [.g [.c 7 0, .c 7 1]] [some 1]) (.em (.call 150 [.g [.c 0 0, .c 0 1, .c 0 2, .c 0 3]] [some 2]) (.em (.call 135 [.g [.c 9 0, .c 9 1]] [some 1]) (.em (.call 151 [.g [.c 10 0]] [none]) (.em (.pr (.binOp .add 3 (.tmp 0) (.tmp 1) 3) 3 [.s (.c 6 0), .s (.c 11 0)]) (.em (.call 151 [.g [.c 8 0]] [none]) (.em (.pr (.binOp .sub 3 (.tmp 0) (.tmp 1) 3) 3 [.s (.c 12 0), .s (.c 13 0)]) (.em (.pr (.unOp .neg 3 (.tmp 0)) 3 [.s (.c 14 0)]) (.em (.call 153 [.g [.c 8 0], .s (.c 14 0)] [some 1]) (.em (.call 153 [.g [.c 10 0], .s (.c 15 0)] [some 1]) (.em (.call 152 [.g [.c 16 0], .g [.c 17 0]] [some 1, some 1, none]) (.em (.call 151 [.g [.c 18 1]] [none]) (.em (.pr (.binOp .eql 3 (.tmp 0) (.const (.int .i64 0)) 3) 4 [.s (.c 19 0), .s (.k (.int .i64 0))]) (.em (.call 151 [.g [.c 18 0]] [none]) (.em (.pr (.binOp .gtr 3 (.tmp 0) (.tmp 1) 3) 4 [.s (.c 21 0), .s (.c 6 0)]) (.cond (.c 22 0) (.cond (.c 20 0) (.em (.call 154 [.g [.c 18 0]] [none]) (.em (.pr (.binOp .gtr 3 (.tmp 0) (.const (.int .i64 0)) 3) 4 [.s (.c 23 0), .s (.k (.int .i64 0))]) (.em (.call 155 [.g [.c 18 0], .s (.k (.int .i64 1))] [some 1]) (.em (.pr (.binOp .sub 3 (.tmp 0) (.const (.int .i64 1)) 3) 3 [.s (.c 14 0), .s (.k (.int .i64 1))]) (.cond (.c 2 0) (.em (.pr (.unOp .not 4 (.tmp 0)) 4 [.s (.c 24 0)]) (.cond (.c 27 0) (.em (.call 141 [.s (.k (.int .u64 1))] [some 1]) (.em (.call 156 [.g [.c 25 0], .g [.c 28 0]] [some 1]) (.em (.pr (.unOp .neg 3 (.tmp 0)) 3 [.s (.c 26 0)]) (.em (.call 61 [.g [.c 0 0, .c 0 1, .c 0 2, .c 0 3]] [none]) (.em (.pr (.binOp .lss 3 (.tmp 0) (.const (.int .i64 0)) 3) 4 [.s (.c 31 0), .s (.k (.int .i64 0))]) (.em (.call 133 [.s (.c 32 0), .g [.c 29 0]] [some 2]) (.em (.call 157 [.g [.c 33 0, .c 33 1], .s (.c 30 0)] [some 3]) (.ret (.v (.g [.c 34 0, .c 34 1, .c 34 2])))))))))) (.em (.pr (.unOp .neg 3 (.tmp 0)) 3 [.s (.c 26 0)]) (.em (.call 61 [.g [.c 0 0, .c 0 1, .c 0 2, .c 0 3]] [none]) (.em (.pr (.binOp .lss 3 (.tmp 0) (.const (.int .i64 0)) 3) 4 [.s (.c 29 0), .s (.k (.int .i64 0))]) (.em (.call 133 [.s (.c 30 0), .g [.c 25 0]] [some 2]) (.em (.call 157 [.g [.c 31 0, .c 31 1], .s (.c 28 0)] [some 3]) (.ret (.v (.g [.c 32 0, .c 32 1, .c 32 2])))))))))) (.em (.pr (.unOp .neg 3 (.tmp 0)) 3 [.s (.c 26 0)]) (.em (.call 61 [.g [.c 0 0, .c 0 1, .c 0 2, .c 0 3]] [none]) (.em (.pr (.binOp .lss 3 (.tmp 0) (.const (.int .i64 0)) 3) 4 [.s (.c 28 0), .s (.k (.int .i64 0))]) (.em (.call 133 [.s (.c 29 0), .g [.c 25 0]] [some 2]) (.em (.call 157 [.g [.c 30 0, .c 30 1], .s (.c 27 0)] [some 3]) (.ret (.v (.g [.c 31 0, .c 31 1, .c 31 2]))))))))))))) (.em (.call 155 [.g [.c 18 0], .s (.k (.int .i64 1))] [some 1]) (.em (.pr (.binOp .sub 3 (.tmp 0) (.const (.int .i64 1)) 3) 3 [.s (.c 14 0), .s (.k (.int .i64 1))]) (.cond (.c 2 0) (.em (.pr (.unOp .not 4 (.tmp 0)) 4 [.s (.k (.bool false))]) (.cond (.c 25 0) (.em (.call 141 [.s (.k (.int .u64 1))] [some 1]) (.em (.call 156 [.g [.c 23 0], .g [.c 26 0]] [some 1]) (.em (.pr (.unOp .neg 3 (.tmp 0)) 3 [.s (.c 24 0)]) (.em (.call 61 [.g [.c 0 0, .c 0 1, .c 0 2, .c 0 3]] [none]) (.em (.pr (.binOp .lss 3 (.tmp 0) (.const (.int .i64 0)) 3) 4 [.s (.c 29 0), .s (.k (.int .i64 0))]) (.em (.call 133 [.s (.c 30 0), .g [.c 27 0]] [some 2]) (.em (.call 157 [.g [.c 31 0, .c 31 1], .s (.c 28 0)] [some 3]) (.ret (.v (.g [.c 32 0, .c 32 1, .c 32 2])))))))))) (.em (.pr (.unOp .neg 3 (.tmp 0)) 3 [.s (.c 24 0)]) (.em (.call 61 [.g [.c 0 0, .c 0 1, .c 0 2, .c 0 3]] [none]) (.em (.pr (.binOp .lss 3 (.tmp 0) (.const (.int .i64 0)) 3) 4 [.s (.c 27 0), .s (.k (.int .i64 0))]) (.em (.call 133 [.s (.c 28 0), .g [.c 23 0]] [some 2]) (.em (.call 157 [.g [.c 29 0, .c 29 1], .s (.c 26 0)] [some 3]) (.ret (.v (.g [.c 30 0, .c 30 1, .c 30 2])))))))))) (.em (.pr (.unOp .neg 3 (.tmp 0)) 3 [.s (.c 24 0)]) (.em (.call 61 [.g [.c 0 0, .c 0 1, .c 0 2, .c 0 3]] [none]) (.em (.pr (.binOp .lss 3 (.tmp 0) (.const (.int .i64 0)) 3) 4 [.s (.c 26 0), .s (.k (.int .i64 0))]) (.em (.call 133 [.s (.c 27 0), .g [.c 23 0]] [some 2]) (.em (.call 157 [.g [.c 28 0, .c 28 1], .s (.c 25 0)] [some 3]) (.ret (.v (.g [.c 29 0, .c 29 1, .c 29 2])))))))))))) (.cond (.c 2 0) (.em (.pr (.unOp .not 4 (.tmp 0)) 4 [.s (.c 20 0)]) (.cond (.c 23 0) (.em (.call 141 [.s (.k (.int .u64 1))] [some 1]) (.em (.call 156 [.g [.c 18 0], .g [.c 24 0]] [some 1]) (.em (.pr (.unOp .neg 3 (.tmp 0)) 3 [.s (.c 14 0)]) (.em (.call 61 [.g [.c 0 0, .c 0 1, .c 0 2, .c 0 3]] [none]) (.em (.pr (.binOp .lss 3 (.tmp 0) (.const (.int .i64 0)) 3) 4 [.s (.c 27 0), .s (.k (.int .i64 0))]) (.em (.call 133 [.s (.c 28 0), .g [.c 25 0]] [some 2]) (.em (.call 157 [.g [.c 29 0, .c 29 1], .s (.c 26 0)] [some 3]) (.ret (.v (.g [.c 30 0, .c 30 1, .c 30 2])))))))))) (.em (.pr (.unOp .neg 3 (.tmp 0)) 3 [.s (.c 14 0)]) (.em (.call 61 [.g [.c 0 0, .c 0 1, .c 0 2, .c 0 3]] [none]) (.em (.pr (.binOp .lss 3 (.tmp 0) (.const (.int .i64 0)) 3) 4 [.s (.c 25 0), .s (.k (.int .i64 0))]) (.em (.call 133 [.s (.c 26 0), .g [.c 18 0]] [some 2]) (.em (.call 157 [.g [.c 27 0, .c 27 1], .s (.c 24 0)] [some 3]) (.ret (.v (.g [.c 28 0, .c 28 1, .c 28 2])))))))))) (.em (.pr (.unOp .neg 3 (.tmp 0)) 3 [.s (.c 14 0)]) (.em (.call 61 [.g [.c 0 0, .c 0 1, .c 0 2, .c 0 3]] [none]) (.em (.pr (.binOp .lss 3 (.tmp 0) (.const (.int .i64 0)) 3) 4 [.s (.c 24 0), .s (.k (.int .i64 0))]) (.em (.call 133 [.s (.c 25 0), .g [.c 18 0]] [some 2]) (.em (.call 157 [.g [.c 26 0, .c 26 1], .s (.c 23 0)] [some 3]) (.ret (.v (.g [.c 27 0, .c 27 1, .c 27 2])))))))))))))))))))))))))))))))) (by kernel_rfl) (by kernel_rfl) (by kernel_rfl) (mQ _ _ _ _ _ _) h ⟨qpl h, rfl, rfl, trivial⟩ ?_
  refine wVal (fun w b h => qsign_any _ a k w ⟨_, _, _, _, rfl, h⟩ (by omega)) rfl ?_
  refine wPr (prEq rfl rfl) rfl ?_
  refine wIf _ rfl (fun e => ?_) (fun e => ?_)
  · have e1 : a.num = 0 := by have := (sgn_zero a.num).symm.trans e; simpa using this
    have e2 : a = 0 := Rat.num_eq_zero.1 e1
    have e3 : d = 0 := by
      have z := down_self (rep_zero bits)
      rcases hd with ⟨hd, _⟩ | ⟨hd, _⟩
      · rw [e2] at hd; exact hd.unique z
      · rw [e2, Rat.neg_zero] at hd
        have := hd.unique z
        rw [← Rat.neg_neg d, this]; rfl
    refine wRet fun w b _ => ⟨_, rfl, ?_, b⟩
    rw [e3]; exact zeroDy w _ _
  · have e1 : a.num ≠ 0 := by have := (sgn_zero a.num).symm.trans e; simpa using this
    have hdp := a.den_pos
    obtain ⟨A, ha, hA⟩ := sgr_num a
    obtain ⟨p, hp⟩ : ∃ p, (bits : Int) + (blOf a.den : Nat) - (blOf a.num.natAbs : Nat) = p := ⟨_, rfl⟩
    obtain ⟨X, hX⟩ : ∃ X, a.num.natAbs * 2 ^ p.toNat = X := ⟨_, rfl⟩
    obtain ⟨Y, hY⟩ : ∃ Y, a.den * 2 ^ (-p).toNat = Y := ⟨_, rfl⟩
    obtain ⟨hY0, rc1, rc2⟩ := rc_fit hA (by omega) hdp hb hp hX hY
    obtain ⟨m, hm⟩ : ∃ m, X / Y = m := ⟨_, rfl⟩
    obtain ⟨r, hr⟩ : ∃ r, X % Y = r := ⟨_, rfl⟩
    rw [hm, hr] at rc1 rc2
    refine wPr (prMaxE rfl rfl rfl) rfl ?_
    refine wPr (prMinE rfl rfl hi) rfl ?_
    refine wInt hU (fun w b h => qnum_any _ a k w ⟨_, _, _, _, rfl, h⟩ (by omega)) (fun x1 y1 => ?_)
    refine wNat hU (fun w b ⟨h1, _⟩ => abs_any _ _ k w h1 (by omega)) (fun x2 => ?_)
    refine wInt hU (fun w b ⟨_, _, h⟩ => qden_any _ a k w ⟨_, _, _, _, rfl, h⟩ (by omega)) (fun x3 y3 => ?_)
    refine wNat hU (n := a.den) (m := k) (fun w b ⟨h1, _⟩ => by have := abs_any _ _ k w h1 (by omega); rwa [Int.natAbs_natCast] at this) (fun x4 => ?_)
    refine wVal (fun w b ⟨h4, _⟩ => bitsI _ a.den k w h4 (by omega)) rfl ?_
    refine wPr (prAddI rfl rfl (by omega) (by omega)) rfl ?_
    refine wVal (fun w b ⟨_, _, h2, _⟩ => bitsI _ a.num.natAbs k w h2 (by omega)) rfl ?_
    refine wPr (prSubE rfl rfl hp (by omega) (by omega)) rfl ?_
    refine wPr (prNegI rfl (by omega) (by omega)) rfl ?_
    refine wNat hU (n := X) (m := 2 * k + 129) (fun w b ⟨_, _, h2, _⟩ => by rw [← hX]; exact (sup_any _ a.num.natAbs p k w h2 (by omega) (by omega) (by omega)).mono fun _ _ ⟨v, e, h, hb⟩ => ⟨v, e, h.mono (by omega), hb⟩) (fun x5 => ?_)
    refine wNat hU (n := Y) (m := 2 * k + 1) (fun w b ⟨_, h4, _⟩ => by rw [← hY]; exact (sup_any _ a.den (-p) k w h4 (by omega) (by omega) (by omega)).mono fun _ _ ⟨v, e, h, hb⟩ => ⟨v, e, h.mono (by omega), hb⟩) (fun x6 => ?_)
    refine wCall (fun cs w => ∃ x y, cs = [x, y, .bool true] ∧ NB w x m (2 * k + 129) ∧ NB w y r (2 * k + 1)) (fun cs u w e ⟨x, y, hc, h1, h2⟩ => ⟨x, y, hc, h1.ext e hU, h2.ext e hU⟩) (fun w b ⟨h6, h5, _⟩ => (divTells X Y (2 * k + 129) (2 * k + 1) (by omega) (by omega) (by omega) w _ _ h5 h6).mono ?_) (fun cs => ?_)
    · rintro e w' ⟨v1, u1, rfl, h1, h2, hb⟩
      obtain ⟨x, rfl, h1⟩ := nbc h1
      obtain ⟨y, rfl, h2⟩ := nbc h2
      have p1 := npl h1
      have p2 := npl h2
      rw [hm] at h1
      rw [hr] at h2
      simp only [List.all_cons, List.all_nil, Bool.and_true] at p1 p2
      exact ⟨[x, y, .bool true], rfl, by simp only [List.all_cons, List.all_nil, Bool.and_true, Bool.and_eq_true]; exact ⟨p1, p2, rfl⟩, ⟨x, y, rfl, h1, h2⟩, hb⟩
    intro hm0 u hF
    obtain ⟨⟨x7, x8, rfl, _⟩, _⟩ := id hF
    refine wMono (G := fun w => NB w x8 r (2 * k + 1) ∧ NB w x7 m (2 * k + 129) ∧ QB w a1 b1 c1 d1 a k) ((mN _ _ _).and ((mN _ _ _).and (mQ _ _ _ _ _ _))) (fun w h => by
      obtain ⟨⟨x, y, e, h1, h2⟩, _, _, _, _, _, _, h3⟩ := h
      injection e with e1 e2
      injection e2 with e2 _
      subst e1 e2
      exact ⟨h2, h1, h3⟩) ?_ hm0 u hF
    clear hm0 hF
    refine wVal (fun w b ⟨h8, _⟩ => bitsI _ r _ w h8 (by omega)) rfl ?_
    refine wPr (prEq rfl rfl) rfl ?_
    have eL : ((((blOf r : Nat) : Int) == 0) : Bool) = decide (r = 0) := by
      by_cases h0 : r = 0
      · rw [decide_eq_true h0, blOf_zero.2 h0]; rfl
      · rw [decide_eq_false h0]; simp; intro h1; exact h0 (blOf_zero.1 h1)
    refine wPure (fun w ⟨_, h7, _⟩ => h7.2) (fun hmb => ?_)
    have t7 := bl_pw hmb
    have t8 := tz_pw hmb
    refine wVal (fun w b ⟨_, h7, _⟩ => bitsI _ m _ w h7 (by omega)) rfl ?_
    refine wPr (prGt rfl rfl) rfl ?_
    refine wMono (G := fun w => NB w x7 m (2 * k + 129) ∧ QB w a1 b1 c1 d1 a k) ((mN _ _ _).and (mQ _ _ _ _ _ _)) (fun w h => h.2) ?_
    refine wIf _ rfl (fun e => ?_) (fun e => ?_)
    · have hl : bits < blOf m := by
        have : (bits : Int) < (blOf m : Nat) := by simpa using e
        omega
      have rc := (rc2 hl).fin hb ha e1 hd
      refine wIf _ rfl (fun e => ?_) (fun e => ?_)
      · have e2 : decide (r = 0) = true := by rw [← eL]; exact e
        rw [e2, Bool.true_and] at rc
        refine wVal (fun w b ⟨h7, _⟩ => zerosI _ m _ w (hT.below b) h7 (by omega)) rfl ?_
        refine wPr (prGt rfl rfl) rfl ?_
        have eZ : decide ((0 : Int) < ((tzOf m : Nat) : Int)) = decide (0 < tzOf m) := by
          by_cases h0 : 0 < tzOf m
          · rw [decide_eq_true h0, decide_eq_true (by omega)]
          · rw [decide_eq_false h0, decide_eq_false (by omega)]
        refine wNat hU (n := m / 2) (m := 2 * k + 129) (fun w b ⟨h7, _⟩ => shrI _ m 1 _ w h7 (by omega) (by decide) (by decide)) (fun x9 => ?_)
        refine wPr (prSubI rfl rfl (by show _ ≤ p - (1 : Int); omega) (by show p - (1 : Int) ≤ _; omega)) rfl ?_
        refine wMono (G := fun w => NB w x9 (m / 2) (2 * k + 129) ∧ QB w a1 b1 c1 d1 a k) ((mN _ _ _).and (mQ _ _ _ _ _ _)) (fun w h => ⟨h.1, h.2.2⟩) ?_
        refine wIf away rfl (fun ea => ?_) (fun ea => ?_)
        · refine wPr (prNot rfl) rfl ?_
          refine wIf _ rfl (fun e => ?_) (fun e => ?_)
          · have ex : decide (0 < tzOf m) = false := by rw [← eZ]; simpa using e
            have hfin : sgr (decide (a.num < 0)) (((m / 2 + 1 : Nat) : Rat) * tp (-(p - 1))) = d := by rw [ea, ex] at rc; simpa using rc
            refine wNat hU (fun w b _ => ofB_one w) (fun x20 => ?_)
            refine wNat hU (fun w b ⟨h1, h2, _⟩ => addB _ _ (m / 2) 1 (2 * k + 129) 2 w h2 h1 (by omega) (by omega)) (fun x21 => ?_)
            refine wMono (G := fun w => NB w x21 (m / 2 + 1) (2 * k + 129 + 2 + 1) ∧ QB w a1 b1 c1 d1 a k) ((mN _ _ _).and (mQ _ _ _ _ _ _)) (fun w h => ⟨h.1, h.2.2.2⟩) ?_
            refine wPr (prNegI rfl (by omega) (by omega)) rfl ?_
            refine wVal (fun w b ⟨_, h⟩ => qsign_any _ a k w ⟨_, _, _, _, rfl, h⟩ (by omega)) rfl ?_
            refine wPr (prLt rfl rfl) rfl ?_
            refine wInt hU (fun w b ⟨h1, _⟩ => from_any _ _ (m / 2 + 1) (2 * k + 129 + 2 + 1) w h1 (by omega)) (fun x30 y30 => ?_)
            refine wDy (q := d) (k := 2 * k + 132) (K := 96 * k + 8400) (fun w b ⟨h3, _⟩ => by
              have := strip_any _ _ (-(p - 1)) _ (4097 + 32 * k) w (hT.below b) h3 (by omega) (by omega) (by omega) (by omega)
              rw [sgn_neg, sg_tp, hfin] at this
              exact this.mono fun _ _ ⟨v, e, ⟨x, y, e', h⟩, hb⟩ => ⟨v, e, ⟨x, y, e', h.wide (by omega) (by omega)⟩, hb⟩) (fun x31 y31 => ?_)
            exact wRet fun w b ⟨h, _⟩ => ⟨_, rfl, ⟨_, _, rfl, h⟩, b⟩
          · have ex : decide (0 < tzOf m) = true := by rw [← eZ]; simpa using e
            have hfin : sgr (decide (a.num < 0)) (((m / 2 : Nat) : Rat) * tp (-(p - 1))) = d := by rw [ea, ex] at rc; simpa using rc
            refine wPr (prNegI rfl (by omega) (by omega)) rfl ?_
            refine wVal (fun w b ⟨_, h⟩ => qsign_any _ a k w ⟨_, _, _, _, rfl, h⟩ (by omega)) rfl ?_
            refine wPr (prLt rfl rfl) rfl ?_
            refine wInt hU (fun w b ⟨h1, _⟩ => from_any _ _ (m / 2) (2 * k + 129) w h1 (by omega)) (fun x30 y30 => ?_)
            refine wDy (q := d) (k := 2 * k + 132) (K := 96 * k + 8400) (fun w b ⟨h3, _⟩ => by
              have := strip_any _ _ (-(p - 1)) _ (4097 + 32 * k) w (hT.below b) h3 (by omega) (by omega) (by omega) (by omega)
              rw [sgn_neg, sg_tp, hfin] at this
              exact this.mono fun _ _ ⟨v, e, ⟨x, y, e', h⟩, hb⟩ => ⟨v, e, ⟨x, y, e', h.wide (by omega) (by omega)⟩, hb⟩) (fun x31 y31 => ?_)
            exact wRet fun w b ⟨h, _⟩ => ⟨_, rfl, ⟨_, _, rfl, h⟩, b⟩
        · have hfin : sgr (decide (a.num < 0)) (((m / 2 : Nat) : Rat) * tp (-(p - 1))) = d := by rw [ea] at rc; simpa using rc
          refine wPr (prNegI rfl (by omega) (by omega)) rfl ?_
          refine wVal (fun w b ⟨_, h⟩ => qsign_any _ a k w ⟨_, _, _, _, rfl, h⟩ (by omega)) rfl ?_
          refine wPr (prLt rfl rfl) rfl ?_
          refine wInt hU (fun w b ⟨h1, _⟩ => from_any _ _ (m / 2) (2 * k + 129) w h1 (by omega)) (fun x30 y30 => ?_)
          refine wDy (q := d) (k := 2 * k + 132) (K := 96 * k + 8400) (fun w b ⟨h3, _⟩ => by
            have := strip_any _ _ (-(p - 1)) _ (4097 + 32 * k) w (hT.below b) h3 (by omega) (by omega) (by omega) (by omega)
            rw [sgn_neg, sg_tp, hfin] at this
            exact this.mono fun _ _ ⟨v, e, ⟨x, y, e', h⟩, hb⟩ => ⟨v, e, ⟨x, y, e', h.wide (by omega) (by omega)⟩, hb⟩) (fun x31 y31 => ?_)
          exact wRet fun w b ⟨h, _⟩ => ⟨_, rfl, ⟨_, _, rfl, h⟩, b⟩
      · have e2 : decide (r = 0) = false := by rw [← eL]; exact e
        rw [e2, Bool.false_and] at rc
        refine wNat hU (n := m / 2) (m := 2 * k + 129) (fun w b ⟨h7, _⟩ => shrI _ m 1 _ w h7 (by omega) (by decide) (by decide)) (fun x9 => ?_)
        refine wPr (prSubI rfl rfl (by show _ ≤ p - (1 : Int); omega) (by show p - (1 : Int) ≤ _; omega)) rfl ?_
        refine wMono (G := fun w => NB w x9 (m / 2) (2 * k + 129) ∧ QB w a1 b1 c1 d1 a k) ((mN _ _ _).and (mQ _ _ _ _ _ _)) (fun w h => ⟨h.1, h.2.2⟩) ?_
        refine wIf away rfl (fun ea => ?_) (fun ea => ?_)
        · refine wPr (prNot rfl) rfl ?_
          refine wTrue rfl ?_
          have hfin : sgr (decide (a.num < 0)) (((m / 2 + 1 : Nat) : Rat) * tp (-(p - 1))) = d := by rw [ea] at rc; simpa using rc
          refine wNat hU (fun w b _ => ofB_one w) (fun x20 => ?_)
          refine wNat hU (fun w b ⟨h1, h2, _⟩ => addB _ _ (m / 2) 1 (2 * k + 129) 2 w h2 h1 (by omega) (by omega)) (fun x21 => ?_)
          refine wMono (G := fun w => NB w x21 (m / 2 + 1) (2 * k + 129 + 2 + 1) ∧ QB w a1 b1 c1 d1 a k) ((mN _ _ _).and (mQ _ _ _ _ _ _)) (fun w h => ⟨h.1, h.2.2.2⟩) ?_
          refine wPr (prNegI rfl (by omega) (by omega)) rfl ?_
          refine wVal (fun w b ⟨_, h⟩ => qsign_any _ a k w ⟨_, _, _, _, rfl, h⟩ (by omega)) rfl ?_
          refine wPr (prLt rfl rfl) rfl ?_
          refine wInt hU (fun w b ⟨h1, _⟩ => from_any _ _ (m / 2 + 1) (2 * k + 129 + 2 + 1) w h1 (by omega)) (fun x30 y30 => ?_)
          refine wDy (q := d) (k := 2 * k + 132) (K := 96 * k + 8400) (fun w b ⟨h3, _⟩ => by
            have := strip_any _ _ (-(p - 1)) _ (4097 + 32 * k) w (hT.below b) h3 (by omega) (by omega) (by omega) (by omega)
            rw [sgn_neg, sg_tp, hfin] at this
            exact this.mono fun _ _ ⟨v, e, ⟨x, y, e', h⟩, hb⟩ => ⟨v, e, ⟨x, y, e', h.wide (by omega) (by omega)⟩, hb⟩) (fun x31 y31 => ?_)
          exact wRet fun w b ⟨h, _⟩ => ⟨_, rfl, ⟨_, _, rfl, h⟩, b⟩
        · have hfin : sgr (decide (a.num < 0)) (((m / 2 : Nat) : Rat) * tp (-(p - 1))) = d := by rw [ea] at rc; simpa using rc
          refine wPr (prNegI rfl (by omega) (by omega)) rfl ?_
          refine wVal (fun w b ⟨_, h⟩ => qsign_any _ a k w ⟨_, _, _, _, rfl, h⟩ (by omega)) rfl ?_
          refine wPr (prLt rfl rfl) rfl ?_
          refine wInt hU (fun w b ⟨h1, _⟩ => from_any _ _ (m / 2) (2 * k + 129) w h1 (by omega)) (fun x30 y30 => ?_)
          refine wDy (q := d) (k := 2 * k + 132) (K := 96 * k + 8400) (fun w b ⟨h3, _⟩ => by
            have := strip_any _ _ (-(p - 1)) _ (4097 + 32 * k) w (hT.below b) h3 (by omega) (by omega) (by omega) (by omega)
            rw [sgn_neg, sg_tp, hfin] at this
            exact this.mono fun _ _ ⟨v, e, ⟨x, y, e', h⟩, hb⟩ => ⟨v, e, ⟨x, y, e', h.wide (by omega) (by omega)⟩, hb⟩) (fun x31 y31 => ?_)
          exact wRet fun w b ⟨h, _⟩ => ⟨_, rfl, ⟨_, _, rfl, h⟩, b⟩
    · have hl : ¬ bits < blOf m := by
        have : ¬ (bits : Int) < (blOf m : Nat) := by simpa using e
        omega
      have rc := (rc1 hl).fin hb ha e1 hd
      refine wIf away rfl (fun ea => ?_) (fun ea => ?_)
      · refine wPr (prNot rfl) rfl ?_
        refine wIf _ rfl (fun e => ?_) (fun e => ?_)
        · have ex : decide (r = 0) = false := by rw [← eL]; simpa using e
          have hfin : sgr (decide (a.num < 0)) (((m + 1 : Nat) : Rat) * tp (-(p))) = d := by rw [ea, ex] at rc; simpa using rc
          refine wNat hU (fun w b _ => ofB_one w) (fun x20 => ?_)
          refine wNat hU (fun w b ⟨h1, h2, _⟩ => addB _ _ (m) 1 (2 * k + 129) 2 w h2 h1 (by omega) (by omega)) (fun x21 => ?_)
          refine wMono (G := fun w => NB w x21 (m + 1) (2 * k + 129 + 2 + 1) ∧ QB w a1 b1 c1 d1 a k) ((mN _ _ _).and (mQ _ _ _ _ _ _)) (fun w h => ⟨h.1, h.2.2.2⟩) ?_
          refine wPr (prNegI rfl (by omega) (by omega)) rfl ?_
          refine wVal (fun w b ⟨_, h⟩ => qsign_any _ a k w ⟨_, _, _, _, rfl, h⟩ (by omega)) rfl ?_
          refine wPr (prLt rfl rfl) rfl ?_
          refine wInt hU (fun w b ⟨h1, _⟩ => from_any _ _ (m + 1) (2 * k + 129 + 2 + 1) w h1 (by omega)) (fun x30 y30 => ?_)
          refine wDy (q := d) (k := 2 * k + 132) (K := 96 * k + 8400) (fun w b ⟨h3, _⟩ => by
            have := strip_any _ _ (-(p)) _ (4097 + 32 * k) w (hT.below b) h3 (by omega) (by omega) (by omega) (by omega)
            rw [sgn_neg, sg_tp, hfin] at this
            exact this.mono fun _ _ ⟨v, e, ⟨x, y, e', h⟩, hb⟩ => ⟨v, e, ⟨x, y, e', h.wide (by omega) (by omega)⟩, hb⟩) (fun x31 y31 => ?_)
          exact wRet fun w b ⟨h, _⟩ => ⟨_, rfl, ⟨_, _, rfl, h⟩, b⟩
        · have ex : decide (r = 0) = true := by rw [← eL]; simpa using e
          have hfin : sgr (decide (a.num < 0)) (((m : Nat) : Rat) * tp (-(p))) = d := by rw [ea, ex] at rc; simpa using rc
          refine wPr (prNegI rfl (by omega) (by omega)) rfl ?_
          refine wVal (fun w b ⟨_, h⟩ => qsign_any _ a k w ⟨_, _, _, _, rfl, h⟩ (by omega)) rfl ?_
          refine wPr (prLt rfl rfl) rfl ?_
          refine wInt hU (fun w b ⟨h1, _⟩ => from_any _ _ (m) (2 * k + 129) w h1 (by omega)) (fun x30 y30 => ?_)
          refine wDy (q := d) (k := 2 * k + 132) (K := 96 * k + 8400) (fun w b ⟨h3, _⟩ => by
            have := strip_any _ _ (-(p)) _ (4097 + 32 * k) w (hT.below b) h3 (by omega) (by omega) (by omega) (by omega)
            rw [sgn_neg, sg_tp, hfin] at this
            exact this.mono fun _ _ ⟨v, e, ⟨x, y, e', h⟩, hb⟩ => ⟨v, e, ⟨x, y, e', h.wide (by omega) (by omega)⟩, hb⟩) (fun x31 y31 => ?_)
          exact wRet fun w b ⟨h, _⟩ => ⟨_, rfl, ⟨_, _, rfl, h⟩, b⟩
      · have hfin : sgr (decide (a.num < 0)) (((m : Nat) : Rat) * tp (-(p))) = d := by rw [ea] at rc; simpa using rc
        refine wPr (prNegI rfl (by omega) (by omega)) rfl ?_
        refine wVal (fun w b ⟨_, h⟩ => qsign_any _ a k w ⟨_, _, _, _, rfl, h⟩ (by omega)) rfl ?_
        refine wPr (prLt rfl rfl) rfl ?_
        refine wInt hU (fun w b ⟨h1, _⟩ => from_any _ _ (m) (2 * k + 129) w h1 (by omega)) (fun x30 y30 => ?_)
        refine wDy (q := d) (k := 2 * k + 132) (K := 96 * k + 8400) (fun w b ⟨h3, _⟩ => by
          have := strip_any _ _ (-(p)) _ (4097 + 32 * k) w (hT.below b) h3 (by omega) (by omega) (by omega) (by omega)
          rw [sgn_neg, sg_tp, hfin] at this
          exact this.mono fun _ _ ⟨v, e, ⟨x, y, e', h⟩, hb⟩ => ⟨v, e, ⟨x, y, e', h.wide (by omega) (by omega)⟩, hb⟩) (fun x31 y31 => ?_)
        exact wRet fun w b ⟨h, _⟩ => ⟨_, rfl, ⟨_, _, rfl, h⟩, b⟩

/-- Down: the greatest of at most so many digits that is not above. -/
theorem ydown_any (v : Value) (a d : Rat) (i : Int) (bits : Nat) (k : Nat) (w : World) (hT : Tabs w) (h : RatB w v a k) (hk : k ≤ 2000) (hb : 1 ≤ bits) (hb2 : bits ≤ 4096) (hi : min (max i 1) 4096 = (bits : Int)) (hd : IsDown bits a d) :
    Calls Tryz.prog 85 #[v, .int .i64 i] w fun r w' => ∃ v', r = .returned v' ∧ DyB w' v' d (2 * k + 132) (96 * k + 8400) ∧ Below w.heap.size w w' := by
  obtain ⟨a1, b1, c1, d1, rfl, h⟩ := h
  refine go (fun w => QB w a1 b1 c1 d1 a k) [[a1, b1, c1, d1], [.int .i64 i]] [some 4, none] (tr := (.em (.call 61 [.g [.c 0 0, .c 0 1, .c 0 2, .c 0 3]] [none]) (.em (.pr (.binOp .lss 3 (.tmp 0) (.const (.int .i64 0)) 3) 4 [.s (.c 2 0), .s (.k (.int .i64 0))]) (.em (.call 123 [.g [.c 0 0, .c 0 1, .c 0 2, .c 0 3], .s (.c 1 0), .s (.c 3 0)] [some 3]) (.ret (.v (.g [.c 4 0, .c 4 1, .c 4 2]))))))) (by kernel_rfl) (by kernel_rfl) (by kernel_rfl) (mQ _ _ _ _ _ _) h ⟨qpl h, rfl, trivial⟩ ?_
  refine wVal (fun w b h => qsign_any _ a k w ⟨_, _, _, _, rfl, h⟩ (by omega)) rfl ?_
  refine wPr (prLt rfl rfl) rfl ?_
  refine wDy (fun w b h => round_any _ a d i bits _ k w (hT.below b) ⟨_, _, _, _, rfl, h⟩ hk hb hb2 hi (.inl ⟨hd, sgn_neg a.num⟩)) (fun x31 y31 => ?_)
  exact wRet fun w b ⟨h, _⟩ => ⟨_, rfl, ⟨_, _, rfl, h⟩, b⟩

theorem sgn_pos (z : Int) : decide (0 < sgnZ z) = decide (0 < z) := by
  unfold sgnZ
  by_cases h : z < 0
  · rw [if_pos h, decide_eq_false (by omega), decide_eq_false (by omega)]
  · rw [if_neg h]
    by_cases h2 : 0 < z
    · rw [if_pos h2, decide_eq_true (by omega), decide_eq_true h2]
    · rw [if_neg h2, decide_eq_false (by omega), decide_eq_false h2]

/-- Up: the least of at most so many digits that is not below. -/
theorem yup_any (v : Value) (a d : Rat) (i : Int) (bits : Nat) (k : Nat) (w : World) (hT : Tabs w) (h : RatB w v a k) (hk : k ≤ 2000) (hb : 1 ≤ bits) (hb2 : bits ≤ 4096) (hi : min (max i 1) 4096 = (bits : Int)) (hd : IsDown bits (-a) (-d)) :
    Calls Tryz.prog 87 #[v, .int .i64 i] w fun r w' => ∃ v', r = .returned v' ∧ DyB w' v' d (2 * k + 132) (96 * k + 8400) ∧ Below w.heap.size w w' := by
  obtain ⟨a1, b1, c1, d1, rfl, h⟩ := h
  refine go (fun w => QB w a1 b1 c1 d1 a k) [[a1, b1, c1, d1], [.int .i64 i]] [some 4, none] (tr := (.em (.call 61 [.g [.c 0 0, .c 0 1, .c 0 2, .c 0 3]] [none]) (.em (.pr (.binOp .gtr 3 (.tmp 0) (.const (.int .i64 0)) 3) 4 [.s (.c 2 0), .s (.k (.int .i64 0))]) (.em (.call 123 [.g [.c 0 0, .c 0 1, .c 0 2, .c 0 3], .s (.c 1 0), .s (.c 3 0)] [some 3]) (.ret (.v (.g [.c 4 0, .c 4 1, .c 4 2]))))))) (by kernel_rfl) (by kernel_rfl) (by kernel_rfl) (mQ _ _ _ _ _ _) h ⟨qpl h, rfl, trivial⟩ ?_
  refine wVal (fun w b h => qsign_any _ a k w ⟨_, _, _, _, rfl, h⟩ (by omega)) rfl ?_
  refine wPr (prGt rfl rfl) rfl ?_
  refine wDy (fun w b h => round_any _ a d i bits _ k w (hT.below b) ⟨_, _, _, _, rfl, h⟩ hk hb hb2 hi (.inr ⟨hd, sgn_pos a.num⟩)) (fun x31 y31 => ?_)
  exact wRet fun w b ⟨h, _⟩ => ⟨_, rfl, ⟨_, _, rfl, h⟩, b⟩

end Go.Proofs.YtfohgkabmdhhaaaGreatDoor
/- What the laws of dyadic numbers have in common: alive, num. -/
namespace Go.Proofs.YtfohgkabmdhhaaaGreatDoor
open Go.RowKit Cin

/-- 1/3. -/
def S13 : ByteArray := ⟨#[49, 47, 51]⟩
theorem s13_at : slashAt S13 = 1 := by decide
theorem s13_n : byts (nPart S13) = [49] := by unfold nPart; rw [byts_extract, s13_at]; rfl
theorem s13_d : byts (dPart S13) = [51] := by unfold dPart; rw [byts_extract, s13_at]; rfl
theorem s13_neg : negT (nPart S13) = false := by
  unfold negT
  rw [← byts_length, s13_n]; rfl
theorem s13_dig : byts (digT (nPart S13)) = [49] := by unfold digT; rw [if_neg (by rw [s13_neg]; decide), s13_n]
theorem s13_int : IsInt (nPart S13) ∧ intVal (nPart S13) = 1 := by
  refine ⟨⟨by rw [s13_dig]; exact isNum_one (by decide), fun h => by rw [s13_neg] at h; cases h⟩, ?_⟩
  unfold intVal
  rw [s13_neg, s13_dig]; rfl
theorem s13_ok : RatOk S13 := .inr ⟨by rw [s13_at]; decide, s13_int.1, by rw [s13_d]; exact isNum_one (by decide), by rw [s13_d]; decide, by rw [s13_d, s13_int.2]; decide⟩
theorem s13_val : ratVal S13 = 1 / 3 := by
  unfold ratVal
  rw [if_neg (by rw [s13_at]; decide), s13_d, s13_int.2, Rat.mkRat_eq_div]; rfl
theorem tp_m3 : tp (-3) = 1 / 8 := by
  have h := two_neg 3
  have h8 : tp 3 = 8 := by rw [show (3 : Int) = ((3 : Nat) : Int) from rfl, two_nat]; rfl
  rw [h8] at h
  grind
theorem tp_m2 : tp (-3 + ((2 - 1 : Nat) : Int)) = 1 / 4 := by
  rw [two_add, tp_m3, show (((2 - 1 : Nat) : Int)) = 1 from rfl, two_one]
  grind
theorem third_down : IsDown 2 (ratVal S13) (1 / 4) := by
  have e : ((2 : Int) : Rat) * tp (-3) = 1 / 4 := by
    rw [tp_m3]
    have : ((2 : Int) : Rat) = 2 := rfl
    rw [this]; grind
  rw [s13_val, ← e]
  refine down_of (by decide) (by rw [e]; grind) ?_ (.inl (by rw [tp_m2]; grind)) ⟨2, -3, rfl, by decide⟩
  rw [tp_m3]
  have : ((2 + 1 : Int) : Rat) = 3 := rfl
  rw [this]; grind
theorem third_up : IsDown 2 (-ratVal S13) (-(3 / 8)) := by
  have e : ((-3 : Int) : Rat) * tp (-3) = -(3 / 8) := by
    rw [tp_m3]
    have : ((-3 : Int) : Rat) = -3 := rfl
    rw [this]; grind
  rw [s13_val, ← e]
  refine down_of (by decide) (by rw [e]; grind) ?_ (.inr (by rw [tp_m2]; grind)) ⟨-3, -3, rfl, by decide⟩
  rw [tp_m3]
  have : ((-3 + 1 : Int) : Rat) = -2 := rfl
  rw [this]; grind
theorem text14 : ratS (1 / 4) = ⟨#[49, 47, 52]⟩ := by
  obtain ⟨e1, e2⟩ := rat_of (q := 1 / 4) (n := 1) (d := 4) (by decide) (by decide) (by rw [Rat.mkRat_eq_div]; rfl)
  unfold ratS
  rw [e1, e2, if_neg (by decide)]
  have e1 := intS_dig (n := 1) (by decide)
  have e4 := intS_dig (n := 4) (by decide)
  simp only [Int.natCast_one] at e1
  rw [e1, e4]
  rfl
theorem text38 : ratS (3 / 8) = ⟨#[51, 47, 56]⟩ := by
  obtain ⟨e1, e2⟩ := rat_of (q := 3 / 8) (n := 3) (d := 8) (by decide) (by decide) (by rw [Rat.mkRat_eq_div]; rfl)
  unfold ratS
  rw [e1, e2, if_neg (by decide)]
  have e3 := intS_dig (n := 3) (by decide)
  have e8 := intS_dig (n := 8) (by decide)
  have c : ((3 : Nat) : Int) = 3 := rfl
  rw [c] at e3
  rw [e3, e8]
  rfl

/-- A text that num takes. -/
def NumD (a : ByteArray) : Prop := NumQ a ∧ DyOk (ratVal a)
theorem odd_le (q : Rat) : (oddOf q).natAbs ≤ q.num.natAbs := by
  have := Nat.div_le_self q.num.natAbs (2 ^ tzOf q.num.natAbs)
  unfold oddOf
  generalize q.num.natAbs / 2 ^ tzOf q.num.natAbs = t at *
  split <;> omega
theorem DyQ.cut {w : World} {x y : Value} {q : Rat} {k K j : Nat} (h : DyQ w x y q k K) (hn : q.num.natAbs < pw j) (hd : q.den < pw j) : DyQ w x y q j (32 * j) := by
  have t1 := tz_pw hn
  have t2 := tz_pw hd
  refine ⟨⟨h.1.1, Nat.lt_of_le_of_lt (odd_le q) hn⟩, h.2.1, ?_, ?_⟩ <;> rw [exp_num] <;> omega
/-- Both, and a value. -/
theorem wYD {w0 : World} {Post : Ending → World → Prop} {F : World → Prop} {L : LC} {E : Env} {tr : Tr} {f : FuncId} {ar : List V1} {args : Array Value} {q : Rat} {k K m : Nat} {c : Value}
    (hc : ∀ w, Below w0.heap.size w0 w → F w → Calls Tryz.prog f args w fun e w' => ∃ v u, e = .returned (.tuple #[v, u, c]) ∧ DyB w' v q k K ∧ DRatB w' u q m ∧ Below w.heap.size w w') (hv : c.oneCell' = true)
    {E' : Value → Value → Value → Value → Value → Env} (hk : ∀ a b a' b' d', Wk Tryz.prog w0 DD DD Post L (fun w => DyQ w a b q k K ∧ DQ w a' b' d' q m ∧ F w) tr (E' a b a' b' d')) (ha : (ar.map (V1.den [] E)).toArray = args := by rfl)
    (hE : ∀ a b a' b' d', E ++ [[a, b, .int .i64 (expOf q), a', b', d', c]] = E' a b a' b' d' := by intros; (simp only [List.cons_append, List.nil_append]) <;> exact rfl) : Wk Tryz.prog w0 DD DD Post L F (.em (.call f ar [some 3, some 3, none]) tr) E := by
  intro hm u hF w e b
  subst ha
  refine (hc w b (hm u w e hF)).mono ?_
  rintro e1 w' ⟨v, u, rfl, ⟨a, b, rfl, h1⟩, ⟨a', b', d', rfl, h2⟩, h4⟩
  have p := ipl h1.1
  have p' := dpl h2
  simp only [List.all_cons, List.all_nil, Bool.and_true, Bool.and_eq_true] at p p'
  exact ⟨[a, b, .int .i64 (expOf q), a', b', d', c], rfl, by simp only [List.all_cons, List.all_nil, Bool.and_true, Bool.and_eq_true]; exact ⟨p.1, p.2, rfl, p'.1, p'.2.1, p'.2.2, hv⟩, h4, hE _ _ _ _ _ ▸ hk _ _ _ _ _ ((mY _ _ _ _ _).and ((mD _ _ _ _ _).and hm)) w' ⟨h1, h2, hm u w' (e.below h4) hF⟩⟩

theorem len_le {s : ByteArray} (h : s.size ≤ maxLen) : s.size ≤ 9223372036854775807 := Nat.le_trans h (by unfold maxLen; omega)
theorem cmpQ_self (x : Rat) : cmpQ x x = 0 := by unfold cmpQ; rw [if_neg Rat.lt_irrefl, if_neg Rat.lt_irrefl]
/-- Where a text is none, alive alone is asked. -/
def ZeroD : List Value := [.bool false, .slice none 0 0, .int .i64 0, .bool false, .slice none 0 0, .slice none 0 0, .bool false]

end Go.Proofs.YtfohgkabmdhhaaaGreatDoor
