/- Texts of small numbers; alive of the laws of boxes. -/
import Derived.Test.YtkekgmdofgkbcaaGreatDoorYx
import Derived.Test.YtkekgmdofgkbcaaGreatDoorYu
import Derived.ChangeSame
import Derived.ChangeMaps5
import Derived.Deep.SlicePairs
import Derived.Carry
namespace Go.Proofs.YtkekgmdofgkbcaaGreatDoor
open Go.RowKit Cin
theorem lit_ok {s : ByteArray} {c : Nat} {z : Int} (hb : byts (digT s) = [c]) (hn : negT s = true → decL (byts (digT s)) ≠ 0) (hsl : slashAt s < 0) (hc : 48 ≤ c ∧ c ≤ 57) (hz : intVal s = z) : RatOk s ∧ ratVal s = (z : Rat) := by
  refine ⟨.inl ⟨hsl, ⟨by rw [hb]; exact isNum_one hc, hn⟩⟩, ?_⟩
  unfold ratVal
  rw [if_pos hsl, hz, Rat.mkRat_one]
theorem m1_d : byts (digT ⟨#[45, 49]⟩) = [49] := by
  have h : negT ⟨#[45, 49]⟩ = true := by decide
  unfold digT
  rw [if_pos h, byts_tl]; decide
theorem lit_0 : RatOk ⟨#[48]⟩ ∧ ratVal ⟨#[48]⟩ = ((0 : Int) : Rat) := lit_ok (c := 48) (by decide) (fun h => by have : negT ⟨#[48]⟩ = false := (by decide); rw [this] at h; cases h) (by decide) (by decide) (by decide)
theorem lit_1 : RatOk ⟨#[49]⟩ ∧ ratVal ⟨#[49]⟩ = ((1 : Int) : Rat) := lit_ok (c := 49) (by decide) (fun h => by have : negT ⟨#[49]⟩ = false := (by decide); rw [this] at h; cases h) (by decide) (by decide) (by decide)
theorem lit_2 : RatOk ⟨#[50]⟩ ∧ ratVal ⟨#[50]⟩ = ((2 : Int) : Rat) := lit_ok (c := 50) (by decide) (fun h => by have : negT ⟨#[50]⟩ = false := (by decide); rw [this] at h; cases h) (by decide) (by decide) (by decide)
theorem lit_m1 : RatOk ⟨#[45, 49]⟩ ∧ ratVal ⟨#[45, 49]⟩ = ((-1 : Int) : Rat) := lit_ok (c := 49) m1_d (fun _ => by rw [m1_d]; decide) (by decide) (by decide) (by unfold intVal; rw [m1_d]; decide)
theorem side_lit {s r : ByteArray} {x y : Int} (h : RatOk s ∧ ratVal s = (x : Rat)) (h' : RatOk r ∧ ratVal r = (y : Rat)) (hl : x < y) : sideC (s, r) = 0 := by
  have hlt : (x : Rat) < (y : Rat) := Rat.intCast_lt_intCast.2 hl
  have hsp : SpOk s r := ⟨h.1, h'.1, by rw [h.2, h'.2]; grind⟩
  have d : ∀ z : Int, DyOk (z : Rat) := fun z => by unfold DyOk; rw [show ((z : Rat).den) = 1 from rfl]; decide
  unfold sideC
  rw [if_pos hsp, if_neg (by show ¬ ratVal r ≤ ratVal s; rw [h.2, h'.2]; grind), if_pos (by show DyOk (ratVal s); rw [h.2]; exact d _), if_pos (by show DyOk (ratVal r); rw [h'.2]; exact d _)]
abbrev alT : List (ByteArray × ByteArray) := [(⟨#[48]⟩, ⟨#[49]⟩), (⟨#[45, 49]⟩, ⟨#[50]⟩)]
theorem alT_ok : boxC alT = 0 := by
  unfold boxC
  rw [if_neg (by decide)]
  refine firstC_zero.2 fun t ht => ?_
  simp only [List.mem_cons, List.not_mem_nil, or_false] at ht
  rcases ht with rfl | rfl
  · exact side_lit lit_0 lit_1 (by decide)
  · exact side_lit lit_m1 lit_2 (by decide)
theorem alT_wd : IsWd (valsB alT) 1 := by
  refine .inl ⟨vals_right alT_ok, 1, rfl, ?_⟩
  have e : valsB alT = [(((0 : Int) : Rat), ((1 : Int) : Rat)), (((-1 : Int) : Rat), ((2 : Int) : Rat))] := by
    simp only [valsB, List.map_cons, List.map_nil, lit_0.2, lit_1.2, lit_2.2, lit_m1.2]
  rw [e]
  have w0 : wAt [(((0 : Int) : Rat), ((1 : Int) : Rat)), (((-1 : Int) : Rat), ((2 : Int) : Rat))] 0 = 1 := by simp [wAt]; grind
  have w1 : wAt [(((0 : Int) : Rat), ((1 : Int) : Rat)), (((-1 : Int) : Rat), ((2 : Int) : Rat))] 1 = 3 := by simp [wAt]; grind
  refine (IsFM.one _).new ?_
  rw [w0, w1]; decide
def DL : TypeId → Bool := fun t => t == 190 || t == 95 || t == 92 || t == 62 || t == 54
theorem alive6_ct : Ct Tryz.prog JT 9 [] [] [none] (fun _ => [.ro false (pV (.bool true))]) := by
  have hf : Fits alT := fun t ht => by
    simp only [List.mem_cons, List.not_mem_nil, or_false] at ht
    rcases ht with rfl | rfl <;> exact ⟨by decide, by decide⟩
  refine aCt (D := DL) hMix (tr := (.em (.wx (.buildSlice 22 2 #[(0, .tmp 0), (1, .tmp 1)]) 22 [.g [.k (.string ⟨#[48]⟩), .k (.string ⟨#[49]⟩)], .g [.k (.string ⟨#[45, 49]⟩), .k (.string ⟨#[50]⟩)]] (some none)) (.em (.call 11 [.s (.c 0 0)] [none, none]) (.em (.pr (.binOp .eql 27 (.tmp 0) (.const (.int .i64 0)) 27) 4 [.s (.c 1 1), .s (.k (.int .i64 0))]) (.cond (.c 2 0) (.em (.pr (.call (.mk (.builtin .len) #[.tmp 0] #[26])) 3 [.s (.c 1 0)]) (.em (.pr (.binOp .eql 3 (.tmp 0) (.const (.int .i64 2)) 3) 4 [.s (.c 3 0), .s (.k (.int .i64 2))]) (.cond (.c 4 0) (.em (.call 15 [.s (.c 1 0)] [none]) (.cond (.c 5 0) (.em (.call 21 [.s (.c 1 0)] [none]) (.em (.pr (.binOp .eql 3 (.tmp 0) (.const (.int .i64 1)) 3) 4 [.s (.c 6 0), .s (.k (.int .i64 1))]) (.ret (.v (.s (.c 7 0)))))) (.ret (.v (.s (.k (.bool false))))))) (.ret (.v (.s (.k (.bool false)))))))) (.ret (.v (.s (.k (.bool false)))))))))) (by kernel_rfl) (by kernel_rfl) (by kernel_rfl) rfl (fun w0 => ?_)
  refine aBuild pairR rfl (fun g0 => ?_)
  refine aCall rfl (parse_ct alT hf alT_ok) (fun γ => ?_)
  refine aPr rfl (prEq rfl rfl) rfl ?_
  refine aTrue rfl ?_
  refine aLen rfl (n := 2) rfl ?_
  refine aPr rfl (prEq rfl rfl) rfl ?_
  refine aTrue rfl ?_
  refine aCall rfl (right_ct (valsB alT) 500) (fun γ => ?_)
  rw [vals_right alT_ok]
  refine aTrue rfl ?_
  refine aCall rfl (widest_ct (valsB alT) 500 1 alT_wd) (fun γ => ?_)
  refine aPr rfl (prEq rfl rfl) rfl ?_
  exact aRet (fun _ => 0) rfl rfl rfl
end Go.Proofs.YtkekgmdofgkbcaaGreatDoor

namespace Go.Proofs.YtkekgmdofgkbcaaGreatDoor
open Go.RowKit Cin
theorem rowC_B {ss : List (Rat × Rat)} {k j : Nat} (h : k ≤ j) : RowC spanR (rowsB ss k) (rowsB ss j) := ⟨by simp, fun i row row' h1 h2 hf => by
  simp only [List.getElem?_map] at h1 h2
  cases hi : ss[i]? with
  | none => rw [hi] at h1; cases h1
  | some s =>
    rw [hi] at h1 h2
    cases h1
    cases h2
    refine ⟨fit_of rfl, fun l w x ⟨c1, c2, e, h1, c3, c4, e2, h2, h3⟩ => ⟨c1, c2, e, pQ_mono h h1, c3, c4, e2, pQ_mono h h2, h3⟩⟩⟩
theorem rowC_D {ss : List (Rat × Rat)} {k j : Nat} (h : k ≤ j) : RowC dspanR (rowsD ss k) (rowsD ss j) := ⟨by simp, fun i row row' h1 h2 hf => by
  simp only [List.getElem?_map] at h1 h2
  cases hi : ss[i]? with
  | none => rw [hi] at h1; cases h1
  | some s =>
    rw [hi] at h1 h2
    cases h1
    cases h2
    refine ⟨fit_of rfl, fun l w x ⟨c1, c2, e, h1, c3, c4, e2, h2, h3⟩ => ⟨c1, c2, e, pD_mono h h1, c3, c4, e2, pD_mono h h2, h3⟩⟩⟩
def loB (ss : List (Rat × Rat)) (i : Nat) : List (Rat × Rat) := ss.modify i fun s => (s.1, (s.1 + s.2) / 2)
def hiB (ss : List (Rat × Rat)) (i : Nat) : List (Rat × Rat) := ss.modify i fun s => ((s.1 + s.2) / 2, s.2)
theorem map_modify {α β : Type} (f : α → β) (h : α → α) {l : List α} {i : Nat} {x : α} (hx : l[i]? = some x) : (l.map f).set i (f (h x)) = (l.modify i h).map f := by
  refine List.ext_getElem? fun j => ?_
  have hlt := (List.getElem?_eq_some_iff.1 hx).1
  rw [List.getElem?_set, List.getElem?_map, List.getElem?_map, List.getElem?_modify]
  by_cases e : i = j
  · subst e; simp [hlt, (List.getElem?_eq_some_iff.1 hx).2]
  · simp [e]
theorem low_set {ss : List (Rat × Rat)} {i k : Nat} {s : Rat × Rat} (h : ss[i]? = some s) : (rowsB ss k).set i [pQ s.1 k, pQ ((s.1 + s.2) / 2) k] = rowsB (loB ss i) k := map_modify (fun s : Rat × Rat => [pQ s.1 k, pQ s.2 k]) (fun s => (s.1, (s.1 + s.2) / 2)) h
theorem high_set {ss : List (Rat × Rat)} {i k : Nat} {s : Rat × Rat} (h : ss[i]? = some s) : (rowsB ss k).set i [pQ ((s.1 + s.2) / 2) k, pQ s.2 k] = rowsB (hiB ss i) k := map_modify (fun s : Rat × Rat => [pQ s.1 k, pQ s.2 k]) (fun s => ((s.1 + s.2) / 2, s.2)) h
theorem dlow_set {ss : List (Rat × Rat)} {i k : Nat} {s : Rat × Rat} (h : ss[i]? = some s) : (rowsD ss k).set i [pD s.1 k, pD ((s.1 + s.2) / 2) k] = rowsD (loB ss i) k := map_modify (fun s : Rat × Rat => [pD s.1 k, pD s.2 k]) (fun s => (s.1, (s.1 + s.2) / 2)) h
theorem dhigh_set {ss : List (Rat × Rat)} {i k : Nat} {s : Rat × Rat} (h : ss[i]? = some s) : (rowsD ss k).set i [pD ((s.1 + s.2) / 2) k, pD s.2 k] = rowsD (hiB ss i) k := map_modify (fun s : Rat × Rat => [pD s.1 k, pD s.2 k]) (fun s => ((s.1 + s.2) / 2, s.2)) h
theorem splitN_ct (ss : List (Rat × Rat)) (k : Nat) (i : Int) (h : ¬ (rightB ss = true ∧ 0 ≤ i ∧ i < ss.length)) (hk : k ≤ 90000 := by omega) : Ct Tryz.prog JT 19 [none, none] [[pBox ss k], [pV (.int .i64 i)]] [none, none, none] (fun _ => [.ro false (pV (.slice none 0 0)), .ro false (pV (.slice none 0 0)), .ro false (pV (.bool false))]) := by
  refine aCt (D := DS) hMix (tr := (.em (.call 15 [.s (.c 0 0)] [none]) (.em (.pr (.unOp .not 4 (.tmp 0)) 4 [.s (.c 2 0)]) (.cond (.c 3 0) (.ret (.t [.s (.k (.slice none 0 0)), .s (.k (.slice none 0 0)), .s (.k (.bool false))])) (.em (.pr (.binOp .lss 3 (.tmp 0) (.const (.int .i64 0)) 3) 4 [.s (.c 1 0), .s (.k (.int .i64 0))]) (.cond (.c 4 0) (.ret (.t [.s (.k (.slice none 0 0)), .s (.k (.slice none 0 0)), .s (.k (.bool false))])) (.em (.pr (.call (.mk (.builtin .len) #[.tmp 0] #[26])) 3 [.s (.c 0 0)]) (.em (.pr (.binOp .geq 3 (.tmp 0) (.tmp 1) 3) 4 [.s (.c 1 0), .s (.c 5 0)]) (.cond (.c 6 0) (.ret (.t [.s (.k (.slice none 0 0)), .s (.k (.slice none 0 0)), .s (.k (.bool false))])) (.em (.call 50 [.s (.c 0 0)] [none]) (.em (.call 50 [.s (.c 0 0)] [none]) (.em (.pr (.indexAddr 26 (.tmp 0) (.tmp 1)) 0 [.s (.c 0 0), .s (.c 1 0)]) (.em (.pr (.indexAddr 26 (.tmp 0) (.tmp 1)) 0 [.s (.c 0 0), .s (.c 1 0)]) (.em (.ld (.load 92 (.tmp 0)) 92 [.s (.c 9 0)] (some 8)) (.em (.ld (.load 92 (.tmp 0)) 92 [.s (.c 10 0)] (some 8)) (.em (.call 51 [.g [.c 11 0, .c 11 1, .c 11 2, .c 11 3, .c 11 4, .c 11 5, .c 11 6, .c 11 7]] [some 4]) (.em (.call 51 [.g [.c 12 0, .c 12 1, .c 12 2, .c 12 3, .c 12 4, .c 12 5, .c 12 6, .c 12 7]] [some 4]) (.em (.pr (.indexAddr 26 (.tmp 0) (.tmp 1)) 0 [.s (.c 7 0), .s (.c 1 0)]) (.em (.pr (.fieldAddr 92 (.tmp 0) 1) 0 [.s (.c 15 0)]) (.em (.wx (.store 54 (.tmp 0) (.tmp 1)) 0 [.s (.c 16 0), .g [.c 13 0, .c 13 1, .c 13 2, .c 13 3]] none) (.em (.pr (.indexAddr 26 (.tmp 0) (.tmp 1)) 0 [.s (.c 8 0), .s (.c 1 0)]) (.em (.pr (.fieldAddr 92 (.tmp 0) 0) 0 [.s (.c 18 0)]) (.em (.wx (.store 54 (.tmp 0) (.tmp 1)) 0 [.s (.c 19 0), .g [.c 14 0, .c 14 1, .c 14 2, .c 14 3]] none) (.ret (.t [.s (.c 7 0), .s (.c 8 0), .s (.k (.bool true))]))))))))))))))))))))))))) (by kernel_rfl) (by kernel_rfl) (by kernel_rfl) rfl (fun w0 => ?_)
  refine aCall rfl (right_ct _ _) (fun γ => ?_)
  refine aPr rfl (prNot rfl) rfl ?_
  refine aIf rfl (fun h1 => ?_) (fun h1 => ?_)
  · exact aRet (fun _ => 0) rfl rfl rfl
  · refine aPr rfl (prLt rfl rfl) rfl ?_
    refine aIf rfl (fun h2 => ?_) (fun h2 => ?_)
    · exact aRet (fun _ => 0) rfl rfl rfl
    · refine aLen rfl (List.length_map _) ?_
      refine aPr rfl (prGe rfl rfl) rfl ?_
      refine aIf rfl (fun h3 => ?_) (fun h3 => ?_)
      · exact aRet (fun _ => 0) rfl rfl rfl
      · exact absurd ⟨not_eq' h1, by simpa using h2, by simpa using h3⟩ h
theorem split_ct (ss : List (Rat × Rat)) (k i : Nat) (hr : rightB ss = true) (hi : i < ss.length) (hk : k ≤ 90000 := by omega) : Ct Tryz.prog JT 19 [none, none] [[pBox ss k], [pV (.int .i64 i)]] [none, none, none]
    (fun γ => [.own (γ 0) spanR (rowsB (loB ss i) (k + k + 1 + 2)), .own (γ 1) spanR (rowsB (hiB ss i) (k + k + 1 + 2)), .ro false (pV (.bool true))]) := by
  have hl := right_pos hr
  obtain ⟨s, he⟩ := at_some hi
  refine aCt (D := DS) hMix (tr := (.em (.call 15 [.s (.c 0 0)] [none]) (.em (.pr (.unOp .not 4 (.tmp 0)) 4 [.s (.c 2 0)]) (.cond (.c 3 0) (.ret (.t [.s (.k (.slice none 0 0)), .s (.k (.slice none 0 0)), .s (.k (.bool false))])) (.em (.pr (.binOp .lss 3 (.tmp 0) (.const (.int .i64 0)) 3) 4 [.s (.c 1 0), .s (.k (.int .i64 0))]) (.cond (.c 4 0) (.ret (.t [.s (.k (.slice none 0 0)), .s (.k (.slice none 0 0)), .s (.k (.bool false))])) (.em (.pr (.call (.mk (.builtin .len) #[.tmp 0] #[26])) 3 [.s (.c 0 0)]) (.em (.pr (.binOp .geq 3 (.tmp 0) (.tmp 1) 3) 4 [.s (.c 1 0), .s (.c 5 0)]) (.cond (.c 6 0) (.ret (.t [.s (.k (.slice none 0 0)), .s (.k (.slice none 0 0)), .s (.k (.bool false))])) (.em (.call 50 [.s (.c 0 0)] [none]) (.em (.call 50 [.s (.c 0 0)] [none]) (.em (.pr (.indexAddr 26 (.tmp 0) (.tmp 1)) 0 [.s (.c 0 0), .s (.c 1 0)]) (.em (.pr (.indexAddr 26 (.tmp 0) (.tmp 1)) 0 [.s (.c 0 0), .s (.c 1 0)]) (.em (.ld (.load 92 (.tmp 0)) 92 [.s (.c 9 0)] (some 8)) (.em (.ld (.load 92 (.tmp 0)) 92 [.s (.c 10 0)] (some 8)) (.em (.call 51 [.g [.c 11 0, .c 11 1, .c 11 2, .c 11 3, .c 11 4, .c 11 5, .c 11 6, .c 11 7]] [some 4]) (.em (.call 51 [.g [.c 12 0, .c 12 1, .c 12 2, .c 12 3, .c 12 4, .c 12 5, .c 12 6, .c 12 7]] [some 4]) (.em (.pr (.indexAddr 26 (.tmp 0) (.tmp 1)) 0 [.s (.c 7 0), .s (.c 1 0)]) (.em (.pr (.fieldAddr 92 (.tmp 0) 1) 0 [.s (.c 15 0)]) (.em (.wx (.store 54 (.tmp 0) (.tmp 1)) 0 [.s (.c 16 0), .g [.c 13 0, .c 13 1, .c 13 2, .c 13 3]] none) (.em (.pr (.indexAddr 26 (.tmp 0) (.tmp 1)) 0 [.s (.c 8 0), .s (.c 1 0)]) (.em (.pr (.fieldAddr 92 (.tmp 0) 0) 0 [.s (.c 18 0)]) (.em (.wx (.store 54 (.tmp 0) (.tmp 1)) 0 [.s (.c 19 0), .g [.c 14 0, .c 14 1, .c 14 2, .c 14 3]] none) (.ret (.t [.s (.c 7 0), .s (.c 8 0), .s (.k (.bool true))]))))))))))))))))))))))))) (by kernel_rfl) (by kernel_rfl) (by kernel_rfl) rfl (fun w0 => ?_)
  refine aCall rfl (right_ct _ _) (fun γ => ?_)
  rw [hr]
  refine aPr rfl (prNot rfl) rfl ?_
  refine aFalse rfl ?_
  refine aPr rfl (prLt rfl rfl) rfl ?_
  rw [decide_eq_false (by omega)]
  refine aFalse rfl ?_
  refine aLen rfl (List.length_map _) ?_
  refine aPr rfl (prGe rfl rfl) rfl ?_
  rw [decide_eq_false (by omega)]
  refine aFalse rfl ?_
  refine aCall rfl (bfresh_ct _ _ (by omega)) (fun γ7 => ?_)
  refine aConv 7 [.own (γ7 0) spanR (rowsB ss (k + k + 1 + 2))] rfl (ConvS.ownC (rowC_B (by omega)) ConvS.nil) ?_
  refine aCall rfl (bfresh_ct _ _ (by omega)) (fun γ8 => ?_)
  refine aConv 8 [.own (γ8 0) spanR (rowsB ss (k + k + 1 + 2))] rfl (ConvS.ownC (rowC_B (by omega)) ConvS.nil) ?_
  refine aIdx rfl rfl (fun _ => rfl) (by omega) (row_at he) ?_
  refine aIdx rfl rfl (fun _ => rfl) (by omega) (row_at he) ?_
  refine aLd rfl rfl rfl ?_
  refine aLd rfl rfl rfl ?_
  refine aCall rfl (mid5_ct _ _ _) (fun γ => ?_)
  refine aCall rfl (mid5_ct _ _ _) (fun γ => ?_)
  refine aIdxO rfl rfl (fun _ => rfl) (by omega) (by simp; omega) ?_
  refine aFieldK (off := 4) rfl (by kernel_rfl) ?_
  refine aStore 7 0 i 4 rfl rfl rfl rfl (row_at he) (by show _ = i * 8 + 4; rfl) rfl rfl ?_
  rw [low_set he]
  refine aIdxO rfl rfl (fun _ => rfl) (by omega) (by simp; omega) ?_
  refine aFieldK (off := 0) rfl (by kernel_rfl) ?_
  refine aStore 8 0 i 0 rfl rfl rfl rfl (row_at he) (by show _ = i * 8 + 0; rfl) rfl rfl ?_
  rw [high_set he]
  exact aRet (fun n => bif Nat.beq n 0 then γ7 0 else γ8 0) rfl rfl rfl
theorem dsplit_ct (ss : List (Rat × Rat)) (k i : Nat) (hl : ss.length ≤ 1000) (hi : i < ss.length) (hk : k ≤ 200 := by omega) : Ct Tryz.prog JT 25 [none, none] [[pBoxD ss k], [pV (.int .i64 i)]] [none, none]
    (fun γ => [.own (γ 0) dspanR (rowsD (loB ss i) (k + k + (k + k) + 1 + 1)), .own (γ 1) dspanR (rowsD (hiB ss i) (k + k + (k + k) + 1 + 1))]) := by
  obtain ⟨s, he⟩ := at_some hi
  refine aCt (D := DDS) hMix (tr := (.em (.wx (.call (.mk (.builtin .append) #[.const (.slice none 0 0), .tmp 1] #[30, 30])) 30 [.s (.k (.slice none 0 0)), .s (.c 0 0)] (some none)) (.em (.wx (.call (.mk (.builtin .append) #[.const (.slice none 0 0), .tmp 1] #[30, 30])) 30 [.s (.k (.slice none 0 0)), .s (.c 0 0)] (some none)) (.em (.pr (.indexAddr 30 (.tmp 0) (.tmp 1)) 0 [.s (.c 0 0), .s (.c 1 0)]) (.em (.ld (.load 62 (.tmp 0)) 62 [.s (.c 4 0)] (some 6)) (.em (.call 24 [.g [.c 5 0, .c 5 1, .c 5 2, .c 5 3, .c 5 4, .c 5 5]] [some 3]) (.em (.pr (.indexAddr 30 (.tmp 0) (.tmp 1)) 0 [.s (.c 2 0), .s (.c 1 0)]) (.em (.pr (.fieldAddr 62 (.tmp 0) 1) 0 [.s (.c 7 0)]) (.em (.wx (.store 59 (.tmp 0) (.tmp 1)) 0 [.s (.c 8 0), .g [.c 6 0, .c 6 1, .c 6 2]] none) (.em (.pr (.indexAddr 30 (.tmp 0) (.tmp 1)) 0 [.s (.c 3 0), .s (.c 1 0)]) (.em (.pr (.fieldAddr 62 (.tmp 0) 0) 0 [.s (.c 10 0)]) (.em (.wx (.store 59 (.tmp 0) (.tmp 1)) 0 [.s (.c 11 0), .g [.c 6 0, .c 6 1, .c 6 2]] none) (.ret (.t [.s (.c 2 0), .s (.c 3 0)])))))))))))))) (by kernel_rfl) (by kernel_rfl) (by kernel_rfl) rfl (fun w0 => ?_)
  refine aAppend0 rfl (zs := ZeroT) (by simp; omega) (fun g2 => ?_)
  refine aConv 2 [.own g2 dspanR (rowsD ss (k + k + (k + k) + 1 + 1))] rfl (ConvS.ownC (rowC_D (by omega)) ConvS.nil) ?_
  refine aAppend0 rfl (zs := ZeroT) (by simp; omega) (fun g3 => ?_)
  refine aConv 3 [.own g3 dspanR (rowsD ss (k + k + (k + k) + 1 + 1))] rfl (ConvS.ownC (rowC_D (by omega)) ConvS.nil) ?_
  refine aIdx rfl rfl (fun _ => rfl) (by omega) (rowD_at he) ?_
  refine aLd rfl rfl rfl ?_
  refine aCall rfl (dmid5_ct _ _ _) (fun γ => ?_)
  refine aIdxO rfl rfl (fun _ => rfl) (by omega) (by simp; omega) ?_
  refine aFieldK (off := 3) rfl (by kernel_rfl) ?_
  refine aStore 2 0 i 3 rfl rfl rfl rfl (rowD_at he) (by show _ = i * 6 + 3; rfl) rfl rfl ?_
  rw [dlow_set he]
  refine aIdxO rfl rfl (fun _ => rfl) (by omega) (by simp; omega) ?_
  refine aFieldK (off := 0) rfl (by kernel_rfl) ?_
  refine aStore 3 0 i 0 rfl rfl rfl rfl (rowD_at he) (by show _ = i * 6 + 0; rfl) rfl rfl ?_
  rw [dhigh_set he]
  exact aRet (fun n => bif Nat.beq n 0 then g2 else g3) rfl rfl rfl
theorem dwidest_ct (ss : List (Rat × Rat)) (k : Nat) (z : Int) (hz : IsWd ss z) (hk : k ≤ 200 := by omega) : Ct Tryz.prog JT 22 [none] [[pBoxD ss k]] [none] (fun _ => [.ro false (pV (.int .i64 z))]) := by
  refine aCt (D := DD) hMix (tr := (.em (.call 18 [.s (.c 0 0)] [none]) (.em (.pr (.unOp .not 4 (.tmp 0)) 4 [.s (.c 1 0)]) (.cond (.c 2 0) (.ret (.v (.s (.k (.int .i64 (Int.negSucc 0)))))) (.loop 0 [.k (.int .i64 0), .k (.int .i64 1)] (.em (.pr (.call (.mk (.builtin .len) #[.tmp 0] #[30])) 3 [.s (.c 0 0)]) (.em (.pr (.binOp .lss 3 (.tmp 0) (.tmp 1) 3) 4 [.s (.c 3 1), .s (.c 4 0)]) (.cond (.c 5 0) (.em (.pr (.indexAddr 30 (.tmp 0) (.tmp 1)) 0 [.s (.c 0 0), .s (.c 3 1)]) (.em (.pr (.indexAddr 30 (.tmp 0) (.tmp 1)) 0 [.s (.c 0 0), .s (.c 3 0)]) (.em (.ld (.load 62 (.tmp 0)) 62 [.s (.c 6 0)] (some 6)) (.em (.ld (.load 62 (.tmp 0)) 62 [.s (.c 7 0)] (some 6)) (.em (.call 52 [.g [.c 8 0, .c 8 1, .c 8 2, .c 8 3, .c 8 4, .c 8 5]] [some 3]) (.em (.call 52 [.g [.c 9 0, .c 9 1, .c 9 2, .c 9 3, .c 9 4, .c 9 5]] [some 3]) (.em (.call 45 [.g [.c 10 0, .c 10 1, .c 10 2], .g [.c 11 0, .c 11 1, .c 11 2]] [none]) (.em (.pr (.binOp .gtr 3 (.tmp 0) (.const (.int .i64 0)) 3) 4 [.s (.c 12 0), .s (.k (.int .i64 0))]) (.cond (.c 13 0) (.em (.pr (.binOp .add 3 (.tmp 0) (.const (.int .i64 1)) 3) 3 [.s (.c 3 1), .s (.k (.int .i64 1))]) (.back 0 [.c 3 1, .c 14 0])) (.em (.pr (.binOp .add 3 (.tmp 0) (.const (.int .i64 1)) 3) 3 [.s (.c 3 1), .s (.k (.int .i64 1))]) (.back 0 [.c 3 0, .c 14 0]))))))))))) (.ret (.v (.s (.c 3 0)))))))))))) (by kernel_rfl) (by kernel_rfl) (by kernel_rfl) rfl (fun w0 => ?_)
  refine aCall rfl (dright_ct _ _) (fun γ => ?_)
  refine aPr rfl (prNot rfl) rfl ?_
  refine aIf rfl (fun h1 => ?_) (fun h1 => ?_)
  · have hz1 : z = -1 := by
      rcases hz with ⟨h, _⟩ | ⟨_, h⟩
      · rw [not_eq h1] at h; cases h
      · exact h
    subst hz1
    exact aRet (fun _ => 0) rfl rfl rfl
  · have hr := not_eq' h1
    obtain ⟨hp, hp3⟩ := right_pos hr
    obtain ⟨m, rfl, hm⟩ : ∃ m : Nat, z = m ∧ IsFM (wAt ss) ss.length m := by
      rcases hz with ⟨_, h⟩ | ⟨h, _⟩
      · exact h
      · rw [hr] at h; cases h
    refine aLoop (fun s : Nat × Nat => [.ro true (pV (.int .i64 s.1)), .ro true (pV (.int .i64 s.2))]) (fun s => 1 ≤ s.2 ∧ s.2 ≤ ss.length ∧ IsFM (wAt ss) s.2 s.1) (fun s => ss.length - s.2) (0, 1) rfl ⟨Nat.le_refl _, hp, .one _⟩ (fun s ⟨hi1, hi, hf⟩ => ?_)
    obtain ⟨b, i⟩ := s
    simp only at hi1 hi hf ⊢
    refine aLen rfl (List.length_map _) ?_
    refine aPr rfl (prLt rfl rfl) rfl ?_
    refine aIf rfl (fun h2 => ?_) (fun h2 => ?_)
    · have hlt : i < ss.length := by simpa using h2
      obtain ⟨s, he⟩ := at_some hlt
      obtain ⟨t, he'⟩ := at_some (show b < ss.length by have := hf.1; omega)
      refine aIdx rfl rfl (fun _ => rfl) (by omega) (rowD_at he) ?_
      refine aIdx rfl rfl (fun _ => rfl) (by omega) (rowD_at he') ?_
      refine aLd rfl rfl rfl ?_
      refine aLd rfl rfl rfl ?_
      refine aCall rfl (dwidth5_ct _ _ _) (fun γ => ?_)
      refine aCall rfl (dwidth5_ct _ _ _) (fun γ => ?_)
      rw [wAt_of he, wAt_of he']
      refine aCall rfl (dcmp_ct _ _ _ _) (fun γ => ?_)
      refine aPr rfl (prGt rfl rfl) rfl ?_
      refine aIf rfl (fun h3 => ?_) (fun h3 => ?_)
      · refine aPr rfl (prAddI rfl rfl (by omega) (by omega)) rfl ?_
        exact aBack rfl rfl ⟨(i, i + 1), rfl, rfl, ⟨by show 1 ≤ i + 1; omega, hlt, hf.new (cT_gt h3)⟩, by show ss.length - (i + 1) < ss.length - i; omega⟩
      · refine aPr rfl (prAddI rfl rfl (by omega) (by omega)) rfl ?_
        exact aBack rfl rfl ⟨(b, i + 1), rfl, rfl, ⟨by show 1 ≤ i + 1; omega, hlt, hf.old (cF_gt h3)⟩, by show ss.length - (i + 1) < ss.length - i; omega⟩
    · have hi2 : i = ss.length := by have : ¬ i < ss.length := (by simpa using h2); omega
      rw [hi2] at hf
      have := hf.unique hm
      subst this
      exact aRet (fun _ => 0) rfl rfl rfl
open Classical in
noncomputable def rawT (ts : List (ByteArray × ByteArray)) (n : Nat) : List (ByteArray × ByteArray) := (ts.take n).filter fun t => decide (OfOk t.1 t.2)
noncomputable def rawB (ts : List (ByteArray × ByteArray)) (n : Nat) : List (Rat × Rat) := valsB (rawT ts n)
theorem raw_yes {ts : List (ByteArray × ByteArray)} {i k : Nat} {t : ByteArray × ByteArray} (h : ts[i]? = some t) (ho : OfOk t.1 t.2) : rowsB (rawB ts i) k ++ [[pQ (ratVal t.1) k, pQ (ratVal t.2) k]] = rowsB (rawB ts (i + 1)) k ∧ rowsD (rawB ts i) k ++ [[pD (ratVal t.1) k, pD (ratVal t.2) k]] = rowsD (rawB ts (i + 1)) k := by
  have hlt := (List.getElem?_eq_some_iff.1 h).1
  have e : rawB ts (i + 1) = rawB ts i ++ [(ratVal t.1, ratVal t.2)] := by
    unfold rawB rawT valsB
    rw [← List.take_append_getElem hlt, List.filter_append, List.map_append, (List.getElem?_eq_some_iff.1 h).2]
    simp [ho]
  rw [e]
  exact ⟨by rw [rowsB, rowsB, List.map_append]; rfl, by rw [rowsD, rowsD, List.map_append]; rfl⟩
theorem raw_no {ts : List (ByteArray × ByteArray)} {i : Nat} {t : ByteArray × ByteArray} (h : ts[i]? = some t) (ho : ¬ OfOk t.1 t.2) : rawB ts i = rawB ts (i + 1) := by
  have hlt := (List.getElem?_eq_some_iff.1 h).1
  unfold rawB rawT valsB
  rw [← List.take_append_getElem hlt, List.filter_append, List.map_append, (List.getElem?_eq_some_iff.1 h).2]
  simp [ho]
theorem raw_len (ts : List (ByteArray × ByteArray)) (n : Nat) : (rawB ts n).length ≤ n := by
  unfold rawB rawT valsB
  rw [List.length_map]
  exact Nat.le_trans (List.length_filter_le _ _) (by rw [List.length_take]; omega)
theorem raw_end {ts : List (ByteArray × ByteArray)} {n m : Nat} (h : ts.length ≤ n) (h' : ts.length ≤ m) : rawB ts n = rawB ts m := by
  unfold rawB rawT
  rw [List.take_of_length_le h, List.take_of_length_le h']
end Go.Proofs.YtkekgmdofgkbcaaGreatDoor

namespace Cin
open Go Go.ChangeShapes Go.WideShapes Go.RowKit Go.Deep
def pairRows (ps : List (ByteArray × ByteArray)) : List (List Value) := ps.map fun p => [.string p.1, .string p.2]
theorem pairRows_len (ps : List (ByteArray × ByteArray)) : ∀ x ∈ pairRows ps, x.length = 2 := fun x hx => by
  obtain ⟨p, _, rfl⟩ := List.mem_map.1 hx
  rfl
section
variable {H : Type} {enc : TypeId × Value → H} {P : Program} {w : World} {base : Nat} {held : Bool}
theorem open_pairs {r : Reach} {b0 : Nat} {t e s : TypeId} {f0 f1 : Field} {v : Value} {d : DataW H} {pl : List MemPlace} (ht : P.underlying t = some (.slice e)) (he : P.underlying e = some (.struct #[f0, f1])) (hs : P.underlying s = some .string) (hf : f0.type = s ∧ f1.type = s ∧ f0.offset = 0 ∧ f1.offset = 1) (ce : P.cellsOf e = 2) (cs : P.cellsOf s = 1)
    (hval : Value.okWide P w r b0 t v) (hd : DataW.Trod enc P w base (fun _ => true) held t v d pl) :
    ∃ ps : List (ByteArray × ByteArray), RowR 2 w v (pairRows ps) ∧ ∀ p ∈ ps, p.1.size ≤ maxLen ∧ p.2.size ≤ maxLen := by
  obtain ⟨t0, t1, o0, o1⟩ := hf
  obtain ⟨a0, ln, cp, rfl⟩ := okWide_slice ht hval
  obtain ⟨fuel, hf⟩ := hd
  simp only [Value.cells] at hf
  rcases open_slice_pairs ht he ce o0 o1 (by rw [t0]; exact cs) (by rw [t1]; exact cs) hf with ⟨hc, _⟩ | ⟨a, len, cap, m, k, V0, V1, D0, D1, P0, P1, hc, _, hl, hm, hmm, hx, hall⟩
  · simp only [List.cons.injEq, and_true] at hc
    injection hc with e1 e2 e3
    subst e1 e2 e3
    exact ⟨[], RowR.nil _ _ (fun _ => rfl), fun _ h => by cases h⟩
  · simp only [List.cons.injEq, and_true] at hc
    injection hc with e1 e2 e3
    subst e1 e2 e3
    simp only [if_true] at hmm
    subst hmm
    have hstr : ∀ i, i < m → ∃ q : ByteArray × ByteArray, V0 i = .string q.1 ∧ V1 i = .string q.2 ∧ q.1.size ≤ maxLen ∧ q.2.size ≤ maxLen := fun i hi => by
      have h0 := (hall i hi).2.2.1
      have h1 := (hall i hi).2.2.2
      rw [t0] at h0
      rw [t1] at h1
      obtain ⟨x, g0, _, l0⟩ := DataW.trod_string hs h0
      obtain ⟨y, g1, _, l1⟩ := DataW.trod_string hs h1
      simp only [List.cons.injEq, and_true] at g0 g1
      exact ⟨(x, y), g0, g1, l0, l1⟩
    obtain ⟨q, hq⟩ := choose_lt hstr
    refine ⟨(List.range ln).map q, ⟨pairRows_len _, ?_⟩, fun p hp => ?_⟩
    · cases hln : ln with
      | zero => exact .inl ⟨_, _, rfl, fun h => (by cases h), by simp [pairRows]⟩
      | succ l =>
        right
        obtain ⟨b, o, spot⟩ := a
        have hspot : spot = none := by simpa [Addr.add] using World.cell?_spot (hall 0 (by omega)).1
        subst hspot
        have hb : b < w.heap.size := by
          have := (hall 0 (by omega)).1
          simp only [Nat.zero_mul, Addr.add_mid, Nat.add_zero, World.cell?] at this
          cases hh : w.heap[b]? with
          | none => simp [hh] at this
          | some ob => exact lt_of_heap hh
        refine ⟨b, o, m, by simp [pairRows], hb, by simp [pairRows]; omega, fun i x hx j y hy => ?_⟩
        simp only [pairRows, List.map_map, List.getElem?_map] at hx
        cases hr : (List.range (l + 1))[i]? with
        | none => rw [hr] at hx; cases hx
        | some i' =>
          rw [hr] at hx
          simp only [Option.map_some, Option.some.injEq, Function.comp] at hx
          have hi := (List.getElem?_eq_some_iff.1 hr)
          obtain ⟨hi1, hi2⟩ := hi
          simp at hi1 hi2
          subst hi2
          subst hx
          obtain ⟨c0, c1, _, _⟩ := hall i (by omega)
          obtain ⟨g0, g1, _, _⟩ := hq i (by omega)
          rw [g0] at c0
          rw [g1] at c1
          simp only [Addr.add_mid] at c0 c1
          match j, hy with
          | 0, hy => simp at hy; subst hy; exact c0
          | 1, hy => simp at hy; subst hy; exact c1
    · obtain ⟨i, hi, rfl⟩ := List.mem_map.1 hp
      have := hq i (by have := List.mem_range.1 hi; omega)
      exact ⟨this.2.2.1, this.2.2.2⟩
end
end Cin

namespace Go.Proofs.YtkekgmdofgkbcaaGreatDoor
open Go.RowKit Cin
theorem told_v {w0 : W0} {v : Value} {e : Ending} {w' : World} (h : TellsA w0 [none] (fun _ => [.ro false (pV v)]) e w') : e = .returned v ∧ Below w0.w.heap.size w0.w w' := by
  obtain ⟨cs, os, γ, rfl, _, ⟨c1, c2, o1, o2, rfl, _, ⟨h1, _⟩, h2⟩, hb⟩ := h
  obtain ⟨rfl, _⟩ := h1
  rw [h2.1]
  exact ⟨rfl, hb⟩
def at0 (W : World) : W0 := ⟨W, W.heap.size, Nat.le_refl _, fun _ => False, fun _ h => h.elim⟩
theorem rows_arg {W : World} {v : Value} {r : Rty} {xs : List (List Value)} {rows : List (List Pd)} (hn : 0 < r.n) (h : RowR r.n W v xs) (hl : rows.length = xs.length) (hr : ∀ (i : Nat) (x : List Value) (row : List Pd), xs[i]? = some x → rows[i]? = some row → r.Fit row ∧ RL ⟨W.heap.size, some W.heap.size, fun _ => False⟩ W row x) :
    RL ⟨W.heap.size, some W.heap.size, fun _ => False⟩ W [pRows r rows] [v] := by
  refine ⟨[v], [], by simp, ⟨fun row hm => ?_, ?_⟩, rfl⟩
  · obtain ⟨i, hi, rfl⟩ := List.getElem_of_mem hm
    exact (hr i xs[i] _ (List.getElem?_eq_getElem (by omega)) (List.getElem?_eq_getElem hi)).1
  · rcases h.2 with ⟨ad, cap, rfl, hc, rfl⟩ | ⟨b, o, cap, rfl, hb, hm, hat⟩
    · exact .inl ⟨ad, cap, rfl, hc, List.eq_nil_of_length_eq_zero hl⟩
    · cases hx : xs with
      | nil => subst hx; exact .inl ⟨_, cap, rfl, fun h => (by cases h), List.eq_nil_of_length_eq_zero hl⟩
      | cons x0 xr =>
        rw [← hx]
        obtain ⟨c, t, f, ho⟩ : ∃ c t f, W.heap[b]? = some (Obj.cells c t f) := by
          have h0 := hat 0 x0 (by rw [hx]; rfl)
          have hl0 := h.1 x0 (by rw [hx]; simp)
          have hc := h0 0 (x0[0]'(by omega)) (List.getElem?_eq_getElem (by omega))
          unfold World.cell? at hc
          split at hc
          · rename_i c t f ho; exact ⟨c, t, f, ho⟩
          · cases hc
        refine .inr ⟨b, o, cap, c, t, f, by rw [hl], ho, ⟨.inl hb, fun B hB => by cases hB; exact hb⟩, by rw [hl]; exact hm, fun i row hi => ?_⟩
        have hlt := (List.getElem?_eq_some_iff.1 hi).1
        have hxi := List.getElem?_eq_getElem (l := xs) (i := i) (by omega)
        refine ⟨xs[i]'(by omega), h.1 _ (List.getElem_mem _), (hr i _ row hxi hi).2, fun j y hy => ?_⟩
        have := hat i _ hxi j y hy
        simpa [World.cell?, ho] using this
theorem pairs_arg {W : World} {v : Value} {ts : List (ByteArray × ByteArray)} (h : RowR 2 W v (pairRows ts)) : RL ⟨W.heap.size, some W.heap.size, fun _ => False⟩ W [pTexts ts] [v] :=
  rows_arg (r := pairR) (rows := rowsT ts) (by decide) h (by simp [pairRows]) (fun i x row hx hr => by
    simp only [pairRows, List.getElem?_map] at hx hr
    cases hi : ts[i]? with
    | none => rw [hi] at hx; cases hx
    | some t =>
      rw [hi] at hx hr
      cases hx
      cases hr
      exact ⟨fit_of rfl, ⟨[.string t.1], [.string t.2], rfl, ⟨rfl, rfl⟩, [.string t.2], [], rfl, ⟨rfl, rfl⟩, rfl⟩⟩)
theorem fits_of {ts : List (ByteArray × ByteArray)} (h : ∀ p ∈ ts, p.1.size ≤ maxLen ∧ p.2.size ≤ maxLen) : Fits ts := fun t ht => ⟨len_le (h t ht).1, len_le (h t ht).2⟩
end Go.Proofs.YtkekgmdofgkbcaaGreatDoor

namespace Go.Proofs.YtkekgmdofgkbcaaGreatDoor
open Go.RowKit Cin
theorem raw_ct (ts : List (ByteArray × ByteArray)) (hf : Fits ts) : Ct Tryz.prog JT 17 [none] [[pTexts ts]] [none, none] (fun γ => [.own (γ 0) spanR (rowsB (rawB ts 5) 21), .own (γ 1) dspanR (rowsD (rawB ts 5) 21)]) := by
  refine aCt (D := DD) hMix (tr := (.loop 0 [.k (.slice none 0 0), .k (.slice none 0 0), .k (.int .i64 0)] (.em (.pr (.call (.mk (.builtin .len) #[.tmp 0] #[22])) 3 [.s (.c 0 0)]) (.em (.pr (.binOp .lss 3 (.tmp 0) (.tmp 1) 3) 4 [.s (.c 1 2), .s (.c 2 0)]) (.cond (.c 3 0) (.em (.pr (.binOp .lss 3 (.tmp 0) (.const (.int .i64 5)) 3) 4 [.s (.c 1 2), .s (.k (.int .i64 5))]) (.cond (.c 4 0) (.em (.pr (.indexAddr 22 (.tmp 0) (.tmp 1)) 0 [.s (.c 0 0), .s (.c 1 2)]) (.em (.ld (.load 95 (.tmp 0)) 95 [.s (.c 5 0)] (some 2)) (.em (.call 49 [.g [.c 6 0, .c 6 1]] [some 8, some 6, none]) (.cond (.c 7 14) (.both (.em (.wx (.buildSlice 26 1 #[(0, .tmp 0)]) 26 [.g [.c 7 0, .c 7 1, .c 7 2, .c 7 3, .c 7 4, .c 7 5, .c 7 6, .c 7 7]] (some none)) (.both (.em (.wx (.call (.mk (.builtin .append) #[.tmp 0, .tmp 1] #[26, 26])) 26 [.s (.c 1 0), .s (.c 8 0)] (some none)) (.em (.wx (.buildSlice 30 1 #[(0, .tmp 0)]) 30 [.g [.c 7 8, .c 7 9, .c 7 10, .c 7 11, .c 7 12, .c 7 13]] (some none)) (.em (.wx (.call (.mk (.builtin .append) #[.tmp 0, .tmp 1] #[30, 30])) 30 [.s (.c 1 1), .s (.c 10 0)] (some none)) (.em (.pr (.binOp .add 3 (.tmp 0) (.const (.int .i64 1)) 3) 3 [.s (.c 1 2), .s (.k (.int .i64 1))]) (.back 0 [.c 9 0, .c 11 0, .c 12 0]))))) (.em (.wx (.buildSlice 30 1 #[(0, .tmp 0)]) 30 [.g [.c 7 8, .c 7 9, .c 7 10, .c 7 11, .c 7 12, .c 7 13]] (some none)) (.em (.wx (.call (.mk (.builtin .append) #[.tmp 0, .tmp 1] #[26, 26])) 26 [.s (.c 1 0), .s (.c 8 0)] (some none)) (.em (.wx (.call (.mk (.builtin .append) #[.tmp 0, .tmp 1] #[30, 30])) 30 [.s (.c 1 1), .s (.c 9 0)] (some none)) (.em (.pr (.binOp .add 3 (.tmp 0) (.const (.int .i64 1)) 3) 3 [.s (.c 1 2), .s (.k (.int .i64 1))]) (.back 0 [.c 10 0, .c 11 0, .c 12 0]))))))) (.em (.wx (.buildSlice 30 1 #[(0, .tmp 0)]) 30 [.g [.c 7 8, .c 7 9, .c 7 10, .c 7 11, .c 7 12, .c 7 13]] (some none)) (.em (.wx (.buildSlice 26 1 #[(0, .tmp 0)]) 26 [.g [.c 7 0, .c 7 1, .c 7 2, .c 7 3, .c 7 4, .c 7 5, .c 7 6, .c 7 7]] (some none)) (.em (.wx (.call (.mk (.builtin .append) #[.tmp 0, .tmp 1] #[26, 26])) 26 [.s (.c 1 0), .s (.c 9 0)] (some none)) (.em (.wx (.call (.mk (.builtin .append) #[.tmp 0, .tmp 1] #[30, 30])) 30 [.s (.c 1 1), .s (.c 8 0)] (some none)) (.em (.pr (.binOp .add 3 (.tmp 0) (.const (.int .i64 1)) 3) 3 [.s (.c 1 2), .s (.k (.int .i64 1))]) (.back 0 [.c 10 0, .c 11 0, .c 12 0]))))))) (.em (.pr (.binOp .add 3 (.tmp 0) (.const (.int .i64 1)) 3) 3 [.s (.c 1 2), .s (.k (.int .i64 1))]) (.back 0 [.c 1 0, .c 1 1, .c 8 0])))))) (.ret (.t [.s (.c 1 0), .s (.c 1 1)])))) (.ret (.t [.s (.c 1 0), .s (.c 1 1)]))))))) (by kernel_rfl) (by kernel_rfl) (by kernel_rfl) rfl (fun w0 => ?_)
  refine aLoopC [] (fun s : Nat × Nat × Nat => [.own s.2.1 spanR (rowsB (rawB ts s.1) 21), .own s.2.2 dspanR (rowsD (rawB ts s.1) 21), .ro true (pV (.int .i64 s.1))]) (fun s => s.1 ≤ 5 ∧ s.1 ≤ ts.length) (fun s => ts.length - s.1) (0, 0, 0) ⟨by decide, Nat.zero_le _⟩ (fun s ⟨hi5, hi⟩ => ?_)
  obtain ⟨i, g, g'⟩ := s
  simp only at hi5 hi ⊢
  refine aLen rfl (List.length_map _) ?_
  refine aPr rfl (prLt rfl rfl) rfl ?_
  refine aIf rfl (fun h1 => ?_) (fun h1 => ?_)
  · have hlt : i < ts.length := by simpa using h1
    refine aPr rfl (prLt rfl rfl) rfl ?_
    refine aIf rfl (fun h2 => ?_) (fun h2 => ?_)
    · have hlt5 : i < 5 := by have : (i : Int) < 5 := (by simpa using h2); omega
      obtain ⟨t, he⟩ := at_some hlt
      have hm := List.mem_of_getElem? he
      refine aIdx rfl rfl (fun _ => rfl) (by omega) (map_at (f := fun x : ByteArray × ByteArray => [pV (.string x.1), pV (.string x.2)]) he) ?_
      refine aLd rfl rfl rfl ?_
      by_cases ho : OfOk t.1 t.2
      · obtain ⟨e1, e2⟩ := raw_yes (k := 21) he ho
        have hrl := raw_len ts i
        refine aCall rfl (of5_ct _ _ (hf t hm).1 (hf t hm).2 ho) (fun γ => ?_)
        refine aTrue rfl ?_
        refine aTwo ?_ ?_
        · refine aBuild spanR rfl (fun g8 => ?_)
          refine aTwo ?_ ?_
          · refine aAppend [] rfl rfl (zs := ZeroS) (by simp; omega) (fun g9 => ?_)
            rw [e1]
            refine aBuild dspanR rfl (fun g10 => ?_)
            refine aAppend [] rfl rfl (zs := ZeroT) (by simp; omega) (fun g11 => ?_)
            rw [e2]
            refine aPr rfl (prAddI rfl rfl (by omega) (by omega)) rfl ?_
            exact aBack rfl rfl ⟨(i + 1, g9, g11), rfl, rfl, ⟨hlt5, hlt⟩, by show ts.length - (i + 1) < ts.length - i; omega⟩
          · refine aBuild dspanR rfl (fun g9 => ?_)
            refine aAppend [] rfl rfl (zs := ZeroS) (by simp; omega) (fun g10 => ?_)
            rw [e1]
            refine aAppend [] rfl rfl (zs := ZeroT) (by simp; omega) (fun g11 => ?_)
            rw [e2]
            refine aPr rfl (prAddI rfl rfl (by omega) (by omega)) rfl ?_
            exact aBack rfl rfl ⟨(i + 1, g10, g11), rfl, rfl, ⟨hlt5, hlt⟩, by show ts.length - (i + 1) < ts.length - i; omega⟩
        · refine aBuild dspanR rfl (fun g8 => ?_)
          refine aBuild spanR rfl (fun g9 => ?_)
          refine aAppend [] rfl rfl (zs := ZeroS) (by simp; omega) (fun g10 => ?_)
          rw [e1]
          refine aAppend [] rfl rfl (zs := ZeroT) (by simp; omega) (fun g11 => ?_)
          rw [e2]
          refine aPr rfl (prAddI rfl rfl (by omega) (by omega)) rfl ?_
          exact aBack rfl rfl ⟨(i + 1, g10, g11), rfl, rfl, ⟨hlt5, hlt⟩, by show ts.length - (i + 1) < ts.length - i; omega⟩
      · rw [raw_no he ho]
        refine aCall rfl (ofN5_ct _ _ (hf t hm).1 (hf t hm).2 ho) (fun γ => ?_)
        refine aFalse rfl ?_
        refine aPr rfl (prAddI rfl rfl (by omega) (by omega)) rfl ?_
        exact aBack rfl rfl ⟨(i + 1, g, g'), rfl, rfl, ⟨hlt5, hlt⟩, by show ts.length - (i + 1) < ts.length - i; omega⟩
    · have hi5' : i = 5 := by have : ¬ (i : Int) < 5 := (by simpa using h2); omega
      subst hi5'
      exact aRet (fun n => bif Nat.beq n 0 then g else g') rfl rfl rfl
  · have hi2 : i = ts.length := by have : ¬ i < ts.length := (by simpa using h1); omega
    rw [raw_end (n := i) (m := 5) (by omega) (by omega)]
    exact aRet (fun n => bif Nat.beq n 0 then g else g') rfl rfl rfl
end Go.Proofs.YtkekgmdofgkbcaaGreatDoor

namespace Go.Proofs.YtkekgmdofgkbcaaGreatDoor
open Go.RowKit Cin
theorem boxSplits_ct (ts : List (ByteArray × ByteArray)) (i : Int) (hf : Fits ts) : Ct Tryz.prog JP 4 [none, none] [[pTexts ts], [pV (.int .i64 i)]] [none] (fun _ => [.ro false (pV (.bool true))]) := by
  have hrl := raw_len ts 5
  refine aCt (D := DD) hMix (tr := (.em (.call 9 [] [none]) (.em (.pr (.unOp .not 4 (.tmp 0)) 4 [.s (.c 2 0)]) (.cond (.c 3 0) (.ret (.v (.s (.k (.bool false))))) (.em (.call 17 [.s (.c 0 0)] [none, none]) (.em (.call 18 [.s (.c 4 1)] [none]) (.em (.call 19 [.s (.c 4 0), .s (.c 1 0)] [none, none, none]) (.em (.call 20 [.s (.c 4 0)] [none]) (.em (.call 15 [.s (.c 4 0)] [none]) (.em (.pr (.binOp .neq 4 (.tmp 0) (.tmp 1) 4) 4 [.s (.c 8 0), .s (.c 5 0)]) (.cond (.c 9 0) (.ret (.v (.s (.k (.bool false))))) (.em (.call 21 [.s (.c 4 0)] [none]) (.em (.call 22 [.s (.c 4 1)] [none]) (.em (.pr (.binOp .neq 3 (.tmp 0) (.tmp 1) 3) 4 [.s (.c 10 0), .s (.c 11 0)]) (.cond (.c 12 0) (.ret (.v (.s (.k (.bool false))))) (.cond (.c 5 0) (.em (.pr (.binOp .geq 3 (.tmp 0) (.const (.int .i64 0)) 3) 4 [.s (.c 1 0), .s (.k (.int .i64 0))]) (.cond (.c 13 0) (.em (.pr (.call (.mk (.builtin .len) #[.tmp 0] #[30])) 3 [.s (.c 4 1)]) (.em (.pr (.binOp .lss 3 (.tmp 0) (.tmp 1) 3) 4 [.s (.c 1 0), .s (.c 14 0)]) (.em (.pr (.binOp .neq 4 (.tmp 0) (.tmp 1) 4) 4 [.s (.c 6 2), .s (.c 15 0)]) (.cond (.c 16 0) (.ret (.v (.s (.k (.bool false))))) (.em (.pr (.call (.mk (.builtin .len) #[.tmp 0] #[43])) 3 [.s (.c 7 0)]) (.em (.pr (.call (.mk (.builtin .len) #[.tmp 0] #[30])) 3 [.s (.c 4 1)]) (.em (.pr (.binOp .neq 3 (.tmp 0) (.tmp 1) 3) 4 [.s (.c 17 0), .s (.c 18 0)]) (.cond (.c 19 0) (.ret (.v (.s (.k (.bool false))))) (.loop 0 [.k (.bool false), .k (.int .i64 0)] (.em (.pr (.call (.mk (.builtin .len) #[.tmp 0] #[43])) 3 [.s (.c 7 0)]) (.em (.pr (.binOp .lss 3 (.tmp 0) (.tmp 1) 3) 4 [.s (.c 20 1), .s (.c 21 0)]) (.cond (.c 22 0) (.em (.pr (.indexAddr 43 (.tmp 0) (.tmp 1)) 0 [.s (.c 7 0), .s (.c 20 1)]) (.em (.pr (.indexAddr 30 (.tmp 0) (.tmp 1)) 0 [.s (.c 4 1), .s (.c 20 1)]) (.em (.ld (.load 54 (.tmp 0)) 54 [.s (.c 23 0)] (some 4)) (.em (.ld (.load 62 (.tmp 0)) 62 [.s (.c 24 0)] (some 6)) (.em (.call 24 [.g [.c 26 0, .c 26 1, .c 26 2, .c 26 3, .c 26 4, .c 26 5]] [some 3]) (.em (.call 23 [.g [.c 25 0, .c 25 1, .c 25 2, .c 25 3], .g [.c 27 0, .c 27 1, .c 27 2]] [none]) (.em (.pr (.unOp .not 4 (.tmp 0)) 4 [.s (.c 28 0)]) (.cond (.c 29 0) (.ret (.v (.s (.k (.bool false))))) (.em (.pr (.binOp .add 3 (.tmp 0) (.const (.int .i64 1)) 3) 3 [.s (.c 20 1), .s (.k (.int .i64 1))]) (.back 0 [.c 20 0, .c 30 0])))))))))) (.em (.pr (.unOp .not 4 (.tmp 0)) 4 [.s (.c 6 2)]) (.cond (.c 23 0) (.em (.pr (.call (.mk (.builtin .len) #[.tmp 0] #[26])) 3 [.s (.c 6 0)]) (.em (.pr (.call (.mk (.builtin .len) #[.tmp 0] #[26])) 3 [.s (.c 6 1)]) (.em (.pr (.binOp .add 3 (.tmp 0) (.tmp 1) 3) 3 [.s (.c 24 0), .s (.c 25 0)]) (.em (.pr (.binOp .eql 3 (.tmp 0) (.const (.int .i64 0)) 3) 4 [.s (.c 26 0), .s (.k (.int .i64 0))]) (.ret (.v (.s (.c 27 0)))))))) (.em (.call 25 [.s (.c 4 1), .s (.c 1 0)] [none, none]) (.em (.call 14 [.s (.c 6 0), .s (.c 24 0)] [none]) (.cond (.c 25 0) (.em (.call 14 [.s (.c 6 1), .s (.c 24 1)] [none]) (.cond (.c 26 0) (.em (.call 14 [.s (.c 4 0), .s (.c 4 1)] [none]) (.ret (.v (.s (.c 27 0))))) (.ret (.v (.s (.k (.bool false))))))) (.ret (.v (.s (.k (.bool false)))))))))))))))))))))) (.em (.pr (.binOp .neq 4 (.tmp 0) (.tmp 1) 4) 4 [.s (.c 6 2), .s (.k (.bool false))]) (.cond (.c 14 0) (.ret (.v (.s (.k (.bool false))))) (.em (.pr (.call (.mk (.builtin .len) #[.tmp 0] #[43])) 3 [.s (.c 7 0)]) (.em (.pr (.call (.mk (.builtin .len) #[.tmp 0] #[30])) 3 [.s (.c 4 1)]) (.em (.pr (.binOp .neq 3 (.tmp 0) (.tmp 1) 3) 4 [.s (.c 15 0), .s (.c 16 0)]) (.cond (.c 17 0) (.ret (.v (.s (.k (.bool false))))) (.loop 0 [.k (.bool false), .k (.int .i64 0)] (.em (.pr (.call (.mk (.builtin .len) #[.tmp 0] #[43])) 3 [.s (.c 7 0)]) (.em (.pr (.binOp .lss 3 (.tmp 0) (.tmp 1) 3) 4 [.s (.c 18 1), .s (.c 19 0)]) (.cond (.c 20 0) (.em (.pr (.indexAddr 43 (.tmp 0) (.tmp 1)) 0 [.s (.c 7 0), .s (.c 18 1)]) (.em (.pr (.indexAddr 30 (.tmp 0) (.tmp 1)) 0 [.s (.c 4 1), .s (.c 18 1)]) (.em (.ld (.load 54 (.tmp 0)) 54 [.s (.c 21 0)] (some 4)) (.em (.ld (.load 62 (.tmp 0)) 62 [.s (.c 22 0)] (some 6)) (.em (.call 24 [.g [.c 24 0, .c 24 1, .c 24 2, .c 24 3, .c 24 4, .c 24 5]] [some 3]) (.em (.call 23 [.g [.c 23 0, .c 23 1, .c 23 2, .c 23 3], .g [.c 25 0, .c 25 1, .c 25 2]] [none]) (.em (.pr (.unOp .not 4 (.tmp 0)) 4 [.s (.c 26 0)]) (.cond (.c 27 0) (.ret (.v (.s (.k (.bool false))))) (.em (.pr (.binOp .add 3 (.tmp 0) (.const (.int .i64 1)) 3) 3 [.s (.c 18 1), .s (.k (.int .i64 1))]) (.back 0 [.c 18 0, .c 28 0])))))))))) (.em (.pr (.unOp .not 4 (.tmp 0)) 4 [.s (.c 6 2)]) (.cond (.c 21 0) (.em (.pr (.call (.mk (.builtin .len) #[.tmp 0] #[26])) 3 [.s (.c 6 0)]) (.em (.pr (.call (.mk (.builtin .len) #[.tmp 0] #[26])) 3 [.s (.c 6 1)]) (.em (.pr (.binOp .add 3 (.tmp 0) (.tmp 1) 3) 3 [.s (.c 22 0), .s (.c 23 0)]) (.em (.pr (.binOp .eql 3 (.tmp 0) (.const (.int .i64 0)) 3) 4 [.s (.c 24 0), .s (.k (.int .i64 0))]) (.ret (.v (.s (.c 25 0)))))))) (.em (.call 25 [.s (.c 4 1), .s (.c 1 0)] [none, none]) (.em (.call 14 [.s (.c 6 0), .s (.c 22 0)] [none]) (.cond (.c 23 0) (.em (.call 14 [.s (.c 6 1), .s (.c 22 1)] [none]) (.cond (.c 24 0) (.em (.call 14 [.s (.c 4 0), .s (.c 4 1)] [none]) (.ret (.v (.s (.c 25 0))))) (.ret (.v (.s (.k (.bool false))))))) (.ret (.v (.s (.k (.bool false)))))))))))))))))))))) (.em (.pr (.binOp .neq 4 (.tmp 0) (.tmp 1) 4) 4 [.s (.c 6 2), .s (.k (.bool false))]) (.cond (.c 13 0) (.ret (.v (.s (.k (.bool false))))) (.em (.pr (.call (.mk (.builtin .len) #[.tmp 0] #[26])) 3 [.s (.c 6 0)]) (.em (.pr (.call (.mk (.builtin .len) #[.tmp 0] #[26])) 3 [.s (.c 6 1)]) (.em (.pr (.binOp .add 3 (.tmp 0) (.tmp 1) 3) 3 [.s (.c 14 0), .s (.c 15 0)]) (.em (.pr (.call (.mk (.builtin .len) #[.tmp 0] #[43])) 3 [.s (.c 7 0)]) (.em (.pr (.binOp .add 3 (.tmp 0) (.tmp 1) 3) 3 [.s (.c 16 0), .s (.c 17 0)]) (.em (.pr (.binOp .eql 3 (.tmp 0) (.const (.int .i64 0)) 3) 4 [.s (.c 18 0), .s (.k (.int .i64 0))]) (.ret (.v (.s (.c 19 0)))))))))))))))))))))))))))) (by kernel_rfl) (by kernel_rfl) (by kernel_rfl) rfl (fun w0 => ?_)
  refine aCall rfl alive6_ct (fun γ => ?_)
  refine aPr rfl (prNot rfl) rfl ?_
  refine aFalse rfl ?_
  refine aCall rfl (raw_ct ts hf) (fun γ4 => ?_)
  generalize rawB ts 5 = ss at hrl ⊢
  refine aCall rfl (dright_ct ss 21) (fun γ => ?_)
  cases hr : rightB ss with
  | false =>
    refine aCall rfl (splitN_ct ss 21 i (by simp [hr])) (fun γ => ?_)
    refine aCall rfl (midN_ct ss 21 hr) (fun γ => ?_)
    refine aCall rfl (right_ct ss 21) (fun γ => ?_)
    rw [hr]
    refine aPr rfl (prBNe (by kernel_rfl) rfl rfl) rfl ?_
    refine aFalse rfl ?_
    refine aCall rfl (widest_ct ss 21 (-1) (.inr ⟨hr, rfl⟩)) (fun γ => ?_)
    refine aCall rfl (dwidest_ct ss 21 (-1) (.inr ⟨hr, rfl⟩)) (fun γ => ?_)
    refine aPr rfl (prNe rfl rfl) rfl ?_
    refine aFalse rfl ?_
    refine aFalse rfl ?_
    refine aPr rfl (prBNe (by kernel_rfl) rfl rfl) rfl ?_
    refine aFalse rfl ?_
    refine aConv 6 [.ro false (pRows spanR []), .ro false (pRows spanR []), .ro false (pV (.bool false))] rfl (ConvS.rows (ConvS.rows (ConvS.same ConvS.nil))) ?_
    refine aConv 7 [.ro false (pRows ratR [])] rfl (ConvS.rows ConvS.nil) ?_
    refine aLen rfl (n := 0) rfl ?_
    refine aLen rfl (n := 0) rfl ?_
    refine aPr rfl (prAddI rfl rfl (by omega) (by omega)) rfl ?_
    refine aLen rfl (n := 0) rfl ?_
    refine aPr rfl (prAddI rfl rfl (by omega) (by omega)) rfl ?_
    refine aPr rfl (prEq rfl rfl) rfl ?_
    exact aRet (fun _ => 0) rfl rfl rfl
  | true =>
    have hp := right_pos hr
    obtain ⟨m, hm⟩ := IsFM.ex (wAt ss) _ hp.1
    have hwd : IsWd ss (m : Int) := .inl ⟨hr, m, rfl, hm⟩
    by_cases hi : 0 ≤ i ∧ i < ss.length
    · obtain ⟨n, rfl⟩ : ∃ n : Nat, i = n := ⟨i.toNat, by omega⟩
      have hn : n < ss.length := by omega
      refine aCall rfl (split_ct ss 21 n hr hn) (fun γ6 => ?_)
      refine aCall rfl (mid_ct ss 21 hr) (fun γ7 => ?_)
      refine aCall rfl (right_ct ss 21) (fun γ => ?_)
      rw [hr]
      refine aPr rfl (prBNe (by kernel_rfl) rfl rfl) rfl ?_
      refine aFalse rfl ?_
      refine aCall rfl (widest_ct ss 21 m hwd) (fun γ => ?_)
      refine aCall rfl (dwidest_ct ss 21 m hwd) (fun γ => ?_)
      refine aPrE rfl (prNe rfl rfl) (v' := .bool false) (by simp) rfl ?_
      refine aFalse rfl ?_
      refine aTrue rfl ?_
      refine aPrE rfl (prGe rfl rfl) (v' := .bool true) (by simp) rfl ?_
      refine aTrue rfl ?_
      refine aLen rfl (n := ss.length) (by simp) ?_
      refine aPrE rfl (prLt rfl rfl) (v' := .bool true) (by simp; omega) rfl ?_
      refine aPr rfl (prBNe (by kernel_rfl) rfl rfl) rfl ?_
      refine aFalse rfl ?_
      refine aLen rfl (n := ss.length) (by simp [mids]) ?_
      refine aLen rfl (n := ss.length) (by simp) ?_
      refine aPrE rfl (prNe rfl rfl) (v' := .bool false) (by simp) rfl ?_
      refine aFalse rfl ?_
      refine aLoop (fun j : Nat => [.ro true (pV (.bool false)), .ro true (pV (.int .i64 j))]) (fun j => j ≤ ss.length) (fun j => ss.length - j) 0 rfl (Nat.zero_le _) (fun j hj => ?_)
      refine aLen rfl (n := ss.length) (by simp [mids]) ?_
      refine aPr rfl (prLt rfl rfl) rfl ?_
      refine aIf rfl (fun h8 => ?_) (fun h8 => ?_)
      · have hlt : j < ss.length := by simpa using h8
        obtain ⟨s, he⟩ := at_some hlt
        refine aIdxB rfl rfl (fun _ => rfl) (by omega) (mids_at he) ?_
        refine aIdxB rfl rfl (fun _ => rfl) (by omega) (rowD_at he) ?_
        refine aLd rfl rfl rfl ?_
        refine aLd rfl rfl rfl ?_
        refine aCall rfl (dmid5_ct _ _ _) (fun γ => ?_)
        refine aCall rfl (is3_ct _ _ _) (fun γ => ?_)
        refine aPr rfl (prNot rfl) rfl ?_
        refine aFalse rfl ?_
        refine aPr rfl (prAddI rfl rfl (by omega) (by omega)) rfl ?_
        exact aBack rfl rfl ⟨j + 1, rfl, rfl, hlt, by omega⟩
      · refine aPr rfl (prNot rfl) rfl ?_
        refine aFalse rfl ?_
        refine aCall rfl (dsplit_ct ss 21 n (by omega) hn) (fun γ => ?_)
        refine aCall rfl (is6_ct (loB ss n) _ _ (by simp [loB]; omega)) (fun γ => ?_)
        refine aTrue rfl ?_
        refine aCall rfl (is6_ct (hiB ss n) _ _ (by simp [hiB]; omega)) (fun γ => ?_)
        refine aTrue rfl ?_
        refine aCall rfl (is6_ct ss _ _ (by omega)) (fun γ => ?_)
        exact aRet (fun _ => 0) rfl rfl rfl
    · have hns : ¬ (rightB ss = true ∧ 0 ≤ i ∧ i < ss.length) := fun h => hi h.2
      refine aCall rfl (splitN_ct ss 21 i hns) (fun γ6 => ?_)
      refine aCall rfl (mid_ct ss 21 hr) (fun γ7 => ?_)
      refine aCall rfl (right_ct ss 21) (fun γ => ?_)
      rw [hr]
      refine aPr rfl (prBNe (by kernel_rfl) rfl rfl) rfl ?_
      refine aFalse rfl ?_
      refine aCall rfl (widest_ct ss 21 m hwd) (fun γ => ?_)
      refine aCall rfl (dwidest_ct ss 21 m hwd) (fun γ => ?_)
      refine aPrE rfl (prNe rfl rfl) (v' := .bool false) (by simp) rfl ?_
      refine aFalse rfl ?_
      refine aTrue rfl ?_
      refine aPr rfl (prGe rfl rfl) rfl ?_
      refine aIf rfl (fun h5 => ?_) (fun h5 => ?_)
      · have hge : 0 ≤ i := by simpa using h5
        refine aLen rfl (n := ss.length) (by simp) ?_
        refine aPrE rfl (prLt rfl rfl) (v' := .bool false) (by simp; omega) rfl ?_
        refine aPr rfl (prBNe (by kernel_rfl) rfl rfl) rfl ?_
        refine aFalse rfl ?_
        refine aLen rfl (n := ss.length) (by simp [mids]) ?_
        refine aLen rfl (n := ss.length) (by simp) ?_
        refine aPrE rfl (prNe rfl rfl) (v' := .bool false) (by simp) rfl ?_
        refine aFalse rfl ?_
        refine aLoop (fun j : Nat => [.ro true (pV (.bool false)), .ro true (pV (.int .i64 j))]) (fun j => j ≤ ss.length) (fun j => ss.length - j) 0 rfl (Nat.zero_le _) (fun j hj => ?_)
        refine aLen rfl (n := ss.length) (by simp [mids]) ?_
        refine aPr rfl (prLt rfl rfl) rfl ?_
        refine aIf rfl (fun h8 => ?_) (fun h8 => ?_)
        · have hlt : j < ss.length := by simpa using h8
          obtain ⟨s, he⟩ := at_some hlt
          refine aIdxB rfl rfl (fun _ => rfl) (by omega) (mids_at he) ?_
          refine aIdxB rfl rfl (fun _ => rfl) (by omega) (rowD_at he) ?_
          refine aLd rfl rfl rfl ?_
          refine aLd rfl rfl rfl ?_
          refine aCall rfl (dmid5_ct _ _ _) (fun γ => ?_)
          refine aCall rfl (is3_ct _ _ _) (fun γ => ?_)
          refine aPr rfl (prNot rfl) rfl ?_
          refine aFalse rfl ?_
          refine aPr rfl (prAddI rfl rfl (by omega) (by omega)) rfl ?_
          exact aBack rfl rfl ⟨j + 1, rfl, rfl, hlt, by omega⟩
        · refine aPr rfl (prNot rfl) rfl ?_
          refine aTrue rfl ?_
          refine aConv 6 [.ro false (pRows spanR []), .ro false (pRows spanR []), .ro false (pV (.bool false))] rfl (ConvS.rows (ConvS.rows (ConvS.same ConvS.nil))) ?_
          refine aLen rfl (n := 0) rfl ?_
          refine aLen rfl (n := 0) rfl ?_
          refine aPr rfl (prAddI rfl rfl (by omega) (by omega)) rfl ?_
          refine aPr rfl (prEq rfl rfl) rfl ?_
          exact aRet (fun _ => 0) rfl rfl rfl
      · refine aPr rfl (prBNe (by kernel_rfl) rfl rfl) rfl ?_
        refine aFalse rfl ?_
        refine aLen rfl (n := ss.length) (by simp [mids]) ?_
        refine aLen rfl (n := ss.length) (by simp) ?_
        refine aPrE rfl (prNe rfl rfl) (v' := .bool false) (by simp) rfl ?_
        refine aFalse rfl ?_
        refine aLoop (fun j : Nat => [.ro true (pV (.bool false)), .ro true (pV (.int .i64 j))]) (fun j => j ≤ ss.length) (fun j => ss.length - j) 0 rfl (Nat.zero_le _) (fun j hj => ?_)
        refine aLen rfl (n := ss.length) (by simp [mids]) ?_
        refine aPr rfl (prLt rfl rfl) rfl ?_
        refine aIf rfl (fun h8 => ?_) (fun h8 => ?_)
        · have hlt : j < ss.length := by simpa using h8
          obtain ⟨s, he⟩ := at_some hlt
          refine aIdxB rfl rfl (fun _ => rfl) (by omega) (mids_at he) ?_
          refine aIdxB rfl rfl (fun _ => rfl) (by omega) (rowD_at he) ?_
          refine aLd rfl rfl rfl ?_
          refine aLd rfl rfl rfl ?_
          refine aCall rfl (dmid5_ct _ _ _) (fun γ => ?_)
          refine aCall rfl (is3_ct _ _ _) (fun γ => ?_)
          refine aPr rfl (prNot rfl) rfl ?_
          refine aFalse rfl ?_
          refine aPr rfl (prAddI rfl rfl (by omega) (by omega)) rfl ?_
          exact aBack rfl rfl ⟨j + 1, rfl, rfl, hlt, by omega⟩
        · refine aPr rfl (prNot rfl) rfl ?_
          refine aTrue rfl ?_
          refine aConv 6 [.ro false (pRows spanR []), .ro false (pRows spanR []), .ro false (pV (.bool false))] rfl (ConvS.rows (ConvS.rows (ConvS.same ConvS.nil))) ?_
          refine aLen rfl (n := 0) rfl ?_
          refine aLen rfl (n := 0) rfl ?_
          refine aPr rfl (prAddI rfl rfl (by omega) (by omega)) rfl ?_
          refine aPr rfl (prEq rfl rfl) rfl ?_
          exact aRet (fun _ => 0) rfl rfl rfl
end Go.Proofs.YtkekgmdofgkbcaaGreatDoor

namespace Go.Proofs.YtkekgmdofgkbcaaGreatDoor
open Go.RowKit Cin
theorem boxSplits_any (ts : List (ByteArray × ByteArray)) (i : Int) (v : Value) (W : World) (hT : TabsP W) (h : RowR 2 W v (pairRows ts)) (hf : ∀ p ∈ ts, p.1.size ≤ maxLen ∧ p.2.size ≤ maxLen) :
    Calls Tryz.prog 4 #[v, .int .i64 i] W fun e w' => e = .returned (.bool true) ∧ Below W.heap.size W w' :=
  (boxSplits_ct ts i (fits_of hf) (at0 W) [[v], [.int .i64 i]] hT ⟨[v], _, rfl, rfl, pairs_arg h, [.int .i64 i], [], rfl, rfl, ⟨[.int .i64 i], [], rfl, ⟨rfl, rfl⟩, rfl⟩, rfl⟩).mono fun _ _ h => told_v h
end Go.Proofs.YtkekgmdofgkbcaaGreatDoor
