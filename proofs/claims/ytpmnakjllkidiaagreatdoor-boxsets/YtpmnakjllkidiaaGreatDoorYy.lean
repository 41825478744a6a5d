/- Contracts of the document's boxes, and of what helps the laws. -/
import Derived.Test.YtpmnakjllkidiaaGreatDoorYx
import Derived.Test.YtpmnakjllkidiaaGreatDoorYt
import Derived.Laws.StructEq
import Derived.ChangeKeysEq
namespace Go.Proofs.YtpmnakjllkidiaaGreatDoor
open Go.RowKit Cin
def dspanR : Rty := ⟨54, 6, [161], []⟩
abbrev rowsD (ss : List (Rat × Rat)) (k : Nat) : List (List Pd) := ss.map fun s => [pD s.1 k, pD s.2 k]
abbrev pBoxD (ss : List (Rat × Rat)) (k : Nat) : Pd := pRows dspanR (rowsD ss k)
theorem rowD_at {ss : List (Rat × Rat)} {i k : Nat} {s : Rat × Rat} (h : ss[i]? = some s) : (rowsD ss k)[i]? = some [pD s.1 k, pD s.2 k] := by simp [h]
theorem dright_ct (ss : List (Rat × Rat)) (k : Nat) (hk : k ≤ 3000 := by omega) : Ct Tryz.prog JT 9 [none] [[pBoxD ss k]] [none] (fun _ => [.ro false (pV (.bool (rightB ss)))]) := by
  refine aCt (D := DD) hMix (tr := (.em (.pr (.call (.mk (.builtin .len) #[.tmp 0] #[27])) 3 [.s (.c 0 0)]) (.em (.pr (.binOp .lss 3 (.tmp 0) (.const (.int .i64 1)) 3) 4 [.s (.c 1 0), .s (.k (.int .i64 1))]) (.cond (.c 2 0) (.ret (.v (.s (.k (.bool false))))) (.em (.pr (.call (.mk (.builtin .len) #[.tmp 0] #[27])) 3 [.s (.c 0 0)]) (.em (.pr (.binOp .gtr 3 (.tmp 0) (.const (.int .i64 3)) 3) 4 [.s (.c 3 0), .s (.k (.int .i64 3))]) (.cond (.c 4 0) (.ret (.v (.s (.k (.bool false))))) (.loop 0 [.k (.bool false), .k (.int .i64 0)] (.em (.pr (.call (.mk (.builtin .len) #[.tmp 0] #[27])) 3 [.s (.c 0 0)]) (.em (.pr (.binOp .lss 3 (.tmp 0) (.tmp 1) 3) 4 [.s (.c 5 1), .s (.c 6 0)]) (.cond (.c 7 0) (.em (.pr (.indexAddr 27 (.tmp 0) (.tmp 1)) 0 [.s (.c 0 0), .s (.c 5 1)]) (.em (.pr (.fieldAddr 54 (.tmp 0) 0) 0 [.s (.c 8 0)]) (.em (.pr (.indexAddr 27 (.tmp 0) (.tmp 1)) 0 [.s (.c 0 0), .s (.c 5 1)]) (.em (.pr (.fieldAddr 54 (.tmp 0) 1) 0 [.s (.c 10 0)]) (.em (.ld (.load 48 (.tmp 0)) 48 [.s (.c 9 0)] (some 3)) (.em (.ld (.load 48 (.tmp 0)) 48 [.s (.c 11 0)] (some 3)) (.em (.call 30 [.g [.c 12 0, .c 12 1, .c 12 2], .g [.c 13 0, .c 13 1, .c 13 2]] [none]) (.em (.pr (.binOp .geq 3 (.tmp 0) (.const (.int .i64 0)) 3) 4 [.s (.c 14 0), .s (.k (.int .i64 0))]) (.cond (.c 15 0) (.ret (.v (.s (.k (.bool false))))) (.em (.pr (.binOp .add 3 (.tmp 0) (.const (.int .i64 1)) 3) 3 [.s (.c 5 1), .s (.k (.int .i64 1))]) (.back 0 [.c 5 0, .c 16 0]))))))))))) (.ret (.v (.s (.k (.bool true)))))))))))))))) (by kernel_rfl) (by kernel_rfl) (by kernel_rfl) rfl (fun w0 => ?_)
  refine aLen rfl (List.length_map _) ?_
  refine aPr rfl (prLt rfl rfl) rfl ?_
  refine aIf rfl (fun h => ?_) (fun h => ?_)
  · have e : rightB ss = false := by simp at h; simp [rightB]; omega
    exact aRet (fun _ => 0) rfl rfl (by rw [e]; rfl)
  refine aLen rfl (List.length_map _) ?_
  refine aPr rfl (prGt rfl rfl) rfl ?_
  refine aIf rfl (fun h1 => ?_) (fun h1 => ?_)
  · have e : rightB ss = false := by simp at h1; simp [rightB]; omega
    exact aRet (fun _ => 0) rfl rfl (by rw [e]; rfl)
  refine aLoop (fun i : Nat => [.ro true (pV (.bool false)), .ro true (pV (.int .i64 i))]) (fun i => i ≤ ss.length ∧ ∀ j s, j < i → ss[j]? = some s → s.1 < s.2) (fun i => ss.length - i) 0 rfl ⟨Nat.zero_le _, fun j s hj => by omega⟩ (fun i ⟨hi, hs⟩ => ?_)
  refine aLen rfl (List.length_map _) ?_
  refine aPr rfl (prLt rfl rfl) rfl ?_
  refine aIf rfl (fun h2 => ?_) (fun h2 => ?_)
  · have hlt : i < ss.length := by simpa using h2
    obtain ⟨s, he⟩ := at_some hlt
    refine aIdx rfl rfl (fun _ => rfl) (by omega) (rowD_at he) ?_
    refine aField (off := 0) rfl (by kernel_rfl) rfl ?_
    refine aIdx rfl rfl (fun _ => rfl) (by omega) (rowD_at he) ?_
    refine aField (off := 3) rfl (by kernel_rfl) rfl ?_
    refine aLd rfl rfl rfl ?_
    refine aLd rfl rfl rfl ?_
    refine aCall rfl (dcmp_ct _ _ _ _) (fun γ => ?_)
    refine aPr rfl (prGe rfl rfl) rfl ?_
    refine aIf rfl (fun h3 => ?_) (fun h3 => ?_)
    · have e : rightB ss = false := by
        have := cT_ge h3
        simp only [rightB, Bool.and_eq_false_iff, List.all_eq_false]
        exact .inr ⟨s, List.mem_of_getElem? he, by simp; grind⟩
      exact aRet (fun _ => 0) rfl rfl (by rw [e]; rfl)
    · have hc := cF_ge h3
      refine aPr rfl (prAddI rfl rfl (by simp at h h1; omega) (by simp at h h1; omega)) rfl ?_
      refine aBack rfl rfl ⟨i + 1, rfl, rfl, ⟨hlt, fun j s' hj hs' => ?_⟩, by omega⟩
      by_cases hji : j = i
      · subst hji; rw [he] at hs'; cases hs'; exact hc
      · exact hs j s' (by omega) hs'
  · have e : rightB ss = true := by
      have : i = ss.length := by have : ¬ i < ss.length := (by simpa using h2); omega
      simp at h h1
      simp only [rightB, Bool.and_eq_true, decide_eq_true_eq, List.all_eq_true]
      refine ⟨⟨by omega, by omega⟩, fun s hm => ?_⟩
      obtain ⟨j, hj, rfl⟩ := List.getElem_of_mem hm
      exact hs j _ (by omega) (List.getElem?_eq_getElem hj)
    exact aRet (fun _ => 0) rfl rfl (by rw [e]; rfl)
theorem is6_ct (ss : List (Rat × Rat)) (k j : Nat) (hl : ss.length ≤ 1000) (hk : k ≤ 200000 := by omega) (hj : j ≤ 200000 := by omega) : Ct Tryz.prog JP 18 [none, none] [[pBox ss k], [pBoxD ss j]] [none] (fun _ => [.ro false (pV (.bool true))]) := by
  refine aCt (D := DD) hMix (tr := (.em (.pr (.call (.mk (.builtin .len) #[.tmp 0] #[26])) 3 [.s (.c 0 0)]) (.em (.pr (.call (.mk (.builtin .len) #[.tmp 0] #[27])) 3 [.s (.c 1 0)]) (.em (.pr (.binOp .neq 3 (.tmp 0) (.tmp 1) 3) 4 [.s (.c 2 0), .s (.c 3 0)]) (.cond (.c 4 0) (.ret (.v (.s (.k (.bool false))))) (.loop 0 [.k (.bool false), .k (.int .i64 0)] (.em (.pr (.call (.mk (.builtin .len) #[.tmp 0] #[26])) 3 [.s (.c 0 0)]) (.em (.pr (.binOp .lss 3 (.tmp 0) (.tmp 1) 3) 4 [.s (.c 5 1), .s (.c 6 0)]) (.cond (.c 7 0) (.em (.pr (.indexAddr 26 (.tmp 0) (.tmp 1)) 0 [.s (.c 0 0), .s (.c 5 1)]) (.em (.pr (.indexAddr 27 (.tmp 0) (.tmp 1)) 0 [.s (.c 1 0), .s (.c 5 1)]) (.em (.ld (.load 78 (.tmp 0)) 78 [.s (.c 8 0)] (some 8)) (.em (.ld (.load 54 (.tmp 0)) 54 [.s (.c 9 0)] (some 6)) (.em (.call 39 [.g [.c 10 0, .c 10 1, .c 10 2, .c 10 3, .c 10 4, .c 10 5, .c 10 6, .c 10 7], .g [.c 11 0, .c 11 1, .c 11 2, .c 11 3, .c 11 4, .c 11 5]] [none]) (.em (.pr (.unOp .not 4 (.tmp 0)) 4 [.s (.c 12 0)]) (.cond (.c 13 0) (.ret (.v (.s (.k (.bool false))))) (.em (.pr (.binOp .add 3 (.tmp 0) (.const (.int .i64 1)) 3) 3 [.s (.c 5 1), .s (.k (.int .i64 1))]) (.back 0 [.c 5 0, .c 14 0]))))))))) (.ret (.v (.s (.k (.bool true)))))))))))))) (by kernel_rfl) (by kernel_rfl) (by kernel_rfl) rfl (fun w0 => ?_)
  refine aLen rfl (List.length_map _) ?_
  refine aLen rfl (List.length_map _) ?_
  refine aPr rfl (prNe rfl rfl) rfl ?_
  rw [show ((ss.length : Int) != ss.length) = false by simp]
  refine aFalse rfl ?_
  refine aLoop (fun i : Nat => [.ro true (pV (.bool false)), .ro true (pV (.int .i64 i))]) (fun i => i ≤ ss.length) (fun i => ss.length - i) 0 rfl (Nat.zero_le _) (fun i hi => ?_)
  refine aLen rfl (List.length_map _) ?_
  refine aPr rfl (prLt rfl rfl) rfl ?_
  refine aIf rfl (fun h2 => ?_) (fun h2 => ?_)
  · have hlt : i < ss.length := by simpa using h2
    obtain ⟨s, he⟩ := at_some hlt
    refine aIdx rfl rfl (fun _ => rfl) (by omega) (row_at he) ?_
    refine aIdx rfl rfl (fun _ => rfl) (by omega) (rowD_at he) ?_
    refine aLd rfl rfl rfl ?_
    refine aLd rfl rfl rfl ?_
    refine aCall rfl (is5_ct _ _ _ _) (fun γ => ?_)
    refine aPr rfl (prNot rfl) rfl ?_
    refine aFalse rfl ?_
    refine aPr rfl (prAddI rfl rfl (by omega) (by omega)) rfl ?_
    exact aBack rfl rfl ⟨i + 1, rfl, rfl, hlt, by omega⟩
  · exact aRet (fun _ => 0) rfl rfl rfl
end Go.Proofs.YtpmnakjllkidiaaGreatDoor

namespace Go.Proofs.YtpmnakjllkidiaaGreatDoor
open Go.RowKit Cin
theorem lit_ok {s : ByteArray} {c : Nat} {z : Int} (hb : byts (digT s) = [c]) (hn : negT s = true → decL (byts (digT s)) ≠ 0) (hsl : slashAt s < 0) (hc : 48 ≤ c ∧ c ≤ 57) (hz : intVal s = z) : RatOk s ∧ ratVal s = (z : Rat) := by
  refine ⟨.inl ⟨hsl, ⟨by rw [hb]; exact isNum_one hc, hn⟩⟩, ?_⟩
  unfold ratVal
  rw [if_pos hsl, hz, Rat.mkRat_one]
theorem m1_d : byts (digT ⟨#[45, 49]⟩) = [49] := by
  have h : negT ⟨#[45, 49]⟩ = true := by decide
  unfold digT
  rw [if_pos h, byts_tl]; decide
theorem lit_0 : RatOk ⟨#[48]⟩ ∧ ratVal ⟨#[48]⟩ = ((0 : Int) : Rat) := lit_ok (c := 48) (by decide) (fun h => by have : negT ⟨#[48]⟩ = false := (by decide); rw [this] at h; cases h) (by decide) (by decide) (by decide)
theorem lit_1 : RatOk ⟨#[49]⟩ ∧ ratVal ⟨#[49]⟩ = ((1 : Int) : Rat) := lit_ok (c := 49) (by decide) (fun h => by have : negT ⟨#[49]⟩ = false := (by decide); rw [this] at h; cases h) (by decide) (by decide) (by decide)
theorem lit_2 : RatOk ⟨#[50]⟩ ∧ ratVal ⟨#[50]⟩ = ((2 : Int) : Rat) := lit_ok (c := 50) (by decide) (fun h => by have : negT ⟨#[50]⟩ = false := (by decide); rw [this] at h; cases h) (by decide) (by decide) (by decide)
theorem lit_m1 : RatOk ⟨#[45, 49]⟩ ∧ ratVal ⟨#[45, 49]⟩ = ((-1 : Int) : Rat) := lit_ok (c := 49) m1_d (fun _ => by rw [m1_d]; decide) (by decide) (by decide) (by unfold intVal; rw [m1_d]; decide)
theorem side_lit {s r : ByteArray} {x y : Int} (h : RatOk s ∧ ratVal s = (x : Rat)) (h' : RatOk r ∧ ratVal r = (y : Rat)) (hl : x < y) : sideC (s, r) = 0 := by
  have hlt : (x : Rat) < (y : Rat) := Rat.intCast_lt_intCast.2 hl
  have hsp : SpOk s r := ⟨h.1, h'.1, by rw [h.2, h'.2]; grind⟩
  have d : ∀ z : Int, DyOk (z : Rat) := fun z => by unfold DyOk; rw [show ((z : Rat).den) = 1 from rfl]; decide
  unfold sideC
  rw [if_pos hsp, if_neg (by show ¬ ratVal r ≤ ratVal s; rw [h.2, h'.2]; grind), if_pos (by show DyOk (ratVal s); rw [h.2]; exact d _), if_pos (by show DyOk (ratVal r); rw [h'.2]; exact d _)]
abbrev alT : List (ByteArray × ByteArray) := [(⟨#[48]⟩, ⟨#[49]⟩), (⟨#[45, 49]⟩, ⟨#[50]⟩)]
theorem alT_ok : boxC alT = 0 := by
  unfold boxC
  rw [if_neg (by decide)]
  refine firstC_zero.2 fun t ht => ?_
  simp only [List.mem_cons, List.not_mem_nil, or_false] at ht
  rcases ht with rfl | rfl
  · exact side_lit lit_0 lit_1 (by decide)
  · exact side_lit lit_m1 lit_2 (by decide)
theorem alT_wd : IsWd (valsB alT) 1 := by
  refine .inl ⟨vals_right alT_ok, 1, rfl, ?_⟩
  have e : valsB alT = [(((0 : Int) : Rat), ((1 : Int) : Rat)), (((-1 : Int) : Rat), ((2 : Int) : Rat))] := by
    simp only [valsB, List.map_cons, List.map_nil, lit_0.2, lit_1.2, lit_2.2, lit_m1.2]
  rw [e]
  have w0 : wAt [(((0 : Int) : Rat), ((1 : Int) : Rat)), (((-1 : Int) : Rat), ((2 : Int) : Rat))] 0 = 1 := by simp [wAt]; grind
  have w1 : wAt [(((0 : Int) : Rat), ((1 : Int) : Rat)), (((-1 : Int) : Rat), ((2 : Int) : Rat))] 1 = 3 := by simp [wAt]; grind
  refine (IsFM.one _).new ?_
  rw [w0, w1]; decide
def DL : TypeId → Bool := fun t => t == 161 || t == 74 || t == 78 || t == 54 || t == 43
theorem alive6_ct : Ct Tryz.prog JT 6 [] [] [none] (fun _ => [.ro false (pV (.bool true))]) := by
  have hf : Fits alT := fun t ht => by
    simp only [List.mem_cons, List.not_mem_nil, or_false] at ht
    rcases ht with rfl | rfl <;> exact ⟨by decide, by decide⟩
  refine aCt (D := DL) hMix (tr := (.em (.wx (.buildSlice 22 2 #[(0, .tmp 0), (1, .tmp 1)]) 22 [.g [.k (.string ⟨#[48]⟩), .k (.string ⟨#[49]⟩)], .g [.k (.string ⟨#[45, 49]⟩), .k (.string ⟨#[50]⟩)]] (some none)) (.em (.call 24 [.s (.c 0 0)] [none, none]) (.em (.pr (.binOp .eql 70 (.tmp 0) (.const (.int .i64 0)) 70) 4 [.s (.c 1 1), .s (.k (.int .i64 0))]) (.cond (.c 2 0) (.em (.pr (.call (.mk (.builtin .len) #[.tmp 0] #[26])) 3 [.s (.c 1 0)]) (.em (.pr (.binOp .eql 3 (.tmp 0) (.const (.int .i64 2)) 3) 4 [.s (.c 3 0), .s (.k (.int .i64 2))]) (.cond (.c 4 0) (.em (.call 25 [.s (.c 1 0)] [none]) (.cond (.c 5 0) (.em (.call 26 [.s (.c 1 0)] [none]) (.em (.pr (.binOp .eql 3 (.tmp 0) (.const (.int .i64 1)) 3) 4 [.s (.c 6 0), .s (.k (.int .i64 1))]) (.ret (.v (.s (.c 7 0)))))) (.ret (.v (.s (.k (.bool false))))))) (.ret (.v (.s (.k (.bool false)))))))) (.ret (.v (.s (.k (.bool false)))))))))) (by kernel_rfl) (by kernel_rfl) (by kernel_rfl) rfl (fun w0 => ?_)
  refine aBuild pairR rfl (fun g0 => ?_)
  refine aCall rfl (parse_ct alT hf alT_ok) (fun γ => ?_)
  refine aPr rfl (prEq rfl rfl) rfl ?_
  refine aTrue rfl ?_
  refine aLen rfl (n := 2) rfl ?_
  refine aPr rfl (prEq rfl rfl) rfl ?_
  refine aTrue rfl ?_
  refine aCall rfl (right_ct (valsB alT) 500) (fun γ => ?_)
  rw [vals_right alT_ok]
  refine aTrue rfl ?_
  refine aCall rfl (widest_ct (valsB alT) 500 1 alT_wd) (fun γ => ?_)
  refine aPr rfl (prEq rfl rfl) rfl ?_
  exact aRet (fun _ => 0) rfl rfl rfl
end Go.Proofs.YtpmnakjllkidiaaGreatDoor

namespace Go.Proofs.YtpmnakjllkidiaaGreatDoor
open Go.RowKit Cin
open Classical in
noncomputable def rawT (ts : List (ByteArray × ByteArray)) (n : Nat) : List (ByteArray × ByteArray) := (ts.take n).filter fun t => decide (OfOk t.1 t.2)
noncomputable def rawB (ts : List (ByteArray × ByteArray)) (n : Nat) : List (Rat × Rat) := valsB (rawT ts n)
theorem raw_yes {ts : List (ByteArray × ByteArray)} {i k : Nat} {t : ByteArray × ByteArray} (h : ts[i]? = some t) (ho : OfOk t.1 t.2) : rowsB (rawB ts i) k ++ [[pQ (ratVal t.1) k, pQ (ratVal t.2) k]] = rowsB (rawB ts (i + 1)) k ∧ rowsD (rawB ts i) k ++ [[pD (ratVal t.1) k, pD (ratVal t.2) k]] = rowsD (rawB ts (i + 1)) k := by
  have hlt := (List.getElem?_eq_some_iff.1 h).1
  have e : rawB ts (i + 1) = rawB ts i ++ [(ratVal t.1, ratVal t.2)] := by
    unfold rawB rawT valsB
    rw [← List.take_append_getElem hlt, List.filter_append, List.map_append, (List.getElem?_eq_some_iff.1 h).2]
    simp [ho]
  rw [e]
  exact ⟨by rw [rowsB, rowsB, List.map_append]; rfl, by rw [rowsD, rowsD, List.map_append]; rfl⟩
theorem raw_no {ts : List (ByteArray × ByteArray)} {i : Nat} {t : ByteArray × ByteArray} (h : ts[i]? = some t) (ho : ¬ OfOk t.1 t.2) : rawB ts i = rawB ts (i + 1) := by
  have hlt := (List.getElem?_eq_some_iff.1 h).1
  unfold rawB rawT valsB
  rw [← List.take_append_getElem hlt, List.filter_append, List.map_append, (List.getElem?_eq_some_iff.1 h).2]
  simp [ho]
theorem raw_len (ts : List (ByteArray × ByteArray)) (n : Nat) : (rawB ts n).length ≤ n := by
  unfold rawB rawT valsB
  rw [List.length_map]
  exact Nat.le_trans (List.length_filter_le _ _) (by rw [List.length_take]; omega)
theorem raw_end {ts : List (ByteArray × ByteArray)} {n m : Nat} (h : ts.length ≤ n) (h' : ts.length ≤ m) : rawB ts n = rawB ts m := by
  unfold rawB rawT
  rw [List.take_of_length_le h, List.take_of_length_le h']
end Go.Proofs.YtpmnakjllkidiaaGreatDoor

namespace Go.Proofs.YtpmnakjllkidiaaGreatDoor
open Go.RowKit Cin
theorem raw_ct (ts : List (ByteArray × ByteArray)) (hf : Fits ts) : Ct Tryz.prog JT 7 [none] [[pTexts ts]] [none, none] (fun γ => [.own (γ 0) spanR (rowsB (rawB ts 5) 21), .own (γ 1) dspanR (rowsD (rawB ts 5) 21)]) := by
  refine aCt (D := DD) hMix (tr := (.loop 0 [.k (.slice none 0 0), .k (.slice none 0 0), .k (.int .i64 0)] (.em (.pr (.call (.mk (.builtin .len) #[.tmp 0] #[22])) 3 [.s (.c 0 0)]) (.em (.pr (.binOp .lss 3 (.tmp 0) (.tmp 1) 3) 4 [.s (.c 1 2), .s (.c 2 0)]) (.cond (.c 3 0) (.em (.pr (.binOp .lss 3 (.tmp 0) (.const (.int .i64 5)) 3) 4 [.s (.c 1 2), .s (.k (.int .i64 5))]) (.cond (.c 4 0) (.em (.pr (.indexAddr 22 (.tmp 0) (.tmp 1)) 0 [.s (.c 0 0), .s (.c 1 2)]) (.em (.ld (.load 74 (.tmp 0)) 74 [.s (.c 5 0)] (some 2)) (.em (.call 27 [.g [.c 6 0, .c 6 1]] [some 8, some 6, none]) (.cond (.c 7 14) (.both (.em (.wx (.buildSlice 26 1 #[(0, .tmp 0)]) 26 [.g [.c 7 0, .c 7 1, .c 7 2, .c 7 3, .c 7 4, .c 7 5, .c 7 6, .c 7 7]] (some none)) (.both (.em (.wx (.call (.mk (.builtin .append) #[.tmp 0, .tmp 1] #[26, 26])) 26 [.s (.c 1 0), .s (.c 8 0)] (some none)) (.em (.wx (.buildSlice 27 1 #[(0, .tmp 0)]) 27 [.g [.c 7 8, .c 7 9, .c 7 10, .c 7 11, .c 7 12, .c 7 13]] (some none)) (.em (.wx (.call (.mk (.builtin .append) #[.tmp 0, .tmp 1] #[27, 27])) 27 [.s (.c 1 1), .s (.c 10 0)] (some none)) (.em (.pr (.binOp .add 3 (.tmp 0) (.const (.int .i64 1)) 3) 3 [.s (.c 1 2), .s (.k (.int .i64 1))]) (.back 0 [.c 9 0, .c 11 0, .c 12 0]))))) (.em (.wx (.buildSlice 27 1 #[(0, .tmp 0)]) 27 [.g [.c 7 8, .c 7 9, .c 7 10, .c 7 11, .c 7 12, .c 7 13]] (some none)) (.em (.wx (.call (.mk (.builtin .append) #[.tmp 0, .tmp 1] #[26, 26])) 26 [.s (.c 1 0), .s (.c 8 0)] (some none)) (.em (.wx (.call (.mk (.builtin .append) #[.tmp 0, .tmp 1] #[27, 27])) 27 [.s (.c 1 1), .s (.c 9 0)] (some none)) (.em (.pr (.binOp .add 3 (.tmp 0) (.const (.int .i64 1)) 3) 3 [.s (.c 1 2), .s (.k (.int .i64 1))]) (.back 0 [.c 10 0, .c 11 0, .c 12 0]))))))) (.em (.wx (.buildSlice 27 1 #[(0, .tmp 0)]) 27 [.g [.c 7 8, .c 7 9, .c 7 10, .c 7 11, .c 7 12, .c 7 13]] (some none)) (.em (.wx (.buildSlice 26 1 #[(0, .tmp 0)]) 26 [.g [.c 7 0, .c 7 1, .c 7 2, .c 7 3, .c 7 4, .c 7 5, .c 7 6, .c 7 7]] (some none)) (.em (.wx (.call (.mk (.builtin .append) #[.tmp 0, .tmp 1] #[26, 26])) 26 [.s (.c 1 0), .s (.c 9 0)] (some none)) (.em (.wx (.call (.mk (.builtin .append) #[.tmp 0, .tmp 1] #[27, 27])) 27 [.s (.c 1 1), .s (.c 8 0)] (some none)) (.em (.pr (.binOp .add 3 (.tmp 0) (.const (.int .i64 1)) 3) 3 [.s (.c 1 2), .s (.k (.int .i64 1))]) (.back 0 [.c 10 0, .c 11 0, .c 12 0]))))))) (.em (.pr (.binOp .add 3 (.tmp 0) (.const (.int .i64 1)) 3) 3 [.s (.c 1 2), .s (.k (.int .i64 1))]) (.back 0 [.c 1 0, .c 1 1, .c 8 0])))))) (.ret (.t [.s (.c 1 0), .s (.c 1 1)])))) (.ret (.t [.s (.c 1 0), .s (.c 1 1)]))))))) (by kernel_rfl) (by kernel_rfl) (by kernel_rfl) rfl (fun w0 => ?_)
  refine aLoopC [] (fun s : Nat × Nat × Nat => [.own s.2.1 spanR (rowsB (rawB ts s.1) 21), .own s.2.2 dspanR (rowsD (rawB ts s.1) 21), .ro true (pV (.int .i64 s.1))]) (fun s => s.1 ≤ 5 ∧ s.1 ≤ ts.length) (fun s => ts.length - s.1) (0, 0, 0) ⟨by decide, Nat.zero_le _⟩ (fun s ⟨hi5, hi⟩ => ?_)
  obtain ⟨i, g, g'⟩ := s
  simp only at hi5 hi ⊢
  refine aLen rfl (List.length_map _) ?_
  refine aPr rfl (prLt rfl rfl) rfl ?_
  refine aIf rfl (fun h1 => ?_) (fun h1 => ?_)
  · have hlt : i < ts.length := by simpa using h1
    refine aPr rfl (prLt rfl rfl) rfl ?_
    refine aIf rfl (fun h2 => ?_) (fun h2 => ?_)
    · have hlt5 : i < 5 := by have : (i : Int) < 5 := (by simpa using h2); omega
      obtain ⟨t, he⟩ := at_some hlt
      have hm := List.mem_of_getElem? he
      refine aIdx rfl rfl (fun _ => rfl) (by omega) (map_at (f := fun x : ByteArray × ByteArray => [pV (.string x.1), pV (.string x.2)]) he) ?_
      refine aLd rfl rfl rfl ?_
      by_cases ho : OfOk t.1 t.2
      · obtain ⟨e1, e2⟩ := raw_yes (k := 21) he ho
        have hrl := raw_len ts i
        refine aCall rfl (of5_ct _ _ (hf t hm).1 (hf t hm).2 ho) (fun γ => ?_)
        refine aTrue rfl ?_
        refine aTwo ?_ ?_
        · refine aBuild spanR rfl (fun g8 => ?_)
          refine aTwo ?_ ?_
          · refine aAppend [] rfl rfl (zs := ZeroS) (by simp; omega) (fun g9 => ?_)
            rw [e1]
            refine aBuild dspanR rfl (fun g10 => ?_)
            refine aAppend [] rfl rfl (zs := ZeroT) (by simp; omega) (fun g11 => ?_)
            rw [e2]
            refine aPr rfl (prAddI rfl rfl (by omega) (by omega)) rfl ?_
            exact aBack rfl rfl ⟨(i + 1, g9, g11), rfl, rfl, ⟨hlt5, hlt⟩, by show ts.length - (i + 1) < ts.length - i; omega⟩
          · refine aBuild dspanR rfl (fun g9 => ?_)
            refine aAppend [] rfl rfl (zs := ZeroS) (by simp; omega) (fun g10 => ?_)
            rw [e1]
            refine aAppend [] rfl rfl (zs := ZeroT) (by simp; omega) (fun g11 => ?_)
            rw [e2]
            refine aPr rfl (prAddI rfl rfl (by omega) (by omega)) rfl ?_
            exact aBack rfl rfl ⟨(i + 1, g10, g11), rfl, rfl, ⟨hlt5, hlt⟩, by show ts.length - (i + 1) < ts.length - i; omega⟩
        · refine aBuild dspanR rfl (fun g8 => ?_)
          refine aBuild spanR rfl (fun g9 => ?_)
          refine aAppend [] rfl rfl (zs := ZeroS) (by simp; omega) (fun g10 => ?_)
          rw [e1]
          refine aAppend [] rfl rfl (zs := ZeroT) (by simp; omega) (fun g11 => ?_)
          rw [e2]
          refine aPr rfl (prAddI rfl rfl (by omega) (by omega)) rfl ?_
          exact aBack rfl rfl ⟨(i + 1, g10, g11), rfl, rfl, ⟨hlt5, hlt⟩, by show ts.length - (i + 1) < ts.length - i; omega⟩
      · rw [raw_no he ho]
        refine aCall rfl (ofN5_ct _ _ (hf t hm).1 (hf t hm).2 ho) (fun γ => ?_)
        refine aFalse rfl ?_
        refine aPr rfl (prAddI rfl rfl (by omega) (by omega)) rfl ?_
        exact aBack rfl rfl ⟨(i + 1, g, g'), rfl, rfl, ⟨hlt5, hlt⟩, by show ts.length - (i + 1) < ts.length - i; omega⟩
    · have hi5' : i = 5 := by have : ¬ (i : Int) < 5 := (by simpa using h2); omega
      subst hi5'
      exact aRet (fun n => bif Nat.beq n 0 then g else g') rfl rfl rfl
  · have hi2 : i = ts.length := by have : ¬ i < ts.length := (by simpa using h1); omega
    rw [raw_end (n := i) (m := 5) (by omega) (by omega)]
    exact aRet (fun n => bif Nat.beq n 0 then g else g') rfl rfl rfl
end Go.Proofs.YtpmnakjllkidiaaGreatDoor

namespace Go.Proofs.YtpmnakjllkidiaaGreatDoor
open Go.RowKit Cin
def sideW (s t : Rat × Rat) : Bool := decide (t.1 ≤ s.1) && decide (s.2 ≤ t.2)
def sideM (s t : Rat × Rat) : Bool := decide (s.1 < t.2) && decide (t.1 < s.2)
def bothB (p : Rat × Rat → Rat × Rat → Bool) (ss ts : List (Rat × Rat)) : Bool := (ss.zip ts).all fun x => p x.1 x.2
def likeB (ss ts : List (Rat × Rat)) : Bool := decide (ss.length = ts.length) && rightB ss && rightB ts
theorem both_all {p : Rat × Rat → Rat × Rat → Bool} {ss ts : List (Rat × Rat)} (h : ∀ (j : Nat) (s t : Rat × Rat), ss[j]? = some s → ts[j]? = some t → p s t = true) : bothB p ss ts = true := all_of fun j x hx => by
  obtain ⟨s, t⟩ := x
  have hjl := (List.getElem?_eq_some_iff.1 hx).1
  rw [List.length_zip] at hjl
  obtain ⟨s', h1⟩ := at_some (show j < ss.length by omega)
  obtain ⟨t', h2⟩ := at_some (show j < ts.length by omega)
  rw [zip_at h1 h2] at hx
  cases hx
  exact h j s t h1 h2
theorem both_no {p : Rat × Rat → Rat × Rat → Bool} {ss ts : List (Rat × Rat)} {j : Nat} {s t : Rat × Rat} (h1 : ss[j]? = some s) (h2 : ts[j]? = some t) (h : p s t = false) : bothB p ss ts = false := all_no (p := fun x : (Rat × Rat) × (Rat × Rat) => p x.1 x.2) (zip_at h1 h2) h
def dratR : Rty := ⟨48, 3, [161], []⟩
abbrev rowsE (xs : List Rat) (k : Nat) : List (List Pd) := xs.map fun x => [pD x k]
abbrev pRatsD (xs : List Rat) (k : Nat) : Pd := pRows dratR (rowsE xs k)
theorem overlap_ct (x y x' y' : Rat) (k j : Nat) (hk : k ≤ 1000000 := by omega) (hj : j ≤ 1000000 := by omega) : Ct Tryz.prog JT 34 [some 8, some 8] [[pQ x k, pQ y k], [pQ x' j, pQ y' j]] [none] (fun _ => [.ro false (pV (.bool (sideM (x, y) (x', y'))))]) := by
  refine aCt (D := DD) hMix (tr := (.em (.call 51 [.g [.c 0 0, .c 0 1, .c 0 2, .c 0 3], .g [.c 1 4, .c 1 5, .c 1 6, .c 1 7]] [none]) (.em (.pr (.binOp .lss 3 (.tmp 0) (.const (.int .i64 0)) 3) 4 [.s (.c 2 0), .s (.k (.int .i64 0))]) (.cond (.c 3 0) (.em (.call 51 [.g [.c 1 0, .c 1 1, .c 1 2, .c 1 3], .g [.c 0 4, .c 0 5, .c 0 6, .c 0 7]] [none]) (.em (.pr (.binOp .lss 3 (.tmp 0) (.const (.int .i64 0)) 3) 4 [.s (.c 4 0), .s (.k (.int .i64 0))]) (.ret (.v (.s (.c 5 0)))))) (.ret (.v (.s (.k (.bool false))))))))) (by kernel_rfl) (by kernel_rfl) (by kernel_rfl) rfl (fun w0 => ?_)
  refine aCall rfl (qcmp_ct _ _ _ _) (fun γ => ?_)
  refine aPr rfl (prLt rfl rfl) rfl ?_
  refine aIf rfl (fun h1 => ?_) (fun h1 => ?_)
  · have h2 := cT_lt h1
    refine aCall rfl (qcmp_ct _ _ _ _) (fun γ => ?_)
    refine aPrE rfl (prLt rfl rfl) (v' := .bool (sideM (x, y) (x', y'))) (by rw [v_lt]; simp [sideM, h2]) rfl ?_
    exact aRet (fun _ => 0) rfl rfl rfl
  · have h2 := cF_lt h1
    exact aRet (fun _ => 0) rfl rfl (by
      have : sideM (x, y) (x', y') = false := by simp only [sideM, Bool.and_eq_false_iff, decide_eq_false_iff_not]; left; grind
      rw [this]; rfl)
theorem bySidesW_ct (ss ts : List (Rat × Rat)) (k : Nat) (hl : ss.length = ts.length) (h3 : ss.length ≤ 1000) (hk : k ≤ 1000000 := by omega) : Ct Tryz.prog JT 31 [none, none, none] [[pBox ss k], [pBox ts k], [pV (.func (.func 32) #[] #[])]] [none] (fun _ => [.ro false (pV (.bool (bothB sideW ss ts)))]) := by
  refine aCtO ⟨false, [(2, .func (.func 32) #[] #[])]⟩ (D := DD) hMix (tr := (.em (.pr (.call (.mk (.builtin .len) #[.tmp 0] #[26])) 3 [.s (.c 0 0)]) (.loop 0 [.k (.bool false), .k (.int .i64 0)] (.em (.pr (.binOp .lss 3 (.tmp 0) (.tmp 1) 3) 0 [.s (.c 4 1), .s (.c 3 0)]) (.cond (.c 5 0) (.em (.pr (.indexAddr 26 (.tmp 0) (.tmp 1)) 0 [.s (.c 0 0), .s (.c 4 1)]) (.em (.pr (.indexAddr 26 (.tmp 0) (.tmp 1)) 0 [.s (.c 1 0), .s (.c 4 1)]) (.em (.ld (.load 78 (.tmp 0)) 78 [.s (.c 6 0)] (some 8)) (.em (.ld (.load 78 (.tmp 0)) 78 [.s (.c 7 0)] (some 8)) (.em (.call 32 [.g [.c 8 0, .c 8 1, .c 8 2, .c 8 3, .c 8 4, .c 8 5, .c 8 6, .c 8 7], .g [.c 9 0, .c 9 1, .c 9 2, .c 9 3, .c 9 4, .c 9 5, .c 9 6, .c 9 7]] [none]) (.em (.pr (.unOp .not 4 (.tmp 0)) 4 [.s (.c 10 0)]) (.cond (.c 11 0) (.ret (.v (.s (.k (.bool false))))) (.em (.pr (.binOp .add 3 (.tmp 0) (.const (.int .i64 1)) 3) 3 [.s (.c 4 1), .s (.k (.int .i64 1))]) (.back 0 [.c 4 0, .c 12 0]))))))))) (.ret (.v (.s (.k (.bool true)))))))))) (by kernel_rfl) (by kernel_rfl) (by kernel_rfl) rfl (fun i v h => ?_) (fun w0 => ?_)
  · match i, h with
    | 0, h => cases h
    | 1, h => cases h
    | 2, h => cases h; rfl
    | _ + 3, h => cases h
  refine aLen rfl (List.length_map _) ?_
  refine aLoop (fun i : Nat => [.ro true (pV (.bool false)), .ro true (pV (.int .i64 i))]) (fun i => i ≤ ss.length ∧ ∀ (j : Nat) (s t : Rat × Rat), j < i → ss[j]? = some s → ts[j]? = some t → sideW s t = true) (fun i => ss.length - i) 0 rfl ⟨Nat.zero_le _, fun j s t hj => by omega⟩ (fun i ⟨hi, hs⟩ => ?_)
  refine aPr rfl (prLt rfl rfl) rfl ?_
  refine aIf rfl (fun h3 => ?_) (fun h3 => ?_)
  · have hlt : i < ss.length := by simpa using h3
    obtain ⟨s, he⟩ := at_some hlt
    obtain ⟨t, hx⟩ := at_some (show i < ts.length by omega)
    refine aIdx rfl rfl (fun _ => rfl) (by omega) (row_at he) ?_
    refine aIdx rfl rfl (fun _ => rfl) (by omega) (row_at hx) ?_
    refine aLd rfl rfl rfl ?_
    refine aLd rfl rfl rfl ?_
    refine aCall rfl (within5_ct _ _ _ _ _ _) (fun γ => ?_)
    refine aPr rfl (prNot rfl) rfl ?_
    refine aIf rfl (fun h4 => ?_) (fun h4 => ?_)
    · have h5 : sideW s t = false := not_eq h4
      exact aRet (fun _ => 0) rfl rfl (by rw [both_no he hx h5]; rfl)
    · have h5 : sideW s t = true := not_eq' h4
      refine aPr rfl (prAddI rfl rfl (by omega) (by omega)) rfl ?_
      refine aBack rfl rfl ⟨i + 1, rfl, rfl, ⟨hlt, fun j s' t' hj hs' ht' => ?_⟩, by omega⟩
      by_cases hji : j = i
      · subst hji; rw [he] at hs'; rw [hx] at ht'; cases hs'; cases ht'; exact h5
      · exact hs j s' t' (by omega) hs' ht'
  · have hi2 : i = ss.length := by have : ¬ i < ss.length := (by simpa using h3); omega
    have h6 : bothB sideW ss ts = true := both_all fun j s t h1 h2 => hs j s t (by have := (List.getElem?_eq_some_iff.1 h1).1; omega) h1 h2
    exact aRet (fun _ => 0) rfl rfl (by rw [h6]; rfl)
theorem bySidesM_ct (ss ts : List (Rat × Rat)) (k : Nat) (hl : ss.length = ts.length) (h3 : ss.length ≤ 1000) (hk : k ≤ 1000000 := by omega) : Ct Tryz.prog JT 31 [none, none, none] [[pBox ss k], [pBox ts k], [pV (.func (.func 34) #[] #[])]] [none] (fun _ => [.ro false (pV (.bool (bothB sideM ss ts)))]) := by
  refine aCtO ⟨false, [(2, .func (.func 34) #[] #[])]⟩ (D := DD) hMix (tr := (.em (.pr (.call (.mk (.builtin .len) #[.tmp 0] #[26])) 3 [.s (.c 0 0)]) (.loop 0 [.k (.bool false), .k (.int .i64 0)] (.em (.pr (.binOp .lss 3 (.tmp 0) (.tmp 1) 3) 0 [.s (.c 4 1), .s (.c 3 0)]) (.cond (.c 5 0) (.em (.pr (.indexAddr 26 (.tmp 0) (.tmp 1)) 0 [.s (.c 0 0), .s (.c 4 1)]) (.em (.pr (.indexAddr 26 (.tmp 0) (.tmp 1)) 0 [.s (.c 1 0), .s (.c 4 1)]) (.em (.ld (.load 78 (.tmp 0)) 78 [.s (.c 6 0)] (some 8)) (.em (.ld (.load 78 (.tmp 0)) 78 [.s (.c 7 0)] (some 8)) (.em (.call 34 [.g [.c 8 0, .c 8 1, .c 8 2, .c 8 3, .c 8 4, .c 8 5, .c 8 6, .c 8 7], .g [.c 9 0, .c 9 1, .c 9 2, .c 9 3, .c 9 4, .c 9 5, .c 9 6, .c 9 7]] [none]) (.em (.pr (.unOp .not 4 (.tmp 0)) 4 [.s (.c 10 0)]) (.cond (.c 11 0) (.ret (.v (.s (.k (.bool false))))) (.em (.pr (.binOp .add 3 (.tmp 0) (.const (.int .i64 1)) 3) 3 [.s (.c 4 1), .s (.k (.int .i64 1))]) (.back 0 [.c 4 0, .c 12 0]))))))))) (.ret (.v (.s (.k (.bool true)))))))))) (by kernel_rfl) (by kernel_rfl) (by kernel_rfl) rfl (fun i v h => ?_) (fun w0 => ?_)
  · match i, h with
    | 0, h => cases h
    | 1, h => cases h
    | 2, h => cases h; rfl
    | _ + 3, h => cases h
  refine aLen rfl (List.length_map _) ?_
  refine aLoop (fun i : Nat => [.ro true (pV (.bool false)), .ro true (pV (.int .i64 i))]) (fun i => i ≤ ss.length ∧ ∀ (j : Nat) (s t : Rat × Rat), j < i → ss[j]? = some s → ts[j]? = some t → sideM s t = true) (fun i => ss.length - i) 0 rfl ⟨Nat.zero_le _, fun j s t hj => by omega⟩ (fun i ⟨hi, hs⟩ => ?_)
  refine aPr rfl (prLt rfl rfl) rfl ?_
  refine aIf rfl (fun h3 => ?_) (fun h3 => ?_)
  · have hlt : i < ss.length := by simpa using h3
    obtain ⟨s, he⟩ := at_some hlt
    obtain ⟨t, hx⟩ := at_some (show i < ts.length by omega)
    refine aIdx rfl rfl (fun _ => rfl) (by omega) (row_at he) ?_
    refine aIdx rfl rfl (fun _ => rfl) (by omega) (row_at hx) ?_
    refine aLd rfl rfl rfl ?_
    refine aLd rfl rfl rfl ?_
    refine aCall rfl (overlap_ct _ _ _ _ _ _) (fun γ => ?_)
    refine aPr rfl (prNot rfl) rfl ?_
    refine aIf rfl (fun h4 => ?_) (fun h4 => ?_)
    · have h5 : sideM s t = false := not_eq h4
      exact aRet (fun _ => 0) rfl rfl (by rw [both_no he hx h5]; rfl)
    · have h5 : sideM s t = true := not_eq' h4
      refine aPr rfl (prAddI rfl rfl (by omega) (by omega)) rfl ?_
      refine aBack rfl rfl ⟨i + 1, rfl, rfl, ⟨hlt, fun j s' t' hj hs' ht' => ?_⟩, by omega⟩
      by_cases hji : j = i
      · subst hji; rw [he] at hs'; rw [hx] at ht'; cases hs'; cases ht'; exact h5
      · exact hs j s' t' (by omega) hs' ht'
  · have hi2 : i = ss.length := by have : ¬ i < ss.length := (by simpa using h3); omega
    have h6 : bothB sideM ss ts = true := both_all fun j s t h1 h2 => hs j s t (by have := (List.getElem?_eq_some_iff.1 h1).1; omega) h1 h2
    exact aRet (fun _ => 0) rfl rfl (by rw [h6]; rfl)
theorem bwithin_ct (ss ts : List (Rat × Rat)) (k : Nat) (hk : k ≤ 1000000 := by omega) : Ct Tryz.prog JT 10 [none, none] [[pBox ss k], [pBox ts k]] [none] (fun _ => [.ro false (pV (.bool (likeB ss ts && bothB sideW ss ts)))]) := by
  refine aCt (D := DD) hMix (tr := (.em (.call 28 [.s (.c 0 0), .s (.c 1 0)] [none]) (.cond (.c 2 0) (.em (.call 31 [.s (.c 0 0), .s (.c 1 0), .s (.k (.func (Fn.func 32) #[] #[]))] [none]) (.ret (.v (.s (.c 3 0))))) (.ret (.v (.s (.k (.bool false)))))))) (by kernel_rfl) (by kernel_rfl) (by kernel_rfl) rfl (fun w0 => ?_)
  refine aCall rfl (alike_ct _ _ _) (fun γ => ?_)
  refine aIf rfl (fun h1 => ?_) (fun h1 => ?_)
  · have h2 := h1
    simp only [Bool.and_eq_true, decide_eq_true_eq] at h2
    have hp := right_pos h2.1.2
    refine aCall rfl (bySidesW_ct ss ts k h2.1.1 (by omega)) (fun γ => ?_)
    exact aRet (fun _ => 0) rfl rfl (by rw [likeB, h1]; rfl)
  · exact aRet (fun _ => 0) rfl rfl (by rw [likeB, h1]; rfl)
theorem bmeets_ct (ss ts : List (Rat × Rat)) (k : Nat) (hk : k ≤ 1000000 := by omega) : Ct Tryz.prog JT 12 [none, none] [[pBox ss k], [pBox ts k]] [none] (fun _ => [.ro false (pV (.bool (likeB ss ts && bothB sideM ss ts)))]) := by
  refine aCt (D := DD) hMix (tr := (.em (.call 28 [.s (.c 0 0), .s (.c 1 0)] [none]) (.cond (.c 2 0) (.em (.call 31 [.s (.c 0 0), .s (.c 1 0), .s (.k (.func (Fn.func 34) #[] #[]))] [none]) (.ret (.v (.s (.c 3 0))))) (.ret (.v (.s (.k (.bool false)))))))) (by kernel_rfl) (by kernel_rfl) (by kernel_rfl) rfl (fun w0 => ?_)
  refine aCall rfl (alike_ct _ _ _) (fun γ => ?_)
  refine aIf rfl (fun h1 => ?_) (fun h1 => ?_)
  · have h2 := h1
    simp only [Bool.and_eq_true, decide_eq_true_eq] at h2
    have hp := right_pos h2.1.2
    refine aCall rfl (bySidesM_ct ss ts k h2.1.1 (by omega)) (fun γ => ?_)
    exact aRet (fun _ => 0) rfl rfl (by rw [likeB, h1]; rfl)
  · exact aRet (fun _ => 0) rfl rfl (by rw [likeB, h1]; rfl)
theorem dbwithin_ct (ss ts : List (Rat × Rat)) (k : Nat) (hk : k ≤ 3000 := by omega) : Ct Tryz.prog JT 11 [none, none] [[pBoxD ss k], [pBoxD ts k]] [none] (fun _ => [.ro false (pV (.bool (likeB ss ts && bothB sideW ss ts)))]) := by
  refine aCt (D := DD) hMix (tr := (.em (.call 9 [.s (.c 0 0)] [none]) (.em (.pr (.unOp .not 4 (.tmp 0)) 4 [.s (.c 2 0)]) (.cond (.c 3 0) (.ret (.v (.s (.k (.bool false))))) (.em (.call 9 [.s (.c 1 0)] [none]) (.em (.pr (.unOp .not 4 (.tmp 0)) 4 [.s (.c 4 0)]) (.cond (.c 5 0) (.ret (.v (.s (.k (.bool false))))) (.em (.pr (.call (.mk (.builtin .len) #[.tmp 0] #[27])) 3 [.s (.c 0 0)]) (.em (.pr (.call (.mk (.builtin .len) #[.tmp 0] #[27])) 3 [.s (.c 1 0)]) (.em (.pr (.binOp .neq 3 (.tmp 0) (.tmp 1) 3) 4 [.s (.c 6 0), .s (.c 7 0)]) (.cond (.c 8 0) (.ret (.v (.s (.k (.bool false))))) (.loop 0 [.k (.bool false), .k (.int .i64 0)] (.em (.pr (.call (.mk (.builtin .len) #[.tmp 0] #[27])) 3 [.s (.c 0 0)]) (.em (.pr (.binOp .lss 3 (.tmp 0) (.tmp 1) 3) 4 [.s (.c 9 1), .s (.c 10 0)]) (.cond (.c 11 0) (.em (.pr (.indexAddr 27 (.tmp 0) (.tmp 1)) 0 [.s (.c 0 0), .s (.c 9 1)]) (.em (.pr (.indexAddr 27 (.tmp 0) (.tmp 1)) 0 [.s (.c 1 0), .s (.c 9 1)]) (.em (.ld (.load 54 (.tmp 0)) 54 [.s (.c 12 0)] (some 6)) (.em (.ld (.load 54 (.tmp 0)) 54 [.s (.c 13 0)] (some 6)) (.em (.call 33 [.g [.c 14 0, .c 14 1, .c 14 2, .c 14 3, .c 14 4, .c 14 5], .g [.c 15 0, .c 15 1, .c 15 2, .c 15 3, .c 15 4, .c 15 5]] [none]) (.em (.pr (.unOp .not 4 (.tmp 0)) 4 [.s (.c 16 0)]) (.cond (.c 17 0) (.ret (.v (.s (.k (.bool false))))) (.em (.pr (.binOp .add 3 (.tmp 0) (.const (.int .i64 1)) 3) 3 [.s (.c 9 1), .s (.k (.int .i64 1))]) (.back 0 [.c 9 0, .c 18 0]))))))))) (.ret (.v (.s (.k (.bool true)))))))))))))))))))) (by kernel_rfl) (by kernel_rfl) (by kernel_rfl) rfl (fun w0 => ?_)
  refine aCall rfl (dright_ct _ _) (fun γ => ?_)
  refine aPr rfl (prNot rfl) rfl ?_
  refine aIf rfl (fun h1 => ?_) (fun h1 => ?_)
  · have e := not_eq h1
    exact aRet (fun _ => 0) rfl rfl (by rw [likeB, e, Bool.and_false, Bool.false_and, Bool.false_and]; rfl)
  have hr := not_eq' h1
  have hp := right_pos hr
  refine aCall rfl (dright_ct _ _) (fun γ => ?_)
  refine aPr rfl (prNot rfl) rfl ?_
  refine aIf rfl (fun h1 => ?_) (fun h1 => ?_)
  · have e := not_eq h1
    exact aRet (fun _ => 0) rfl rfl (by rw [likeB, e, Bool.and_false, Bool.false_and]; rfl)
  have hr' := not_eq' h1
  refine aLen rfl (List.length_map _) ?_
  refine aLen rfl (List.length_map _) ?_
  refine aPr rfl (prNe rfl rfl) rfl ?_
  refine aIf rfl (fun h2 => ?_) (fun h2 => ?_)
  · have e : decide (ss.length = ts.length) = false := by simp at h2; simp; omega
    exact aRet (fun _ => 0) rfl rfl (by rw [likeB, e, Bool.false_and, Bool.false_and, Bool.false_and]; rfl)
  have hl : ss.length = ts.length := by simp at h2; omega
  have hlike : likeB ss ts = true := by simp [likeB, hl, hr, hr']
  rw [hlike, Bool.true_and]
  refine aLoop (fun i : Nat => [.ro true (pV (.bool false)), .ro true (pV (.int .i64 i))]) (fun i => i ≤ ss.length ∧ ∀ (j : Nat) (s t : Rat × Rat), j < i → ss[j]? = some s → ts[j]? = some t → sideW s t = true) (fun i => ss.length - i) 0 rfl ⟨Nat.zero_le _, fun j s t hj => by omega⟩ (fun i ⟨hi, hs⟩ => ?_)
  refine aLen rfl (List.length_map _) ?_
  refine aPr rfl (prLt rfl rfl) rfl ?_
  refine aIf rfl (fun h3 => ?_) (fun h3 => ?_)
  · have hlt : i < ss.length := by simpa using h3
    obtain ⟨s, he⟩ := at_some hlt
    obtain ⟨t, hx⟩ := at_some (show i < ts.length by omega)
    refine aIdx rfl rfl (fun _ => rfl) (by omega) (rowD_at he) ?_
    refine aIdx rfl rfl (fun _ => rfl) (by omega) (rowD_at hx) ?_
    refine aLd rfl rfl rfl ?_
    refine aLd rfl rfl rfl ?_
    refine aCall rfl (dswithin_ct _ _ _ _ _ _) (fun γ => ?_)
    refine aPr rfl (prNot rfl) rfl ?_
    refine aIf rfl (fun h4 => ?_) (fun h4 => ?_)
    · have h5 : sideW s t = false := not_eq h4
      exact aRet (fun _ => 0) rfl rfl (by rw [both_no he hx h5]; rfl)
    · have h5 : sideW s t = true := not_eq' h4
      refine aPr rfl (prAddI rfl rfl (by omega) (by omega)) rfl ?_
      refine aBack rfl rfl ⟨i + 1, rfl, rfl, ⟨hlt, fun j s' t' hj hs' ht' => ?_⟩, by omega⟩
      by_cases hji : j = i
      · subst hji; rw [he] at hs'; rw [hx] at ht'; cases hs'; cases ht'; exact h5
      · exact hs j s' t' (by omega) hs' ht'
  · have hi2 : i = ss.length := by have : ¬ i < ss.length := (by simpa using h3); omega
    have h6 : bothB sideW ss ts = true := both_all fun j s t h1 h2 => hs j s t (by have := (List.getElem?_eq_some_iff.1 h1).1; omega) h1 h2
    exact aRet (fun _ => 0) rfl rfl (by rw [h6]; rfl)
theorem dbmeets_ct (ss ts : List (Rat × Rat)) (k : Nat) (hk : k ≤ 3000 := by omega) : Ct Tryz.prog JT 13 [none, none] [[pBoxD ss k], [pBoxD ts k]] [none] (fun _ => [.ro false (pV (.bool (likeB ss ts && bothB sideM ss ts)))]) := by
  refine aCt (D := DD) hMix (tr := (.em (.call 9 [.s (.c 0 0)] [none]) (.em (.pr (.unOp .not 4 (.tmp 0)) 4 [.s (.c 2 0)]) (.cond (.c 3 0) (.ret (.v (.s (.k (.bool false))))) (.em (.call 9 [.s (.c 1 0)] [none]) (.em (.pr (.unOp .not 4 (.tmp 0)) 4 [.s (.c 4 0)]) (.cond (.c 5 0) (.ret (.v (.s (.k (.bool false))))) (.em (.pr (.call (.mk (.builtin .len) #[.tmp 0] #[27])) 3 [.s (.c 0 0)]) (.em (.pr (.call (.mk (.builtin .len) #[.tmp 0] #[27])) 3 [.s (.c 1 0)]) (.em (.pr (.binOp .neq 3 (.tmp 0) (.tmp 1) 3) 4 [.s (.c 6 0), .s (.c 7 0)]) (.cond (.c 8 0) (.ret (.v (.s (.k (.bool false))))) (.loop 0 [.k (.bool false), .k (.int .i64 0)] (.em (.pr (.call (.mk (.builtin .len) #[.tmp 0] #[27])) 3 [.s (.c 0 0)]) (.em (.pr (.binOp .lss 3 (.tmp 0) (.tmp 1) 3) 4 [.s (.c 9 1), .s (.c 10 0)]) (.cond (.c 11 0) (.em (.pr (.indexAddr 27 (.tmp 0) (.tmp 1)) 0 [.s (.c 0 0), .s (.c 9 1)]) (.em (.pr (.fieldAddr 54 (.tmp 0) 0) 0 [.s (.c 12 0)]) (.em (.pr (.indexAddr 27 (.tmp 0) (.tmp 1)) 0 [.s (.c 1 0), .s (.c 9 1)]) (.em (.pr (.fieldAddr 54 (.tmp 0) 1) 0 [.s (.c 14 0)]) (.em (.ld (.load 48 (.tmp 0)) 48 [.s (.c 13 0)] (some 3)) (.em (.ld (.load 48 (.tmp 0)) 48 [.s (.c 15 0)] (some 3)) (.em (.call 30 [.g [.c 16 0, .c 16 1, .c 16 2], .g [.c 17 0, .c 17 1, .c 17 2]] [none]) (.em (.pr (.binOp .geq 3 (.tmp 0) (.const (.int .i64 0)) 3) 4 [.s (.c 18 0), .s (.k (.int .i64 0))]) (.cond (.c 19 0) (.ret (.v (.s (.k (.bool false))))) (.em (.pr (.indexAddr 27 (.tmp 0) (.tmp 1)) 0 [.s (.c 1 0), .s (.c 9 1)]) (.em (.pr (.fieldAddr 54 (.tmp 0) 0) 0 [.s (.c 20 0)]) (.em (.pr (.indexAddr 27 (.tmp 0) (.tmp 1)) 0 [.s (.c 0 0), .s (.c 9 1)]) (.em (.pr (.fieldAddr 54 (.tmp 0) 1) 0 [.s (.c 22 0)]) (.both (.em (.ld (.load 48 (.tmp 0)) 48 [.s (.c 21 0)] (some 3)) (.em (.ld (.load 48 (.tmp 0)) 48 [.s (.c 23 0)] (some 3)) (.em (.call 30 [.g [.c 24 0, .c 24 1, .c 24 2], .g [.c 25 0, .c 25 1, .c 25 2]] [none]) (.em (.pr (.binOp .geq 3 (.tmp 0) (.const (.int .i64 0)) 3) 4 [.s (.c 26 0), .s (.k (.int .i64 0))]) (.cond (.c 27 0) (.ret (.v (.s (.k (.bool false))))) (.em (.pr (.binOp .add 3 (.tmp 0) (.const (.int .i64 1)) 3) 3 [.s (.c 9 1), .s (.k (.int .i64 1))]) (.back 0 [.c 9 0, .c 28 0]))))))) (.em (.ld (.load 48 (.tmp 0)) 48 [.s (.c 23 0)] (some 3)) (.em (.ld (.load 48 (.tmp 0)) 48 [.s (.c 21 0)] (some 3)) (.em (.call 30 [.g [.c 25 0, .c 25 1, .c 25 2], .g [.c 24 0, .c 24 1, .c 24 2]] [none]) (.em (.pr (.binOp .geq 3 (.tmp 0) (.const (.int .i64 0)) 3) 4 [.s (.c 26 0), .s (.k (.int .i64 0))]) (.cond (.c 27 0) (.ret (.v (.s (.k (.bool false))))) (.em (.pr (.binOp .add 3 (.tmp 0) (.const (.int .i64 1)) 3) 3 [.s (.c 9 1), .s (.k (.int .i64 1))]) (.back 0 [.c 9 0, .c 28 0]))))))))))))))))))))) (.ret (.v (.s (.k (.bool true)))))))))))))))))))) (by kernel_rfl) (by kernel_rfl) (by kernel_rfl) rfl (fun w0 => ?_)
  refine aCall rfl (dright_ct _ _) (fun γ => ?_)
  refine aPr rfl (prNot rfl) rfl ?_
  refine aIf rfl (fun h1 => ?_) (fun h1 => ?_)
  · have e := not_eq h1
    exact aRet (fun _ => 0) rfl rfl (by rw [likeB, e, Bool.and_false, Bool.false_and, Bool.false_and]; rfl)
  have hr := not_eq' h1
  have hp := right_pos hr
  refine aCall rfl (dright_ct _ _) (fun γ => ?_)
  refine aPr rfl (prNot rfl) rfl ?_
  refine aIf rfl (fun h1 => ?_) (fun h1 => ?_)
  · have e := not_eq h1
    exact aRet (fun _ => 0) rfl rfl (by rw [likeB, e, Bool.and_false, Bool.false_and]; rfl)
  have hr' := not_eq' h1
  refine aLen rfl (List.length_map _) ?_
  refine aLen rfl (List.length_map _) ?_
  refine aPr rfl (prNe rfl rfl) rfl ?_
  refine aIf rfl (fun h2 => ?_) (fun h2 => ?_)
  · have e : decide (ss.length = ts.length) = false := by simp at h2; simp; omega
    exact aRet (fun _ => 0) rfl rfl (by rw [likeB, e, Bool.false_and, Bool.false_and, Bool.false_and]; rfl)
  have hl : ss.length = ts.length := by simp at h2; omega
  have hlike : likeB ss ts = true := by simp [likeB, hl, hr, hr']
  rw [hlike, Bool.true_and]
  refine aLoop (fun i : Nat => [.ro true (pV (.bool false)), .ro true (pV (.int .i64 i))]) (fun i => i ≤ ss.length ∧ ∀ (j : Nat) (s t : Rat × Rat), j < i → ss[j]? = some s → ts[j]? = some t → sideM s t = true) (fun i => ss.length - i) 0 rfl ⟨Nat.zero_le _, fun j s t hj => by omega⟩ (fun i ⟨hi, hs⟩ => ?_)
  refine aLen rfl (List.length_map _) ?_
  refine aPr rfl (prLt rfl rfl) rfl ?_
  refine aIf rfl (fun h3 => ?_) (fun h3 => ?_)
  · have hlt : i < ss.length := by simpa using h3
    obtain ⟨s, he⟩ := at_some hlt
    obtain ⟨t, hx⟩ := at_some (show i < ts.length by omega)
    refine aIdx rfl rfl (fun _ => rfl) (by omega) (rowD_at he) ?_
    refine aField (off := 0) rfl (by kernel_rfl) rfl ?_
    refine aIdx rfl rfl (fun _ => rfl) (by omega) (rowD_at hx) ?_
    refine aField (off := 3) rfl (by kernel_rfl) rfl ?_
    refine aLd rfl rfl rfl ?_
    refine aLd rfl rfl rfl ?_
    refine aCall rfl (dcmp_ct _ _ _ _) (fun γ => ?_)
    refine aPr rfl (prGe rfl rfl) rfl ?_
    refine aIf rfl (fun h4 => ?_) (fun h4 => ?_)
    · have h6 := cT_ge h4
      have h5 : sideM s t = false := by simp only [sideM, Bool.and_eq_false_iff, decide_eq_false_iff_not]; left; grind
      exact aRet (fun _ => 0) rfl rfl (by rw [both_no he hx h5]; rfl)
    have h6 := cF_ge h4
    refine aIdx rfl rfl (fun _ => rfl) (by omega) (rowD_at hx) ?_
    refine aField (off := 0) rfl (by kernel_rfl) rfl ?_
    refine aIdx rfl rfl (fun _ => rfl) (by omega) (rowD_at he) ?_
    refine aField (off := 3) rfl (by kernel_rfl) rfl ?_
    refine aTwo ?_ ?_
    · refine aLd rfl rfl rfl ?_
      refine aLd rfl rfl rfl ?_
      refine aCall rfl (dcmp_ct _ _ _ _) (fun γ => ?_)
      refine aPr rfl (prGe rfl rfl) rfl ?_
      refine aIf rfl (fun h4 => ?_) (fun h4 => ?_)
      · have h7 := cT_ge h4
        have h5 : sideM s t = false := by simp only [sideM, Bool.and_eq_false_iff, decide_eq_false_iff_not]; right; grind
        exact aRet (fun _ => 0) rfl rfl (by rw [both_no he hx h5]; rfl)
      · have h7 := cF_ge h4
        have h5 : sideM s t = true := by simp only [sideM, Bool.and_eq_true, decide_eq_true_eq]; exact ⟨h6, h7⟩
        refine aPr rfl (prAddI rfl rfl (by omega) (by omega)) rfl ?_
        refine aBack rfl rfl ⟨i + 1, rfl, rfl, ⟨hlt, fun j s' t' hj hs' ht' => ?_⟩, by omega⟩
        by_cases hji : j = i
        · subst hji; rw [he] at hs'; rw [hx] at ht'; cases hs'; cases ht'; exact h5
        · exact hs j s' t' (by omega) hs' ht'
    · refine aLd rfl rfl rfl ?_
      refine aLd rfl rfl rfl ?_
      refine aCall rfl (dcmp_ct _ _ _ _) (fun γ => ?_)
      refine aPr rfl (prGe rfl rfl) rfl ?_
      refine aIf rfl (fun h4 => ?_) (fun h4 => ?_)
      · have h7 := cT_ge h4
        have h5 : sideM s t = false := by simp only [sideM, Bool.and_eq_false_iff, decide_eq_false_iff_not]; right; grind
        exact aRet (fun _ => 0) rfl rfl (by rw [both_no he hx h5]; rfl)
      · have h7 := cF_ge h4
        have h5 : sideM s t = true := by simp only [sideM, Bool.and_eq_true, decide_eq_true_eq]; exact ⟨h6, h7⟩
        refine aPr rfl (prAddI rfl rfl (by omega) (by omega)) rfl ?_
        refine aBack rfl rfl ⟨i + 1, rfl, rfl, ⟨hlt, fun j s' t' hj hs' ht' => ?_⟩, by omega⟩
        by_cases hji : j = i
        · subst hji; rw [he] at hs'; rw [hx] at ht'; cases hs'; cases ht'; exact h5
        · exact hs j s' t' (by omega) hs' ht'
  · have hi2 : i = ss.length := by have : ¬ i < ss.length := (by simpa using h3); omega
    have h6 : bothB sideM ss ts = true := both_all fun j s t h1 h2 => hs j s t (by have := (List.getElem?_eq_some_iff.1 h1).1; omega) h1 h2
    exact aRet (fun _ => 0) rfl rfl (by rw [h6]; rfl)
theorem dbhas_ct (ss : List (Rat × Rat)) (ts : List Rat) (k j : Nat) (hk : k ≤ 3000 := by omega) (hj : j ≤ 3000 := by omega) : Ct Tryz.prog JT 16 [none, none] [[pBoxD ss k], [pRatsD ts j]] [none] (fun _ => [.ro false (pV (.bool (hasB ss ts)))]) := by
  refine aCt (D := DD) hMix (tr := (.em (.call 9 [.s (.c 0 0)] [none]) (.em (.pr (.unOp .not 4 (.tmp 0)) 4 [.s (.c 2 0)]) (.cond (.c 3 0) (.ret (.v (.s (.k (.bool false))))) (.em (.pr (.call (.mk (.builtin .len) #[.tmp 0] #[36])) 3 [.s (.c 1 0)]) (.em (.pr (.call (.mk (.builtin .len) #[.tmp 0] #[27])) 3 [.s (.c 0 0)]) (.em (.pr (.binOp .neq 3 (.tmp 0) (.tmp 1) 3) 4 [.s (.c 4 0), .s (.c 5 0)]) (.cond (.c 6 0) (.ret (.v (.s (.k (.bool false))))) (.loop 0 [.k (.bool false), .k (.int .i64 0)] (.em (.pr (.call (.mk (.builtin .len) #[.tmp 0] #[27])) 3 [.s (.c 0 0)]) (.em (.pr (.binOp .lss 3 (.tmp 0) (.tmp 1) 3) 4 [.s (.c 7 1), .s (.c 8 0)]) (.cond (.c 9 0) (.em (.pr (.indexAddr 27 (.tmp 0) (.tmp 1)) 0 [.s (.c 0 0), .s (.c 7 1)]) (.em (.pr (.indexAddr 36 (.tmp 0) (.tmp 1)) 0 [.s (.c 1 0), .s (.c 7 1)]) (.em (.ld (.load 54 (.tmp 0)) 54 [.s (.c 10 0)] (some 6)) (.em (.ld (.load 48 (.tmp 0)) 48 [.s (.c 11 0)] (some 3)) (.em (.call 38 [.g [.c 12 0, .c 12 1, .c 12 2, .c 12 3, .c 12 4, .c 12 5], .g [.c 13 0, .c 13 1, .c 13 2]] [none]) (.em (.pr (.unOp .not 4 (.tmp 0)) 4 [.s (.c 14 0)]) (.cond (.c 15 0) (.ret (.v (.s (.k (.bool false))))) (.em (.pr (.binOp .add 3 (.tmp 0) (.const (.int .i64 1)) 3) 3 [.s (.c 7 1), .s (.k (.int .i64 1))]) (.back 0 [.c 7 0, .c 16 0]))))))))) (.ret (.v (.s (.k (.bool true))))))))))))))))) (by kernel_rfl) (by kernel_rfl) (by kernel_rfl) rfl (fun w0 => ?_)
  refine aCall rfl (dright_ct _ _) (fun γ => ?_)
  refine aPr rfl (prNot rfl) rfl ?_
  refine aIf rfl (fun h1 => ?_) (fun h1 => ?_)
  · have e := not_eq h1
    exact aRet (fun _ => 0) rfl rfl (by rw [hasB, e]; rfl)
  have hr := not_eq' h1
  have hp := right_pos hr
  refine aLen rfl (List.length_map _) ?_
  refine aLen rfl (List.length_map _) ?_
  refine aPr rfl (prNe rfl rfl) rfl ?_
  refine aIf rfl (fun h2 => ?_) (fun h2 => ?_)
  · have e : decide (ss.length = ts.length) = false := by simp at h2; simp; omega
    exact aRet (fun _ => 0) rfl rfl (by rw [hasB, e, Bool.and_false]; rfl)
  have hl : ss.length = ts.length := by simp at h2; omega
  have e : decide (ss.length = ts.length) = true := by simp [hl]
  refine aLoop (fun i : Nat => [.ro true (pV (.bool false)), .ro true (pV (.int .i64 i))]) (fun i => i ≤ ss.length ∧ ∀ (j : Nat) (s : Rat × Rat) (x : Rat), j < i → ss[j]? = some s → ts[j]? = some x → (decide (s.1 ≤ x) && decide (x ≤ s.2)) = true) (fun i => ss.length - i) 0 rfl ⟨Nat.zero_le _, fun j s x hj => by omega⟩ (fun i ⟨hi, hs⟩ => ?_)
  refine aLen rfl (List.length_map _) ?_
  refine aPr rfl (prLt rfl rfl) rfl ?_
  refine aIf rfl (fun h3 => ?_) (fun h3 => ?_)
  · have hlt : i < ss.length := by simpa using h3
    obtain ⟨s, he⟩ := at_some hlt
    obtain ⟨x, hx⟩ := at_some (show i < ts.length by omega)
    refine aIdx rfl rfl (fun _ => rfl) (by omega) (rowD_at he) ?_
    refine aIdx rfl rfl (fun _ => rfl) (by omega) (map_at (f := fun x => [pD x j]) hx) ?_
    refine aLd rfl rfl rfl ?_
    refine aLd rfl rfl rfl ?_
    refine aCall rfl (dshas_ct _ _ _ _ _) (fun γ => ?_)
    refine aPr rfl (prNot rfl) rfl ?_
    refine aIf rfl (fun h4 => ?_) (fun h4 => ?_)
    · have h5 := not_eq h4
      have h6 := all_no (p := fun p : (Rat × Rat) × Rat => decide (p.1.1 ≤ p.2) && decide (p.2 ≤ p.1.2)) (zip_at he hx) h5
      exact aRet (fun _ => 0) rfl rfl (by rw [hasB, h6, Bool.and_false]; rfl)
    · have h5 := not_eq' h4
      refine aPr rfl (prAddI rfl rfl (by omega) (by omega)) rfl ?_
      refine aBack rfl rfl ⟨i + 1, rfl, rfl, ⟨hlt, fun j s' x' hj hs' hx' => ?_⟩, by omega⟩
      by_cases hji : j = i
      · subst hji; rw [he] at hs'; rw [hx] at hx'; cases hs'; cases hx'; exact h5
      · exact hs j s' x' (by omega) hs' hx'
  · have hi2 : i = ss.length := by have : ¬ i < ss.length := (by simpa using h3); omega
    have h6 : ((ss.zip ts).all fun p => decide (p.1.1 ≤ p.2) && decide (p.2 ≤ p.1.2)) = true := all_of fun j p hp => by
      obtain ⟨s, x⟩ := p
      have hjl := (List.getElem?_eq_some_iff.1 hp).1
      rw [List.length_zip] at hjl
      obtain ⟨s', h1⟩ := at_some (show j < ss.length by omega)
      obtain ⟨x', h2⟩ := at_some (show j < ts.length by omega)
      rw [zip_at h1 h2] at hp
      cases hp
      exact hs j s x (by omega) h1 h2
    exact aRet (fun _ => 0) rfl rfl (by rw [hasB, h6, hr, e]; rfl)
theorem least_ct (xs : List Rat) (k : Nat) (lo hi : Rat) (hl : xs.length ≤ 1000) (h1 : ∀ q ∈ xs, lo ≤ q ∧ q ≤ hi) (h2 : lo ∈ xs) (h3 : hi ∈ xs) (hk : k ≤ 3000 := by omega) : Ct Tryz.prog JT 17 [none] [[pRatsD xs k]] [some 6] (fun _ => [.ro false (pD lo k), .ro false (pD hi k)]) := by
  have hpos := List.length_pos_of_mem h2
  obtain ⟨q0, hq0⟩ := at_some hpos
  refine aCt (D := DD) hMix (tr := (.em (.pr (.indexAddr 36 (.tmp 0) (.const (.int .i64 0))) 0 [.s (.c 0 0), .s (.k (.int .i64 0))]) (.em (.pr (.indexAddr 36 (.tmp 0) (.const (.int .i64 0))) 0 [.s (.c 0 0), .s (.k (.int .i64 0))]) (.em (.ld (.load 48 (.tmp 0)) 48 [.s (.c 1 0)] (some 3)) (.em (.ld (.load 48 (.tmp 0)) 48 [.s (.c 2 0)] (some 3)) (.loop 0 [.k (.int .i64 1), .c 3 0, .c 3 1, .c 3 2, .c 4 0, .c 4 1, .c 4 2] (.em (.pr (.call (.mk (.builtin .len) #[.tmp 0] #[36])) 3 [.s (.c 0 0)]) (.em (.pr (.binOp .lss 3 (.tmp 0) (.tmp 1) 3) 4 [.s (.c 5 0), .s (.c 6 0)]) (.cond (.c 7 0) (.em (.pr (.indexAddr 36 (.tmp 0) (.tmp 1)) 0 [.s (.c 0 0), .s (.c 5 0)]) (.em (.ld (.load 48 (.tmp 0)) 48 [.s (.c 8 0)] (some 3)) (.em (.call 30 [.g [.c 9 0, .c 9 1, .c 9 2], .g [.c 5 1, .c 5 2, .c 5 3]] [none]) (.em (.pr (.binOp .lss 3 (.tmp 0) (.const (.int .i64 0)) 3) 4 [.s (.c 10 0), .s (.k (.int .i64 0))]) (.cond (.c 11 0) (.em (.pr (.indexAddr 36 (.tmp 0) (.tmp 1)) 0 [.s (.c 0 0), .s (.c 5 0)]) (.em (.ld (.load 48 (.tmp 0)) 48 [.s (.c 12 0)] (some 3)) (.em (.pr (.indexAddr 36 (.tmp 0) (.tmp 1)) 0 [.s (.c 0 0), .s (.c 5 0)]) (.em (.ld (.load 48 (.tmp 0)) 48 [.s (.c 14 0)] (some 3)) (.em (.call 30 [.g [.c 15 0, .c 15 1, .c 15 2], .g [.c 5 4, .c 5 5, .c 5 6]] [none]) (.em (.pr (.binOp .gtr 3 (.tmp 0) (.const (.int .i64 0)) 3) 4 [.s (.c 16 0), .s (.k (.int .i64 0))]) (.cond (.c 17 0) (.em (.pr (.indexAddr 36 (.tmp 0) (.tmp 1)) 0 [.s (.c 0 0), .s (.c 5 0)]) (.em (.ld (.load 48 (.tmp 0)) 48 [.s (.c 18 0)] (some 3)) (.em (.pr (.binOp .add 3 (.tmp 0) (.const (.int .i64 1)) 3) 3 [.s (.c 5 0), .s (.k (.int .i64 1))]) (.back 0 [.c 20 0, .c 13 0, .c 13 1, .c 13 2, .c 19 0, .c 19 1, .c 19 2])))) (.em (.pr (.binOp .add 3 (.tmp 0) (.const (.int .i64 1)) 3) 3 [.s (.c 5 0), .s (.k (.int .i64 1))]) (.back 0 [.c 18 0, .c 13 0, .c 13 1, .c 13 2, .c 5 4, .c 5 5, .c 5 6]))))))))) (.em (.pr (.indexAddr 36 (.tmp 0) (.tmp 1)) 0 [.s (.c 0 0), .s (.c 5 0)]) (.em (.ld (.load 48 (.tmp 0)) 48 [.s (.c 12 0)] (some 3)) (.em (.call 30 [.g [.c 13 0, .c 13 1, .c 13 2], .g [.c 5 4, .c 5 5, .c 5 6]] [none]) (.em (.pr (.binOp .gtr 3 (.tmp 0) (.const (.int .i64 0)) 3) 4 [.s (.c 14 0), .s (.k (.int .i64 0))]) (.cond (.c 15 0) (.em (.pr (.indexAddr 36 (.tmp 0) (.tmp 1)) 0 [.s (.c 0 0), .s (.c 5 0)]) (.em (.ld (.load 48 (.tmp 0)) 48 [.s (.c 16 0)] (some 3)) (.em (.pr (.binOp .add 3 (.tmp 0) (.const (.int .i64 1)) 3) 3 [.s (.c 5 0), .s (.k (.int .i64 1))]) (.back 0 [.c 18 0, .c 5 1, .c 5 2, .c 5 3, .c 17 0, .c 17 1, .c 17 2])))) (.em (.pr (.binOp .add 3 (.tmp 0) (.const (.int .i64 1)) 3) 3 [.s (.c 5 0), .s (.k (.int .i64 1))]) (.back 0 [.c 16 0, .c 5 1, .c 5 2, .c 5 3, .c 5 4, .c 5 5, .c 5 6])))))))))))) (.ret (.v (.g [.c 5 1, .c 5 2, .c 5 3, .c 5 4, .c 5 5, .c 5 6])))))))))))) (by kernel_rfl) (by kernel_rfl) (by kernel_rfl) rfl (fun w0 => ?_)
  refine aIdx rfl rfl (fun _ => rfl) (by omega) (map_at (f := fun x => [pD x k]) hq0) ?_
  refine aIdx rfl rfl (fun _ => rfl) (by omega) (map_at (f := fun x => [pD x k]) hq0) ?_
  refine aLd rfl rfl rfl ?_
  refine aLd rfl rfl rfl ?_
  have first : ∀ (j : Nat) (q : Rat), j < 1 → xs[j]? = some q → q0 ≤ q ∧ q ≤ q0 := fun j q hj hq => by
    obtain rfl : j = 0 := by omega
    rw [hq0] at hq; cases hq; exact ⟨by grind, by grind⟩
  refine aLoop (fun s : Nat × Rat × Rat => [.ro true (pV (.int .i64 s.1)), .ro true (pD s.2.1 k), .ro true (pD s.2.2 k)]) (fun s => 1 ≤ s.1 ∧ s.1 ≤ xs.length ∧ s.2.1 ∈ xs ∧ s.2.2 ∈ xs ∧ ∀ (j : Nat) (q : Rat), j < s.1 → xs[j]? = some q → s.2.1 ≤ q ∧ q ≤ s.2.2) (fun s => xs.length - s.1) (1, q0, q0) rfl
    ⟨Nat.le_refl _, hpos, List.mem_of_getElem? hq0, List.mem_of_getElem? hq0, first⟩ (fun s ⟨hi1, hi2, hl1, hh1, hall⟩ => ?_)
  obtain ⟨i, l, h⟩ := s
  simp only at hi1 hi2 hl1 hh1 hall ⊢
  refine aLen rfl (List.length_map _) ?_
  refine aPr rfl (prLt rfl rfl) rfl ?_
  refine aIf rfl (fun e1 => ?_) (fun e1 => ?_)
  · have hlt : i < xs.length := by simpa using e1
    obtain ⟨q, hq⟩ := at_some hlt
    have hm := List.mem_of_getElem? hq
    have next : ∀ l' h' : Rat, l' ≤ l → h ≤ h' → l' ≤ q → q ≤ h' → ∀ (j : Nat) (p : Rat), j < i + 1 → xs[j]? = some p → l' ≤ p ∧ p ≤ h' := fun l' h' k1 k2 k3 k4 j p hj hp => by
      by_cases e : j = i
      · subst e; rw [hq] at hp; cases hp; exact ⟨k3, k4⟩
      · have := hall j p (by omega) hp; exact ⟨by grind, by grind⟩
    refine aIdx rfl rfl (fun _ => rfl) (by omega) (map_at (f := fun x => [pD x k]) hq) ?_
    refine aLd rfl rfl rfl ?_
    refine aCall rfl (dcmp_ct _ _ _ _) (fun γ => ?_)
    refine aPr rfl (prLt rfl rfl) rfl ?_
    refine aIf rfl (fun h4 => ?_) (fun h4 => ?_)
    · have c1 := cT_lt h4
      refine aIdx rfl rfl (fun _ => rfl) (by omega) (map_at (f := fun x => [pD x k]) hq) ?_
      refine aLd rfl rfl rfl ?_
      refine aIdx rfl rfl (fun _ => rfl) (by omega) (map_at (f := fun x => [pD x k]) hq) ?_
      refine aLd rfl rfl rfl ?_
      refine aCall rfl (dcmp_ct _ _ _ _) (fun γ => ?_)
      refine aPr rfl (prGt rfl rfl) rfl ?_
      refine aIf rfl (fun h5 => ?_) (fun h5 => ?_)
      · have c2 := cT_gt h5
        refine aIdx rfl rfl (fun _ => rfl) (by omega) (map_at (f := fun x => [pD x k]) hq) ?_
        refine aLd rfl rfl rfl ?_
        refine aPr rfl (prAddI rfl rfl (by omega) (by omega)) rfl ?_
        exact aBack rfl rfl ⟨(i + 1, q, q), rfl, rfl, ⟨by omega, hlt, hm, hm, next q q (by grind) (by grind) (by grind) (by grind)⟩, by show xs.length - (i + 1) < xs.length - i; omega⟩
      · have c2 := cF_gt h5
        refine aPr rfl (prAddI rfl rfl (by omega) (by omega)) rfl ?_
        exact aBack rfl rfl ⟨(i + 1, q, h), rfl, rfl, ⟨by omega, hlt, hm, hh1, next q h (by grind) (by grind) (by grind) (by grind)⟩, by show xs.length - (i + 1) < xs.length - i; omega⟩
    · have c1 := cF_lt h4
      refine aIdx rfl rfl (fun _ => rfl) (by omega) (map_at (f := fun x => [pD x k]) hq) ?_
      refine aLd rfl rfl rfl ?_
      refine aCall rfl (dcmp_ct _ _ _ _) (fun γ => ?_)
      refine aPr rfl (prGt rfl rfl) rfl ?_
      refine aIf rfl (fun h5 => ?_) (fun h5 => ?_)
      · have c2 := cT_gt h5
        refine aIdx rfl rfl (fun _ => rfl) (by omega) (map_at (f := fun x => [pD x k]) hq) ?_
        refine aLd rfl rfl rfl ?_
        refine aPr rfl (prAddI rfl rfl (by omega) (by omega)) rfl ?_
        exact aBack rfl rfl ⟨(i + 1, l, q), rfl, rfl, ⟨by omega, hlt, hl1, hm, next l q (by grind) (by grind) (by grind) (by grind)⟩, by show xs.length - (i + 1) < xs.length - i; omega⟩
      · have c2 := cF_gt h5
        refine aPr rfl (prAddI rfl rfl (by omega) (by omega)) rfl ?_
        exact aBack rfl rfl ⟨(i + 1, l, h), rfl, rfl, ⟨by omega, hlt, hl1, hh1, next l h (by grind) (by grind) (by grind) (by grind)⟩, by show xs.length - (i + 1) < xs.length - i; omega⟩
  · have hi3 : i = xs.length := by have : ¬ i < xs.length := (by simpa using e1); omega
    subst hi3
    obtain ⟨j1, hj1⟩ := List.getElem?_of_mem h2
    obtain ⟨j2, hj2⟩ := List.getElem?_of_mem h3
    have a1 := (hall j1 lo (List.getElem?_eq_some_iff.1 hj1).1 hj1).1
    have a2 := (hall j2 hi (List.getElem?_eq_some_iff.1 hj2).1 hj2).2
    have a3 := (h1 l hl1).1
    have a4 := (h1 h hh1).2
    have e3 : l = lo := by grind
    have e4 : h = hi := by grind
    subst e3
    subst e4
    exact aRet (fun _ => 0) rfl rfl rfl
end Go.Proofs.YtpmnakjllkidiaaGreatDoor
