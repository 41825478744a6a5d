/- Contracts of the document's boxes, and of what helps the laws. -/
import Derived.Test.YtkekgmdofgkbcaaGreatDoorYx
import Derived.Test.YtkekgmdofgkbcaaGreatDoorYt
import Derived.Test.YtkekgmdofgkbcaaGreatDoorYu
import Derived.ChangeSame
import Derived.ChangeMaps5
import Derived.Deep.SlicePairs
import Derived.Carry
namespace Go.Proofs.YtkekgmdofgkbcaaGreatDoor
open Go.RowKit Cin
def dspanR : Rty := ⟨62, 6, [190], []⟩
abbrev rowsD (ss : List (Rat × Rat)) (k : Nat) : List (List Pd) := ss.map fun s => [pD s.1 k, pD s.2 k]
abbrev pBoxD (ss : List (Rat × Rat)) (k : Nat) : Pd := pRows dspanR (rowsD ss k)
theorem rowD_at {ss : List (Rat × Rat)} {i k : Nat} {s : Rat × Rat} (h : ss[i]? = some s) : (rowsD ss k)[i]? = some [pD s.1 k, pD s.2 k] := by simp [h]
def DDS : TypeId → Bool := fun t => t == 190 || t == 62
def zDspan : List Pd := [pV (.bool false), pV (.slice none 0 0), pV (.slice none 0 0), pV (.bool false), pV (.slice none 0 0), pV (.slice none 0 0)]
theorem rowsD_take {ss : List (Rat × Rat)} {i k : Nat} {s : Rat × Rat} (h : ss[i]? = some s) : rowsD (ss.take i) k ++ [[pD s.1 k, pD s.2 k]] = rowsD (ss.take (i + 1)) k := by
  have hlt := (List.getElem?_eq_some_iff.1 h).1
  rw [rowsD, rowsD, ← List.take_append_getElem hlt, List.map_append]
  rw [(List.getElem?_eq_some_iff.1 h).2]; rfl
theorem dparse_ct (ts : List (ByteArray × ByteArray)) (hf : Fits ts) (h : boxC ts = 0) : Ct Tryz.prog JT 12 [none] [[pTexts ts]] [none, none] (fun γ => [.own (γ 0) dspanR (rowsD (valsB ts) 500), .ro false (pV (.int .i64 0))]) := by
  obtain ⟨hl1, hl3, hall⟩ := boxC_ok h
  have hml : (valsB ts).length = ts.length := by simp [valsB]
  refine aCt (D := DDS) hMix (tr := (.em (.pr (.call (.mk (.builtin .len) #[.tmp 0] #[22])) 3 [.s (.c 0 0)]) (.em (.pr (.binOp .lss 3 (.tmp 0) (.const (.int .i64 1)) 3) 4 [.s (.c 1 0), .s (.k (.int .i64 1))]) (.cond (.c 2 0) (.ret (.t [.s (.k (.slice none 0 0)), .s (.k (.int .i64 1))])) (.em (.pr (.call (.mk (.builtin .len) #[.tmp 0] #[22])) 3 [.s (.c 0 0)]) (.em (.pr (.binOp .gtr 3 (.tmp 0) (.const (.int .i64 3)) 3) 4 [.s (.c 3 0), .s (.k (.int .i64 3))]) (.cond (.c 4 0) (.ret (.t [.s (.k (.slice none 0 0)), .s (.k (.int .i64 1))])) (.loop 0 [.k (.slice none 0 0), .k (.int .i64 0), .k (.slice none 0 0), .k (.int .i64 0)] (.em (.pr (.call (.mk (.builtin .len) #[.tmp 0] #[22])) 3 [.s (.c 0 0)]) (.em (.pr (.binOp .lss 3 (.tmp 0) (.tmp 1) 3) 4 [.s (.c 5 3), .s (.c 6 0)]) (.cond (.c 7 0) (.em (.pr (.indexAddr 22 (.tmp 0) (.tmp 1)) 0 [.s (.c 0 0), .s (.c 5 3)]) (.em (.ld (.load 95 (.tmp 0)) 95 [.s (.c 8 0)] (some 2)) (.em (.call 44 [.g [.c 9 0, .c 9 1]] [some 6, none]) (.em (.wx (.alloc 62) 0 [] (some none)) (.em (.wx (.store 62 (.tmp 0) (.tmp 1)) 0 [.s (.c 11 0), .g [.c 10 0, .c 10 1, .c 10 2, .c 10 3, .c 10 4, .c 10 5]] none) (.em (.pr (.binOp .neq 27 (.tmp 0) (.const (.int .i64 0)) 27) 4 [.s (.c 10 6), .s (.k (.int .i64 0))]) (.cond (.c 13 0) (.ret (.t [.s (.k (.slice none 0 0)), .s (.c 10 6)])) (.em (.pr (.fieldAddr 62 (.tmp 0) 0) 0 [.s (.c 11 0)]) (.em (.ld (.load 59 (.tmp 0)) 59 [.s (.c 14 0)] (some 3)) (.em (.pr (.fieldAddr 62 (.tmp 0) 1) 0 [.s (.c 11 0)]) (.em (.ld (.load 59 (.tmp 0)) 59 [.s (.c 16 0)] (some 3)) (.em (.call 45 [.g [.c 15 0, .c 15 1, .c 15 2], .g [.c 17 0, .c 17 1, .c 17 2]] [none]) (.em (.pr (.binOp .geq 3 (.tmp 0) (.const (.int .i64 0)) 3) 4 [.s (.c 18 0), .s (.k (.int .i64 0))]) (.cond (.c 19 0) (.ret (.t [.s (.k (.slice none 0 0)), .s (.k (.int .i64 1))])) (.em (.pr (.fieldAddr 62 (.tmp 0) 0) 0 [.s (.c 11 0)]) (.em (.ld (.load 59 (.tmp 0)) 59 [.s (.c 20 0)] (some 3)) (.em (.call 46 [.g [.c 21 0, .c 21 1, .c 21 2]] [none]) (.em (.pr (.unOp .not 4 (.tmp 0)) 4 [.s (.c 22 0)]) (.cond (.c 23 0) (.ret (.t [.s (.k (.slice none 0 0)), .s (.k (.int .i64 2))])) (.em (.pr (.fieldAddr 62 (.tmp 0) 1) 0 [.s (.c 11 0)]) (.em (.ld (.load 59 (.tmp 0)) 59 [.s (.c 24 0)] (some 3)) (.em (.call 46 [.g [.c 25 0, .c 25 1, .c 25 2]] [none]) (.em (.pr (.unOp .not 4 (.tmp 0)) 4 [.s (.c 26 0)]) (.cond (.c 27 0) (.ret (.t [.s (.k (.slice none 0 0)), .s (.k (.int .i64 2))])) (.em (.ld (.load 62 (.tmp 0)) 62 [.s (.c 11 0)] (some 6)) (.em (.wx (.buildSlice 30 1 #[(0, .tmp 0)]) 30 [.g [.c 28 0, .c 28 1, .c 28 2, .c 28 3, .c 28 4, .c 28 5]] (some none)) (.em (.wx (.call (.mk (.builtin .append) #[.tmp 0, .tmp 1] #[30, 30])) 30 [.s (.c 5 2), .s (.c 29 0)] (some none)) (.em (.pr (.binOp .add 3 (.tmp 0) (.const (.int .i64 1)) 3) 3 [.s (.c 5 3), .s (.k (.int .i64 1))]) (.back 0 [.c 5 0, .c 5 1, .c 30 0, .c 31 0]))))))))))))))))))))))))))))) (.ret (.t [.s (.c 5 2), .s (.k (.int .i64 0))]))))))))))))) (by kernel_rfl) (by kernel_rfl) (by kernel_rfl) rfl (fun w0 => ?_)
  refine aLen rfl (List.length_map _) ?_
  refine aPr rfl (prLt rfl rfl) rfl ?_
  rw [decide_eq_false (by omega)]
  refine aFalse rfl ?_
  refine aLen rfl (List.length_map _) ?_
  refine aPr rfl (prGt rfl rfl) rfl ?_
  rw [decide_eq_false (by omega)]
  refine aFalse rfl ?_
  refine aLoopC [] (fun s : Nat × Nat => [.ro true (pV (.slice none 0 0)), .ro true (pV (.int .i64 0)), .own s.2 dspanR (rowsD ((valsB ts).take s.1) 500), .ro true (pV (.int .i64 s.1))]) (fun s => s.1 ≤ ts.length) (fun s => ts.length - s.1) (0, 0) (Nat.zero_le _) (fun s hi => ?_)
  obtain ⟨i, g⟩ := s
  simp only at hi ⊢
  refine aLen rfl (List.length_map _) ?_
  refine aPr rfl (prLt rfl rfl) rfl ?_
  refine aIf rfl (fun h3 => ?_) (fun h3 => ?_)
  · have hlt : i < ts.length := by simpa using h3
    obtain ⟨t, he⟩ := at_some hlt
    have hm := List.mem_of_getElem? he
    obtain ⟨hsp, hlt2, d1, d2⟩ := sideC_ok (hall t hm)
    refine aIdx rfl rfl (fun _ => rfl) (by omega) (map_at (f := fun x : ByteArray × ByteArray => [pV (.string x.1), pV (.string x.2)]) he) ?_
    refine aLd rfl rfl rfl ?_
    refine aCall rfl (dsparse_ct _ _ (hf t hm).1 (hf t hm).2 hsp) (fun γ => ?_)
    refine aAlloc dspanR (zs := ZeroT) (row := zDspan) rfl (fun g11 => ?_)
    refine aStore 11 0 0 0 rfl rfl rfl rfl rfl rfl rfl rfl ?_
    refine aPr rfl (prNe rfl rfl) rfl ?_
    refine aFalse rfl ?_
    refine aFieldK (off := 0) rfl (by kernel_rfl) ?_
    refine aLdK 11 0 0 0 rfl rfl rfl rfl rfl rfl ?_
    refine aFieldK (off := 3) rfl (by kernel_rfl) ?_
    refine aLdK 11 0 0 3 rfl rfl rfl rfl rfl rfl ?_
    refine aCall rfl (dcmp_ct _ _ _ _) (fun γ => ?_)
    refine aPrE rfl (prGe rfl rfl) (by rw [v_ge]) rfl ?_
    rw [decide_eq_false (show ¬ ratVal t.2 ≤ ratVal t.1 by grind)]
    refine aFalse rfl ?_
    refine aFieldK (off := 0) rfl (by kernel_rfl) ?_
    refine aLdK 11 0 0 0 rfl rfl rfl rfl rfl rfl ?_
    refine aCall rfl (ddyadic_ct _ _) (fun γ => ?_)
    rw [decide_eq_true d1]
    refine aPr rfl (prNot rfl) rfl ?_
    refine aFalse rfl ?_
    refine aFieldK (off := 3) rfl (by kernel_rfl) ?_
    refine aLdK 11 0 0 3 rfl rfl rfl rfl rfl rfl ?_
    refine aCall rfl (ddyadic_ct _ _) (fun γ => ?_)
    rw [decide_eq_true d2]
    refine aPr rfl (prNot rfl) rfl ?_
    refine aFalse rfl ?_
    refine aLdK 11 0 0 0 rfl rfl rfl rfl rfl rfl ?_
    refine aBuild dspanR rfl (fun g29 => ?_)
    refine aAppend [] rfl rfl (zs := ZeroT) (by simp [hml]; omega) (fun g30 => ?_)
    rw [rowsD_take (vals_at he)]
    refine aPr rfl (prAddI rfl rfl (by omega) (by omega)) rfl ?_
    exact aBack rfl rfl ⟨(i + 1, g30), rfl, rfl, hlt, by show ts.length - (i + 1) < ts.length - i; omega⟩
  · have hi2 : i = ts.length := by have : ¬ i < ts.length := (by simpa using h3); omega
    rw [hi2, ← hml, List.take_length]
    exact aRet (fun _ => g) rfl rfl rfl
theorem dparseN_ct (ts : List (ByteArray × ByteArray)) (hf : Fits ts) (h : boxC ts ≠ 0) : Ct Tryz.prog JT 12 [none] [[pTexts ts]] [none, none] (fun _ => [.ro false (pV (.slice none 0 0)), .ro false (pV (.int .i64 (boxC ts)))]) := by
  have hml : (valsB ts).length = ts.length := by simp [valsB]
  refine aCt (D := DDS) hMix (tr := (.em (.pr (.call (.mk (.builtin .len) #[.tmp 0] #[22])) 3 [.s (.c 0 0)]) (.em (.pr (.binOp .lss 3 (.tmp 0) (.const (.int .i64 1)) 3) 4 [.s (.c 1 0), .s (.k (.int .i64 1))]) (.cond (.c 2 0) (.ret (.t [.s (.k (.slice none 0 0)), .s (.k (.int .i64 1))])) (.em (.pr (.call (.mk (.builtin .len) #[.tmp 0] #[22])) 3 [.s (.c 0 0)]) (.em (.pr (.binOp .gtr 3 (.tmp 0) (.const (.int .i64 3)) 3) 4 [.s (.c 3 0), .s (.k (.int .i64 3))]) (.cond (.c 4 0) (.ret (.t [.s (.k (.slice none 0 0)), .s (.k (.int .i64 1))])) (.loop 0 [.k (.slice none 0 0), .k (.int .i64 0), .k (.slice none 0 0), .k (.int .i64 0)] (.em (.pr (.call (.mk (.builtin .len) #[.tmp 0] #[22])) 3 [.s (.c 0 0)]) (.em (.pr (.binOp .lss 3 (.tmp 0) (.tmp 1) 3) 4 [.s (.c 5 3), .s (.c 6 0)]) (.cond (.c 7 0) (.em (.pr (.indexAddr 22 (.tmp 0) (.tmp 1)) 0 [.s (.c 0 0), .s (.c 5 3)]) (.em (.ld (.load 95 (.tmp 0)) 95 [.s (.c 8 0)] (some 2)) (.em (.call 44 [.g [.c 9 0, .c 9 1]] [some 6, none]) (.em (.wx (.alloc 62) 0 [] (some none)) (.em (.wx (.store 62 (.tmp 0) (.tmp 1)) 0 [.s (.c 11 0), .g [.c 10 0, .c 10 1, .c 10 2, .c 10 3, .c 10 4, .c 10 5]] none) (.em (.pr (.binOp .neq 27 (.tmp 0) (.const (.int .i64 0)) 27) 4 [.s (.c 10 6), .s (.k (.int .i64 0))]) (.cond (.c 13 0) (.ret (.t [.s (.k (.slice none 0 0)), .s (.c 10 6)])) (.em (.pr (.fieldAddr 62 (.tmp 0) 0) 0 [.s (.c 11 0)]) (.em (.ld (.load 59 (.tmp 0)) 59 [.s (.c 14 0)] (some 3)) (.em (.pr (.fieldAddr 62 (.tmp 0) 1) 0 [.s (.c 11 0)]) (.em (.ld (.load 59 (.tmp 0)) 59 [.s (.c 16 0)] (some 3)) (.em (.call 45 [.g [.c 15 0, .c 15 1, .c 15 2], .g [.c 17 0, .c 17 1, .c 17 2]] [none]) (.em (.pr (.binOp .geq 3 (.tmp 0) (.const (.int .i64 0)) 3) 4 [.s (.c 18 0), .s (.k (.int .i64 0))]) (.cond (.c 19 0) (.ret (.t [.s (.k (.slice none 0 0)), .s (.k (.int .i64 1))])) (.em (.pr (.fieldAddr 62 (.tmp 0) 0) 0 [.s (.c 11 0)]) (.em (.ld (.load 59 (.tmp 0)) 59 [.s (.c 20 0)] (some 3)) (.em (.call 46 [.g [.c 21 0, .c 21 1, .c 21 2]] [none]) (.em (.pr (.unOp .not 4 (.tmp 0)) 4 [.s (.c 22 0)]) (.cond (.c 23 0) (.ret (.t [.s (.k (.slice none 0 0)), .s (.k (.int .i64 2))])) (.em (.pr (.fieldAddr 62 (.tmp 0) 1) 0 [.s (.c 11 0)]) (.em (.ld (.load 59 (.tmp 0)) 59 [.s (.c 24 0)] (some 3)) (.em (.call 46 [.g [.c 25 0, .c 25 1, .c 25 2]] [none]) (.em (.pr (.unOp .not 4 (.tmp 0)) 4 [.s (.c 26 0)]) (.cond (.c 27 0) (.ret (.t [.s (.k (.slice none 0 0)), .s (.k (.int .i64 2))])) (.em (.ld (.load 62 (.tmp 0)) 62 [.s (.c 11 0)] (some 6)) (.em (.wx (.buildSlice 30 1 #[(0, .tmp 0)]) 30 [.g [.c 28 0, .c 28 1, .c 28 2, .c 28 3, .c 28 4, .c 28 5]] (some none)) (.em (.wx (.call (.mk (.builtin .append) #[.tmp 0, .tmp 1] #[30, 30])) 30 [.s (.c 5 2), .s (.c 29 0)] (some none)) (.em (.pr (.binOp .add 3 (.tmp 0) (.const (.int .i64 1)) 3) 3 [.s (.c 5 3), .s (.k (.int .i64 1))]) (.back 0 [.c 5 0, .c 5 1, .c 30 0, .c 31 0]))))))))))))))))))))))))))))) (.ret (.t [.s (.c 5 2), .s (.k (.int .i64 0))]))))))))))))) (by kernel_rfl) (by kernel_rfl) (by kernel_rfl) rfl (fun w0 => ?_)
  refine aLen rfl (List.length_map _) ?_
  refine aPr rfl (prLt rfl rfl) rfl ?_
  refine aIf rfl (fun h1 => ?_) (fun h1 => ?_)
  · have e : boxC ts = 1 := by unfold boxC; rw [if_pos (.inl (by have : (ts.length : Int) < 1 := (by simpa using h1); omega))]
    exact aRet (fun _ => 0) rfl rfl (by rw [e]; rfl)
  refine aLen rfl (List.length_map _) ?_
  refine aPr rfl (prGt rfl rfl) rfl ?_
  refine aIf rfl (fun h2 => ?_) (fun h2 => ?_)
  · have e : boxC ts = 1 := by unfold boxC; rw [if_pos (.inr (by have : (3 : Int) < ts.length := (by simpa using h2); omega))]
    exact aRet (fun _ => 0) rfl rfl (by rw [e]; rfl)
  have hl1 : ¬ (ts.length : Int) < 1 := by simpa using h1
  have hl3 : ¬ (3 : Int) < ts.length := by simpa using h2
  have eb : boxC ts = firstC ts := by unfold boxC; rw [if_neg (by omega)]
  rw [eb] at h ⊢
  refine aLoopC [] (fun s : Nat × Nat => [.ro true (pV (.slice none 0 0)), .ro true (pV (.int .i64 0)), .own s.2 dspanR (rowsD ((valsB ts).take s.1) 500), .ro true (pV (.int .i64 s.1))]) (fun s => s.1 ≤ ts.length ∧ ∀ (j : Nat) (t : ByteArray × ByteArray), j < s.1 → ts[j]? = some t → sideC t = 0) (fun s => ts.length - s.1) (0, 0) ⟨Nat.zero_le _, fun j t hj => by omega⟩ (fun s ⟨hi, hall⟩ => ?_)
  obtain ⟨i, g⟩ := s
  simp only at hi hall ⊢
  refine aLen rfl (List.length_map _) ?_
  refine aPr rfl (prLt rfl rfl) rfl ?_
  refine aIf rfl (fun h3 => ?_) (fun h3 => ?_)
  · have hlt : i < ts.length := by simpa using h3
    obtain ⟨t, he⟩ := at_some hlt
    have hm := List.mem_of_getElem? he
    refine aIdx rfl rfl (fun _ => rfl) (by omega) (map_at (f := fun x : ByteArray × ByteArray => [pV (.string x.1), pV (.string x.2)]) he) ?_
    refine aLd rfl rfl rfl ?_
    by_cases hsp : SpOk t.1 t.2
    · refine aCall rfl (dsparse_ct _ _ (hf t hm).1 (hf t hm).2 hsp) (fun γ => ?_)
      refine aAlloc dspanR (zs := ZeroT) (row := zDspan) rfl (fun g11 => ?_)
      refine aStore 11 0 0 0 rfl rfl rfl rfl rfl rfl rfl rfl ?_
      refine aPr rfl (prNe rfl rfl) rfl ?_
      refine aFalse rfl ?_
      refine aFieldK (off := 0) rfl (by kernel_rfl) ?_
      refine aLdK 11 0 0 0 rfl rfl rfl rfl rfl rfl ?_
      refine aFieldK (off := 3) rfl (by kernel_rfl) ?_
      refine aLdK 11 0 0 3 rfl rfl rfl rfl rfl rfl ?_
      refine aCall rfl (dcmp_ct _ _ _ _) (fun γ => ?_)
      refine aPr rfl (prGe rfl rfl) rfl ?_
      refine aIf rfl (fun h5 => ?_) (fun h5 => ?_)
      · have e := sideC_1 (t := t) hsp (cT_ge h5)
        exact aRet (fun _ => 0) rfl rfl (by rw [firstC_bad hall he (by rw [e]; decide), e]; rfl)
      · have hlt2 := cF_ge h5
        refine aFieldK (off := 0) rfl (by kernel_rfl) ?_
        refine aLdK 11 0 0 0 rfl rfl rfl rfl rfl rfl ?_
        refine aCall rfl (ddyadic_ct _ _) (fun γ => ?_)
        refine aPr rfl (prNot rfl) rfl ?_
        refine aIf rfl (fun h6 => ?_) (fun h6 => ?_)
        · have e := sideC_2 (t := t) hsp hlt2 (fun h4 => by have := not_eq h6; simp [h4.1] at this)
          exact aRet (fun _ => 0) rfl rfl (by rw [firstC_bad hall he (by rw [e]; decide), e]; rfl)
        · refine aFieldK (off := 3) rfl (by kernel_rfl) ?_
          refine aLdK 11 0 0 3 rfl rfl rfl rfl rfl rfl ?_
          refine aCall rfl (ddyadic_ct _ _) (fun γ => ?_)
          refine aPr rfl (prNot rfl) rfl ?_
          refine aIf rfl (fun h7 => ?_) (fun h7 => ?_)
          · have e := sideC_2 (t := t) hsp hlt2 (fun h4 => by have := not_eq h7; simp [h4.2] at this)
            exact aRet (fun _ => 0) rfl rfl (by rw [firstC_bad hall he (by rw [e]; decide), e]; rfl)
          · have d1 := of_decide_eq_true (not_eq' h6)
            have d2 := of_decide_eq_true (not_eq' h7)
            have hc : sideC t = 0 := by
              unfold sideC
              rw [if_pos hsp, if_neg (by grind), if_pos d1, if_pos d2]
            refine aLdK 11 0 0 0 rfl rfl rfl rfl rfl rfl ?_
            refine aBuild dspanR rfl (fun g29 => ?_)
            refine aAppend [] rfl rfl (zs := ZeroT) (by simp [hml]; omega) (fun g30 => ?_)
            rw [rowsD_take (vals_at he)]
            refine aPr rfl (prAddI rfl rfl (by omega) (by omega)) rfl ?_
            refine aBack rfl rfl ⟨(i + 1, g30), rfl, rfl, ⟨hlt, fun j t' hj ht' => ?_⟩, by show ts.length - (i + 1) < ts.length - i; omega⟩
            by_cases hji : j = i
            · subst hji; rw [he] at ht'; cases ht'; exact hc
            · exact hall j t' (by simp only at hj; omega) ht'
    · have e := sideC_sp (t := t) hsp
      have hne := spCode_ne hsp
      refine aCall rfl (dsparseN_ct _ _ (hf t hm).1 (hf t hm).2 hsp) (fun γ => ?_)
      refine aAlloc dspanR (zs := ZeroT) (row := zDspan) rfl (fun g11 => ?_)
      refine aStore 11 0 0 0 rfl rfl rfl rfl rfl rfl rfl rfl ?_
      refine aPr rfl (prNe rfl rfl) rfl ?_
      rw [show (spCode t.1 t.2 != 0) = true by simpa using hne]
      refine aTrue rfl ?_
      exact aRet (fun _ => 0) rfl rfl (by rw [firstC_bad hall he (by rw [e]; exact hne), e]; rfl)
  · exfalso
    have hi2 : i = ts.length := by have : ¬ i < ts.length := (by simpa using h3); omega
    refine h (firstC_zero.2 fun t ht => ?_)
    obtain ⟨j, hj, rfl⟩ := List.getElem_of_mem ht
    exact hall j _ (by omega) (List.getElem?_eq_getElem hj)
def pairsB (ts : List (ByteArray × ByteArray)) (n : Nat) : Bool := decide (ts.length ≤ n) && ts.all fun t => decide (t.1.size ≤ 30) && decide (t.2.size ≤ 30)
theorem pairs_ct (ts : List (ByteArray × ByteArray)) (n : Nat) (hl : ts.length ≤ 9223372036854775807) : Ct Tryz.prog JT 10 [none, none] [[pTexts ts], [pV (.int .i64 n)]] [none] (fun _ => [.ro false (pV (.bool (pairsB ts n)))]) := by
  refine aCt (D := DD) hMix (tr := (.em (.pr (.call (.mk (.builtin .len) #[.tmp 0] #[22])) 3 [.s (.c 0 0)]) (.em (.pr (.binOp .gtr 3 (.tmp 0) (.tmp 1) 3) 4 [.s (.c 2 0), .s (.c 1 0)]) (.cond (.c 3 0) (.ret (.v (.s (.k (.bool false))))) (.loop 0 [.k (.bool false), .k (.int .i64 0)] (.em (.pr (.call (.mk (.builtin .len) #[.tmp 0] #[22])) 3 [.s (.c 0 0)]) (.em (.pr (.binOp .lss 3 (.tmp 0) (.tmp 1) 3) 4 [.s (.c 4 1), .s (.c 5 0)]) (.cond (.c 6 0) (.em (.pr (.indexAddr 22 (.tmp 0) (.tmp 1)) 0 [.s (.c 0 0), .s (.c 4 1)]) (.em (.pr (.fieldAddr 95 (.tmp 0) 0) 0 [.s (.c 7 0)]) (.em (.ld (.load 9 (.tmp 0)) 9 [.s (.c 8 0)] none) (.em (.pr (.call (.mk (.builtin .len) #[.tmp 0] #[9])) 3 [.s (.c 9 0)]) (.em (.pr (.binOp .gtr 3 (.tmp 0) (.const (.int .i64 30)) 3) 4 [.s (.c 10 0), .s (.k (.int .i64 30))]) (.cond (.c 11 0) (.ret (.v (.s (.k (.bool false))))) (.em (.pr (.indexAddr 22 (.tmp 0) (.tmp 1)) 0 [.s (.c 0 0), .s (.c 4 1)]) (.em (.pr (.fieldAddr 95 (.tmp 0) 1) 0 [.s (.c 12 0)]) (.em (.ld (.load 9 (.tmp 0)) 9 [.s (.c 13 0)] none) (.em (.pr (.call (.mk (.builtin .len) #[.tmp 0] #[9])) 3 [.s (.c 14 0)]) (.em (.pr (.binOp .gtr 3 (.tmp 0) (.const (.int .i64 30)) 3) 4 [.s (.c 15 0), .s (.k (.int .i64 30))]) (.cond (.c 16 0) (.ret (.v (.s (.k (.bool false))))) (.em (.pr (.binOp .add 3 (.tmp 0) (.const (.int .i64 1)) 3) 3 [.s (.c 4 1), .s (.k (.int .i64 1))]) (.back 0 [.c 4 0, .c 17 0])))))))))))))) (.ret (.v (.s (.k (.bool true))))))))))))) (by kernel_rfl) (by kernel_rfl) (by kernel_rfl) rfl (fun w0 => ?_)
  refine aLen rfl (List.length_map _) ?_
  refine aPr rfl (prGt rfl rfl) rfl ?_
  refine aIf rfl (fun h1 => ?_) (fun h1 => ?_)
  · have e : decide (ts.length ≤ n) = false := by simp at h1; simp; omega
    exact aRet (fun _ => 0) rfl rfl (by rw [pairsB, e]; rfl)
  · have e : decide (ts.length ≤ n) = true := by simp at h1; simp; omega
    refine aLoop (fun i : Nat => [.ro true (pV (.bool false)), .ro true (pV (.int .i64 i))]) (fun i => i ≤ ts.length ∧ ∀ (j : Nat) (t : ByteArray × ByteArray), j < i → ts[j]? = some t → (decide (t.1.size ≤ 30) && decide (t.2.size ≤ 30)) = true) (fun i => ts.length - i) 0 rfl ⟨Nat.zero_le _, fun j t hj => by omega⟩ (fun i ⟨hi, hs⟩ => ?_)
    refine aLen rfl (List.length_map _) ?_
    refine aPr rfl (prLt rfl rfl) rfl ?_
    refine aIf rfl (fun h2 => ?_) (fun h2 => ?_)
    · have hlt : i < ts.length := by simpa using h2
      obtain ⟨t, he⟩ := at_some hlt
      have hno : (decide (t.1.size ≤ 30) && decide (t.2.size ≤ 30)) = false → (ts.all fun t => decide (t.1.size ≤ 30) && decide (t.2.size ≤ 30)) = false := fun h => all_no he h
      refine aIdx rfl rfl (fun _ => rfl) (by omega) (map_at (f := fun x : ByteArray × ByteArray => [pV (.string x.1), pV (.string x.2)]) he) ?_
      refine aField (off := 0) rfl (by kernel_rfl) rfl ?_
      refine aLd rfl rfl rfl ?_
      refine aPr rfl (prLenS (by kernel_rfl) rfl) rfl ?_
      refine aPr rfl (prGt rfl rfl) rfl ?_
      refine aIf rfl (fun h3 => ?_) (fun h3 => ?_)
      · have h4 := hno (by simp at h3; simp; omega)
        exact aRet (fun _ => 0) rfl rfl (by rw [pairsB, h4, Bool.and_false]; rfl)
      · refine aIdx rfl rfl (fun _ => rfl) (by omega) (map_at (f := fun x : ByteArray × ByteArray => [pV (.string x.1), pV (.string x.2)]) he) ?_
        refine aField (off := 1) rfl (by kernel_rfl) rfl ?_
        refine aLd rfl rfl rfl ?_
        refine aPr rfl (prLenS (by kernel_rfl) rfl) rfl ?_
        refine aPr rfl (prGt rfl rfl) rfl ?_
        refine aIf rfl (fun h4 => ?_) (fun h4 => ?_)
        · have h5 := hno (by simp at h4; simp; omega)
          exact aRet (fun _ => 0) rfl rfl (by rw [pairsB, h5, Bool.and_false]; rfl)
        · refine aPr rfl (prAddI rfl rfl (by omega) (by omega)) rfl ?_
          refine aBack rfl rfl ⟨i + 1, rfl, rfl, ⟨hlt, fun j t' hj ht' => ?_⟩, by omega⟩
          by_cases hji : j = i
          · subst hji; rw [he] at ht'; cases ht'; simp at h3 h4; simp; omega
          · exact hs j t' (by omega) ht'
    · have hi2 : i = ts.length := by have : ¬ i < ts.length := (by simpa using h2); omega
      have h6 : (ts.all fun t => decide (t.1.size ≤ 30) && decide (t.2.size ≤ 30)) = true := all_of fun j t ht => hs j t (by have := (List.getElem?_eq_some_iff.1 ht).1; omega) ht
      exact aRet (fun _ => 0) rfl rfl (by rw [pairsB, h6, e]; rfl)
theorem prPairNe {t2 ty : TypeId} {vs : List Value} {p q : Operand} {s r s' r' : ByteArray} (hp : pe vs p = .agg #[.string s, .string r]) (hq : pe vs q = .agg #[.string s', .string r']) :
    PrimOk Tryz.prog (.binOp .neq 95 p q t2) ty vs (.bool (!(s.toList == s'.toList && r.toList == r'.toList))) := fun w => by
  have e : binOp .neq 95 (.agg #[.string s, .string r]) (.agg #[.string s', .string r']) = (do pure (.bool (!(← Op.equal 95 (.agg #[.string s, .string r]) (.agg #[.string s', .string r']))))) := rfl
  have h := run_equalIn_agg (P := Tryz.prog) w 9999 (95) #[.string s, .string r] #[.string s', .string r'] pairT pairH
  simp only [execOp, hp, hq]
  simp only [Sem.run_bind, run_eqGuard_agg w _ _ _ _ _ _ pairG, Result.andThen_ok, e, Op.equal]
  rw [show Op.maxDepth = 9999 + 1 from rfl, h, eqPair 9998]
  simp
theorem same_ct (ts : List (ByteArray × ByteArray)) (hl : ts.length ≤ 9223372036854775807) : Ct Tryz.prog JT 13 [none, none] [[pTexts ts], [pTexts ts]] [none] (fun _ => [.ro false (pV (.bool true))]) := by
  refine aCt (D := DD) hMix (tr := (.em (.pr (.call (.mk (.builtin .len) #[.tmp 0] #[22])) 3 [.s (.c 0 0)]) (.em (.pr (.call (.mk (.builtin .len) #[.tmp 0] #[22])) 3 [.s (.c 1 0)]) (.em (.pr (.binOp .neq 3 (.tmp 0) (.tmp 1) 3) 4 [.s (.c 2 0), .s (.c 3 0)]) (.cond (.c 4 0) (.ret (.v (.s (.k (.bool false))))) (.loop 0 [.k (.bool false), .k (.int .i64 0)] (.em (.pr (.call (.mk (.builtin .len) #[.tmp 0] #[22])) 3 [.s (.c 0 0)]) (.em (.pr (.binOp .lss 3 (.tmp 0) (.tmp 1) 3) 4 [.s (.c 5 1), .s (.c 6 0)]) (.cond (.c 7 0) (.em (.pr (.indexAddr 22 (.tmp 0) (.tmp 1)) 0 [.s (.c 0 0), .s (.c 5 1)]) (.em (.pr (.indexAddr 22 (.tmp 0) (.tmp 1)) 0 [.s (.c 1 0), .s (.c 5 1)]) (.em (.ld (.load 95 (.tmp 0)) 95 [.s (.c 8 0)] (some 2)) (.em (.ld (.load 95 (.tmp 0)) 95 [.s (.c 9 0)] (some 2)) (.em (.pr (.binOp .neq 95 (.tmp 0) (.tmp 1) 95) 4 [.g [.c 10 0, .c 10 1], .g [.c 11 0, .c 11 1]]) (.cond (.c 12 0) (.ret (.v (.s (.k (.bool false))))) (.em (.pr (.binOp .add 3 (.tmp 0) (.const (.int .i64 1)) 3) 3 [.s (.c 5 1), .s (.k (.int .i64 1))]) (.back 0 [.c 5 0, .c 13 0])))))))) (.ret (.v (.s (.k (.bool true)))))))))))))) (by kernel_rfl) (by kernel_rfl) (by kernel_rfl) rfl (fun w0 => ?_)
  refine aLen rfl (List.length_map _) ?_
  refine aLen rfl (List.length_map _) ?_
  refine aPr rfl (prNe rfl rfl) rfl ?_
  rw [show ((ts.length : Int) != ts.length) = false by simp]
  refine aFalse rfl ?_
  refine aLoop (fun i : Nat => [.ro true (pV (.bool false)), .ro true (pV (.int .i64 i))]) (fun i => i ≤ ts.length) (fun i => ts.length - i) 0 rfl (Nat.zero_le _) (fun i hi => ?_)
  refine aLen rfl (List.length_map _) ?_
  refine aPr rfl (prLt rfl rfl) rfl ?_
  refine aIf rfl (fun h2 => ?_) (fun h2 => ?_)
  · have hlt : i < ts.length := by simpa using h2
    obtain ⟨t, he⟩ := at_some hlt
    refine aIdx rfl rfl (fun _ => rfl) (by omega) (map_at (f := fun x : ByteArray × ByteArray => [pV (.string x.1), pV (.string x.2)]) he) ?_
    refine aIdx rfl rfl (fun _ => rfl) (by omega) (map_at (f := fun x : ByteArray × ByteArray => [pV (.string x.1), pV (.string x.2)]) he) ?_
    refine aLd rfl rfl rfl ?_
    refine aLd rfl rfl rfl ?_
    refine aPrE rfl (prPairNe rfl rfl) (v' := .bool false) (by simp) rfl ?_
    refine aFalse rfl ?_
    refine aPr rfl (prAddI rfl rfl (by omega) (by omega)) rfl ?_
    exact aBack rfl rfl ⟨i + 1, rfl, rfl, hlt, by omega⟩
  · exact aRet (fun _ => 0) rfl rfl rfl
theorem is6_ct (ss : List (Rat × Rat)) (k j : Nat) (hl : ss.length ≤ 1000) (hk : k ≤ 200000 := by omega) (hj : j ≤ 200000 := by omega) : Ct Tryz.prog JP 14 [none, none] [[pBox ss k], [pBoxD ss j]] [none] (fun _ => [.ro false (pV (.bool true))]) := by
  refine aCt (D := DD) hMix (tr := (.em (.pr (.call (.mk (.builtin .len) #[.tmp 0] #[26])) 3 [.s (.c 0 0)]) (.em (.pr (.call (.mk (.builtin .len) #[.tmp 0] #[30])) 3 [.s (.c 1 0)]) (.em (.pr (.binOp .neq 3 (.tmp 0) (.tmp 1) 3) 4 [.s (.c 2 0), .s (.c 3 0)]) (.cond (.c 4 0) (.ret (.v (.s (.k (.bool false))))) (.loop 0 [.k (.bool false), .k (.int .i64 0)] (.em (.pr (.call (.mk (.builtin .len) #[.tmp 0] #[26])) 3 [.s (.c 0 0)]) (.em (.pr (.binOp .lss 3 (.tmp 0) (.tmp 1) 3) 4 [.s (.c 5 1), .s (.c 6 0)]) (.cond (.c 7 0) (.em (.pr (.indexAddr 26 (.tmp 0) (.tmp 1)) 0 [.s (.c 0 0), .s (.c 5 1)]) (.em (.pr (.indexAddr 30 (.tmp 0) (.tmp 1)) 0 [.s (.c 1 0), .s (.c 5 1)]) (.em (.ld (.load 92 (.tmp 0)) 92 [.s (.c 8 0)] (some 8)) (.em (.ld (.load 62 (.tmp 0)) 62 [.s (.c 9 0)] (some 6)) (.em (.call 47 [.g [.c 10 0, .c 10 1, .c 10 2, .c 10 3, .c 10 4, .c 10 5, .c 10 6, .c 10 7], .g [.c 11 0, .c 11 1, .c 11 2, .c 11 3, .c 11 4, .c 11 5]] [none]) (.em (.pr (.unOp .not 4 (.tmp 0)) 4 [.s (.c 12 0)]) (.cond (.c 13 0) (.ret (.v (.s (.k (.bool false))))) (.em (.pr (.binOp .add 3 (.tmp 0) (.const (.int .i64 1)) 3) 3 [.s (.c 5 1), .s (.k (.int .i64 1))]) (.back 0 [.c 5 0, .c 14 0]))))))))) (.ret (.v (.s (.k (.bool true)))))))))))))) (by kernel_rfl) (by kernel_rfl) (by kernel_rfl) rfl (fun w0 => ?_)
  refine aLen rfl (List.length_map _) ?_
  refine aLen rfl (List.length_map _) ?_
  refine aPr rfl (prNe rfl rfl) rfl ?_
  rw [show ((ss.length : Int) != ss.length) = false by simp]
  refine aFalse rfl ?_
  refine aLoop (fun i : Nat => [.ro true (pV (.bool false)), .ro true (pV (.int .i64 i))]) (fun i => i ≤ ss.length) (fun i => ss.length - i) 0 rfl (Nat.zero_le _) (fun i hi => ?_)
  refine aLen rfl (List.length_map _) ?_
  refine aPr rfl (prLt rfl rfl) rfl ?_
  refine aIf rfl (fun h2 => ?_) (fun h2 => ?_)
  · have hlt : i < ss.length := by simpa using h2
    obtain ⟨s, he⟩ := at_some hlt
    refine aIdx rfl rfl (fun _ => rfl) (by omega) (row_at he) ?_
    refine aIdx rfl rfl (fun _ => rfl) (by omega) (rowD_at he) ?_
    refine aLd rfl rfl rfl ?_
    refine aLd rfl rfl rfl ?_
    refine aCall rfl (is5_ct _ _ _ _) (fun γ => ?_)
    refine aPr rfl (prNot rfl) rfl ?_
    refine aFalse rfl ?_
    refine aPr rfl (prAddI rfl rfl (by omega) (by omega)) rfl ?_
    exact aBack rfl rfl ⟨i + 1, rfl, rfl, hlt, by omega⟩
  · exact aRet (fun _ => 0) rfl rfl rfl
end Go.Proofs.YtkekgmdofgkbcaaGreatDoor

namespace Go.Proofs.YtkekgmdofgkbcaaGreatDoor
open Go.RowKit Cin
theorem lit_ok {s : ByteArray} {c : Nat} {z : Int} (hb : byts (digT s) = [c]) (hn : negT s = true → decL (byts (digT s)) ≠ 0) (hsl : slashAt s < 0) (hc : 48 ≤ c ∧ c ≤ 57) (hz : intVal s = z) : RatOk s ∧ ratVal s = (z : Rat) := by
  refine ⟨.inl ⟨hsl, ⟨by rw [hb]; exact isNum_one hc, hn⟩⟩, ?_⟩
  unfold ratVal
  rw [if_pos hsl, hz, Rat.mkRat_one]
theorem m1_d : byts (digT ⟨#[45, 49]⟩) = [49] := by
  have h : negT ⟨#[45, 49]⟩ = true := by decide
  unfold digT
  rw [if_pos h, byts_tl]; decide
theorem lit_0 : RatOk ⟨#[48]⟩ ∧ ratVal ⟨#[48]⟩ = ((0 : Int) : Rat) := lit_ok (c := 48) (by decide) (fun h => by have : negT ⟨#[48]⟩ = false := (by decide); rw [this] at h; cases h) (by decide) (by decide) (by decide)
theorem lit_1 : RatOk ⟨#[49]⟩ ∧ ratVal ⟨#[49]⟩ = ((1 : Int) : Rat) := lit_ok (c := 49) (by decide) (fun h => by have : negT ⟨#[49]⟩ = false := (by decide); rw [this] at h; cases h) (by decide) (by decide) (by decide)
theorem lit_2 : RatOk ⟨#[50]⟩ ∧ ratVal ⟨#[50]⟩ = ((2 : Int) : Rat) := lit_ok (c := 50) (by decide) (fun h => by have : negT ⟨#[50]⟩ = false := (by decide); rw [this] at h; cases h) (by decide) (by decide) (by decide)
theorem lit_m1 : RatOk ⟨#[45, 49]⟩ ∧ ratVal ⟨#[45, 49]⟩ = ((-1 : Int) : Rat) := lit_ok (c := 49) m1_d (fun _ => by rw [m1_d]; decide) (by decide) (by decide) (by unfold intVal; rw [m1_d]; decide)
theorem side_lit {s r : ByteArray} {x y : Int} (h : RatOk s ∧ ratVal s = (x : Rat)) (h' : RatOk r ∧ ratVal r = (y : Rat)) (hl : x < y) : sideC (s, r) = 0 := by
  have hlt : (x : Rat) < (y : Rat) := Rat.intCast_lt_intCast.2 hl
  have hsp : SpOk s r := ⟨h.1, h'.1, by rw [h.2, h'.2]; grind⟩
  have d : ∀ z : Int, DyOk (z : Rat) := fun z => by unfold DyOk; rw [show ((z : Rat).den) = 1 from rfl]; decide
  unfold sideC
  rw [if_pos hsp, if_neg (by show ¬ ratVal r ≤ ratVal s; rw [h.2, h'.2]; grind), if_pos (by show DyOk (ratVal s); rw [h.2]; exact d _), if_pos (by show DyOk (ratVal r); rw [h'.2]; exact d _)]
abbrev alT : List (ByteArray × ByteArray) := [(⟨#[48]⟩, ⟨#[49]⟩), (⟨#[45, 49]⟩, ⟨#[50]⟩)]
theorem alT_ok : boxC alT = 0 := by
  unfold boxC
  rw [if_neg (by decide)]
  refine firstC_zero.2 fun t ht => ?_
  simp only [List.mem_cons, List.not_mem_nil, or_false] at ht
  rcases ht with rfl | rfl
  · exact side_lit lit_0 lit_1 (by decide)
  · exact side_lit lit_m1 lit_2 (by decide)
theorem alT_wd : IsWd (valsB alT) 1 := by
  refine .inl ⟨vals_right alT_ok, 1, rfl, ?_⟩
  have e : valsB alT = [(((0 : Int) : Rat), ((1 : Int) : Rat)), (((-1 : Int) : Rat), ((2 : Int) : Rat))] := by
    simp only [valsB, List.map_cons, List.map_nil, lit_0.2, lit_1.2, lit_2.2, lit_m1.2]
  rw [e]
  have w0 : wAt [(((0 : Int) : Rat), ((1 : Int) : Rat)), (((-1 : Int) : Rat), ((2 : Int) : Rat))] 0 = 1 := by simp [wAt]; grind
  have w1 : wAt [(((0 : Int) : Rat), ((1 : Int) : Rat)), (((-1 : Int) : Rat), ((2 : Int) : Rat))] 1 = 3 := by simp [wAt]; grind
  refine (IsFM.one _).new ?_
  rw [w0, w1]; decide
def DL : TypeId → Bool := fun t => t == 190 || t == 95 || t == 92 || t == 62 || t == 54
theorem alive6_ct : Ct Tryz.prog JT 9 [] [] [none] (fun _ => [.ro false (pV (.bool true))]) := by
  have hf : Fits alT := fun t ht => by
    simp only [List.mem_cons, List.not_mem_nil, or_false] at ht
    rcases ht with rfl | rfl <;> exact ⟨by decide, by decide⟩
  refine aCt (D := DL) hMix (tr := (.em (.wx (.buildSlice 22 2 #[(0, .tmp 0), (1, .tmp 1)]) 22 [.g [.k (.string ⟨#[48]⟩), .k (.string ⟨#[49]⟩)], .g [.k (.string ⟨#[45, 49]⟩), .k (.string ⟨#[50]⟩)]] (some none)) (.em (.call 11 [.s (.c 0 0)] [none, none]) (.em (.pr (.binOp .eql 27 (.tmp 0) (.const (.int .i64 0)) 27) 4 [.s (.c 1 1), .s (.k (.int .i64 0))]) (.cond (.c 2 0) (.em (.pr (.call (.mk (.builtin .len) #[.tmp 0] #[26])) 3 [.s (.c 1 0)]) (.em (.pr (.binOp .eql 3 (.tmp 0) (.const (.int .i64 2)) 3) 4 [.s (.c 3 0), .s (.k (.int .i64 2))]) (.cond (.c 4 0) (.em (.call 15 [.s (.c 1 0)] [none]) (.cond (.c 5 0) (.em (.call 21 [.s (.c 1 0)] [none]) (.em (.pr (.binOp .eql 3 (.tmp 0) (.const (.int .i64 1)) 3) 4 [.s (.c 6 0), .s (.k (.int .i64 1))]) (.ret (.v (.s (.c 7 0)))))) (.ret (.v (.s (.k (.bool false))))))) (.ret (.v (.s (.k (.bool false)))))))) (.ret (.v (.s (.k (.bool false)))))))))) (by kernel_rfl) (by kernel_rfl) (by kernel_rfl) rfl (fun w0 => ?_)
  refine aBuild pairR rfl (fun g0 => ?_)
  refine aCall rfl (parse_ct alT hf alT_ok) (fun γ => ?_)
  refine aPr rfl (prEq rfl rfl) rfl ?_
  refine aTrue rfl ?_
  refine aLen rfl (n := 2) rfl ?_
  refine aPr rfl (prEq rfl rfl) rfl ?_
  refine aTrue rfl ?_
  refine aCall rfl (right_ct (valsB alT) 500) (fun γ => ?_)
  rw [vals_right alT_ok]
  refine aTrue rfl ?_
  refine aCall rfl (widest_ct (valsB alT) 500 1 alT_wd) (fun γ => ?_)
  refine aPr rfl (prEq rfl rfl) rfl ?_
  exact aRet (fun _ => 0) rfl rfl rfl
end Go.Proofs.YtkekgmdofgkbcaaGreatDoor

namespace Go.Proofs.YtkekgmdofgkbcaaGreatDoor
open Go.RowKit Cin
theorem rowC_B {ss : List (Rat × Rat)} {k j : Nat} (h : k ≤ j) : RowC spanR (rowsB ss k) (rowsB ss j) := ⟨by simp, fun i row row' h1 h2 hf => by
  simp only [List.getElem?_map] at h1 h2
  cases hi : ss[i]? with
  | none => rw [hi] at h1; cases h1
  | some s =>
    rw [hi] at h1 h2
    cases h1
    cases h2
    refine ⟨fit_of rfl, fun l w x ⟨c1, c2, e, h1, c3, c4, e2, h2, h3⟩ => ⟨c1, c2, e, pQ_mono h h1, c3, c4, e2, pQ_mono h h2, h3⟩⟩⟩
def loB (ss : List (Rat × Rat)) (i : Nat) : List (Rat × Rat) := ss.modify i fun s => (s.1, (s.1 + s.2) / 2)
def hiB (ss : List (Rat × Rat)) (i : Nat) : List (Rat × Rat) := ss.modify i fun s => ((s.1 + s.2) / 2, s.2)
theorem map_modify {α β : Type} (f : α → β) (h : α → α) {l : List α} {i : Nat} {x : α} (hx : l[i]? = some x) : (l.map f).set i (f (h x)) = (l.modify i h).map f := by
  refine List.ext_getElem? fun j => ?_
  have hlt := (List.getElem?_eq_some_iff.1 hx).1
  rw [List.getElem?_set, List.getElem?_map, List.getElem?_map, List.getElem?_modify]
  by_cases e : i = j
  · subst e; simp [hlt, (List.getElem?_eq_some_iff.1 hx).2]
  · simp [e]
theorem low_set {ss : List (Rat × Rat)} {i k : Nat} {s : Rat × Rat} (h : ss[i]? = some s) : (rowsB ss k).set i [pQ s.1 k, pQ ((s.1 + s.2) / 2) k] = rowsB (loB ss i) k := map_modify (fun s : Rat × Rat => [pQ s.1 k, pQ s.2 k]) (fun s => (s.1, (s.1 + s.2) / 2)) h
theorem high_set {ss : List (Rat × Rat)} {i k : Nat} {s : Rat × Rat} (h : ss[i]? = some s) : (rowsB ss k).set i [pQ ((s.1 + s.2) / 2) k, pQ s.2 k] = rowsB (hiB ss i) k := map_modify (fun s : Rat × Rat => [pQ s.1 k, pQ s.2 k]) (fun s => ((s.1 + s.2) / 2, s.2)) h
theorem split_ct (ss : List (Rat × Rat)) (k i : Nat) (hr : rightB ss = true) (hi : i < ss.length) (hk : k ≤ 90000 := by omega) : Ct Tryz.prog JT 19 [none, none] [[pBox ss k], [pV (.int .i64 i)]] [none, none, none]
    (fun γ => [.own (γ 0) spanR (rowsB (loB ss i) (k + k + 1 + 2)), .own (γ 1) spanR (rowsB (hiB ss i) (k + k + 1 + 2)), .ro false (pV (.bool true))]) := by
  have hl := right_pos hr
  obtain ⟨s, he⟩ := at_some hi
  refine aCt (D := DS) hMix (tr := (.em (.call 15 [.s (.c 0 0)] [none]) (.em (.pr (.unOp .not 4 (.tmp 0)) 4 [.s (.c 2 0)]) (.cond (.c 3 0) (.ret (.t [.s (.k (.slice none 0 0)), .s (.k (.slice none 0 0)), .s (.k (.bool false))])) (.em (.pr (.binOp .lss 3 (.tmp 0) (.const (.int .i64 0)) 3) 4 [.s (.c 1 0), .s (.k (.int .i64 0))]) (.cond (.c 4 0) (.ret (.t [.s (.k (.slice none 0 0)), .s (.k (.slice none 0 0)), .s (.k (.bool false))])) (.em (.pr (.call (.mk (.builtin .len) #[.tmp 0] #[26])) 3 [.s (.c 0 0)]) (.em (.pr (.binOp .geq 3 (.tmp 0) (.tmp 1) 3) 4 [.s (.c 1 0), .s (.c 5 0)]) (.cond (.c 6 0) (.ret (.t [.s (.k (.slice none 0 0)), .s (.k (.slice none 0 0)), .s (.k (.bool false))])) (.em (.call 50 [.s (.c 0 0)] [none]) (.em (.call 50 [.s (.c 0 0)] [none]) (.em (.pr (.indexAddr 26 (.tmp 0) (.tmp 1)) 0 [.s (.c 0 0), .s (.c 1 0)]) (.em (.pr (.indexAddr 26 (.tmp 0) (.tmp 1)) 0 [.s (.c 0 0), .s (.c 1 0)]) (.em (.ld (.load 92 (.tmp 0)) 92 [.s (.c 9 0)] (some 8)) (.em (.ld (.load 92 (.tmp 0)) 92 [.s (.c 10 0)] (some 8)) (.em (.call 51 [.g [.c 11 0, .c 11 1, .c 11 2, .c 11 3, .c 11 4, .c 11 5, .c 11 6, .c 11 7]] [some 4]) (.em (.call 51 [.g [.c 12 0, .c 12 1, .c 12 2, .c 12 3, .c 12 4, .c 12 5, .c 12 6, .c 12 7]] [some 4]) (.em (.pr (.indexAddr 26 (.tmp 0) (.tmp 1)) 0 [.s (.c 7 0), .s (.c 1 0)]) (.em (.pr (.fieldAddr 92 (.tmp 0) 1) 0 [.s (.c 15 0)]) (.em (.wx (.store 54 (.tmp 0) (.tmp 1)) 0 [.s (.c 16 0), .g [.c 13 0, .c 13 1, .c 13 2, .c 13 3]] none) (.em (.pr (.indexAddr 26 (.tmp 0) (.tmp 1)) 0 [.s (.c 8 0), .s (.c 1 0)]) (.em (.pr (.fieldAddr 92 (.tmp 0) 0) 0 [.s (.c 18 0)]) (.em (.wx (.store 54 (.tmp 0) (.tmp 1)) 0 [.s (.c 19 0), .g [.c 14 0, .c 14 1, .c 14 2, .c 14 3]] none) (.ret (.t [.s (.c 7 0), .s (.c 8 0), .s (.k (.bool true))]))))))))))))))))))))))))) (by kernel_rfl) (by kernel_rfl) (by kernel_rfl) rfl (fun w0 => ?_)
  refine aCall rfl (right_ct _ _) (fun γ => ?_)
  rw [hr]
  refine aPr rfl (prNot rfl) rfl ?_
  refine aFalse rfl ?_
  refine aPr rfl (prLt rfl rfl) rfl ?_
  rw [decide_eq_false (by omega)]
  refine aFalse rfl ?_
  refine aLen rfl (List.length_map _) ?_
  refine aPr rfl (prGe rfl rfl) rfl ?_
  rw [decide_eq_false (by omega)]
  refine aFalse rfl ?_
  refine aCall rfl (bfresh_ct _ _ (by omega)) (fun γ7 => ?_)
  refine aConv 7 [.own (γ7 0) spanR (rowsB ss (k + k + 1 + 2))] rfl (ConvS.ownC (rowC_B (by omega)) ConvS.nil) ?_
  refine aCall rfl (bfresh_ct _ _ (by omega)) (fun γ8 => ?_)
  refine aConv 8 [.own (γ8 0) spanR (rowsB ss (k + k + 1 + 2))] rfl (ConvS.ownC (rowC_B (by omega)) ConvS.nil) ?_
  refine aIdx rfl rfl (fun _ => rfl) (by omega) (row_at he) ?_
  refine aIdx rfl rfl (fun _ => rfl) (by omega) (row_at he) ?_
  refine aLd rfl rfl rfl ?_
  refine aLd rfl rfl rfl ?_
  refine aCall rfl (mid5_ct _ _ _) (fun γ => ?_)
  refine aCall rfl (mid5_ct _ _ _) (fun γ => ?_)
  refine aIdxO rfl rfl (fun _ => rfl) (by omega) (by simp; omega) ?_
  refine aFieldK (off := 4) rfl (by kernel_rfl) ?_
  refine aStore 7 0 i 4 rfl rfl rfl rfl (row_at he) (by show _ = i * 8 + 4; rfl) rfl rfl ?_
  rw [low_set he]
  refine aIdxO rfl rfl (fun _ => rfl) (by omega) (by simp; omega) ?_
  refine aFieldK (off := 0) rfl (by kernel_rfl) ?_
  refine aStore 8 0 i 0 rfl rfl rfl rfl (row_at he) (by show _ = i * 8 + 0; rfl) rfl rfl ?_
  rw [high_set he]
  exact aRet (fun n => bif Nat.beq n 0 then γ7 0 else γ8 0) rfl rfl rfl
def OfB (ts : List (ByteArray × ByteArray)) : Prop := pairsB ts 4 = true ∧ boxC ts = 0
theorem of6_ct (ts : List (ByteArray × ByteArray)) (hf : Fits ts) (hl : ts.length ≤ 9223372036854775807) (h : OfB ts) : Ct Tryz.prog JT 37 [none] [[pTexts ts]] [none, none, none] (fun γ => [.own (γ 0) spanR (rowsB (valsB ts) 500), .own (γ 1) dspanR (rowsD (valsB ts) 500), .ro false (pV (.bool true))]) := by
  refine aCt (D := DL) hMix (tr := (.em (.call 10 [.s (.c 0 0), .s (.k (.int .i64 4))] [none]) (.em (.pr (.unOp .not 4 (.tmp 0)) 4 [.s (.c 1 0)]) (.cond (.c 2 0) (.ret (.t [.s (.k (.slice none 0 0)), .s (.k (.slice none 0 0)), .s (.k (.bool false))])) (.em (.call 12 [.s (.c 0 0)] [none, none]) (.em (.pr (.binOp .neq 27 (.tmp 0) (.const (.int .i64 0)) 27) 4 [.s (.c 3 1), .s (.k (.int .i64 0))]) (.cond (.c 4 0) (.ret (.t [.s (.k (.slice none 0 0)), .s (.k (.slice none 0 0)), .s (.k (.bool false))])) (.em (.call 11 [.s (.c 0 0)] [none, none]) (.em (.pr (.call (.mk (.builtin .len) #[.tmp 0] #[26])) 3 [.s (.c 5 0)]) (.em (.pr (.call (.mk (.builtin .len) #[.tmp 0] #[30])) 3 [.s (.c 3 0)]) (.em (.pr (.binOp .eql 3 (.tmp 0) (.tmp 1) 3) 4 [.s (.c 6 0), .s (.c 7 0)]) (.ret (.t [.s (.c 5 0), .s (.c 3 0), .s (.c 8 0)]))))))))))))) (by kernel_rfl) (by kernel_rfl) (by kernel_rfl) rfl (fun w0 => ?_)
  refine aCall rfl (pairs_ct ts 4 hl) (fun γ => ?_)
  rw [h.1]
  refine aPr rfl (prNot rfl) rfl ?_
  refine aFalse rfl ?_
  refine aCall rfl (dparse_ct ts hf h.2) (fun γ3 => ?_)
  refine aPr rfl (prNe rfl rfl) rfl ?_
  refine aFalse rfl ?_
  refine aCall rfl (parse_ct ts hf h.2) (fun γ5 => ?_)
  refine aLen rfl (List.length_map _) ?_
  refine aLen rfl (List.length_map _) ?_
  refine aPrE rfl (prEq rfl rfl) (v' := .bool true) (by simp) rfl ?_
  exact aRet (fun n => bif Nat.beq n 0 then γ5 0 else γ3 0) rfl rfl rfl
theorem ofN6_ct (ts : List (ByteArray × ByteArray)) (hf : Fits ts) (hl : ts.length ≤ 9223372036854775807) (h : ¬ OfB ts) : Ct Tryz.prog JT 37 [none] [[pTexts ts]] [none, none, none] (fun _ => [.ro false (pV (.slice none 0 0)), .ro false (pV (.slice none 0 0)), .ro false (pV (.bool false))]) := by
  refine aCt (D := DL) hMix (tr := (.em (.call 10 [.s (.c 0 0), .s (.k (.int .i64 4))] [none]) (.em (.pr (.unOp .not 4 (.tmp 0)) 4 [.s (.c 1 0)]) (.cond (.c 2 0) (.ret (.t [.s (.k (.slice none 0 0)), .s (.k (.slice none 0 0)), .s (.k (.bool false))])) (.em (.call 12 [.s (.c 0 0)] [none, none]) (.em (.pr (.binOp .neq 27 (.tmp 0) (.const (.int .i64 0)) 27) 4 [.s (.c 3 1), .s (.k (.int .i64 0))]) (.cond (.c 4 0) (.ret (.t [.s (.k (.slice none 0 0)), .s (.k (.slice none 0 0)), .s (.k (.bool false))])) (.em (.call 11 [.s (.c 0 0)] [none, none]) (.em (.pr (.call (.mk (.builtin .len) #[.tmp 0] #[26])) 3 [.s (.c 5 0)]) (.em (.pr (.call (.mk (.builtin .len) #[.tmp 0] #[30])) 3 [.s (.c 3 0)]) (.em (.pr (.binOp .eql 3 (.tmp 0) (.tmp 1) 3) 4 [.s (.c 6 0), .s (.c 7 0)]) (.ret (.t [.s (.c 5 0), .s (.c 3 0), .s (.c 8 0)]))))))))))))) (by kernel_rfl) (by kernel_rfl) (by kernel_rfl) rfl (fun w0 => ?_)
  refine aCall rfl (pairs_ct ts 4 hl) (fun γ => ?_)
  refine aPr rfl (prNot rfl) rfl ?_
  refine aIf rfl (fun h1 => ?_) (fun h1 => ?_)
  · exact aRet (fun _ => 0) rfl rfl rfl
  · have hb : boxC ts ≠ 0 := fun e => h ⟨not_eq' h1, e⟩
    refine aCall rfl (dparseN_ct ts hf hb) (fun γ3 => ?_)
    refine aPr rfl (prNe rfl rfl) rfl ?_
    rw [show (boxC ts != 0) = true by simpa using hb]
    refine aTrue rfl ?_
    exact aRet (fun _ => 0) rfl rfl rfl
end Go.Proofs.YtkekgmdofgkbcaaGreatDoor

namespace Go.Proofs.YtkekgmdofgkbcaaGreatDoor
open Go.RowKit Cin
theorem texts_vals {ts : List (ByteArray × ByteArray)} (h : boxC ts = 0) : textsB (valsB ts) = ts := by
  obtain ⟨_, _, hall⟩ := boxC_ok h
  unfold textsB valsB
  rw [List.map_map]
  refine List.ext_getElem? fun i => ?_
  rw [List.getElem?_map]
  cases hi : ts[i]? with
  | none => rfl
  | some t =>
    obtain ⟨hsp, _⟩ := sideC_ok (hall t (List.mem_of_getElem? hi))
    simp only [Option.map_some, Function.comp]
    rw [ratS_ratVal hsp.1, ratS_ratVal hsp.2.1]
theorem boxTells_ct (ts : List (ByteArray × ByteArray)) (hf : Fits ts) (hl : ts.length ≤ 9223372036854775807) : Ct Tryz.prog JP 3 [none] [[pTexts ts]] [none] (fun _ => [.ro false (pV (.bool true))]) := by
  refine aCt (D := DL) hMix (tr := (.em (.call 9 [] [none]) (.em (.pr (.unOp .not 4 (.tmp 0)) 4 [.s (.c 1 0)]) (.cond (.c 2 0) (.ret (.v (.s (.k (.bool false))))) (.em (.call 10 [.s (.c 0 0), .s (.k (.int .i64 8))] [none]) (.em (.pr (.unOp .not 4 (.tmp 0)) 4 [.s (.c 3 0)]) (.cond (.c 4 0) (.ret (.v (.s (.k (.bool true))))) (.em (.wx (.call (.mk (.builtin .append) #[.const (.slice none 0 0), .tmp 1] #[22, 22])) 22 [.s (.k (.slice none 0 0)), .s (.c 0 0)] (some none)) (.em (.call 11 [.s (.c 5 0)] [none, none]) (.em (.call 12 [.s (.c 0 0)] [none, none]) (.em (.pr (.binOp .neq 27 (.tmp 0) (.tmp 1) 27) 4 [.s (.c 6 1), .s (.c 7 1)]) (.cond (.c 8 0) (.ret (.v (.s (.k (.bool false))))) (.em (.call 13 [.s (.c 5 0), .s (.c 0 0)] [none]) (.em (.pr (.unOp .not 4 (.tmp 0)) 4 [.s (.c 9 0)]) (.cond (.c 10 0) (.ret (.v (.s (.k (.bool false))))) (.em (.pr (.binOp .neq 27 (.tmp 0) (.const (.int .i64 0)) 27) 4 [.s (.c 7 1), .s (.k (.int .i64 0))]) (.cond (.c 11 0) (.em (.pr (.call (.mk (.builtin .len) #[.tmp 0] #[26])) 3 [.s (.c 6 0)]) (.em (.pr (.binOp .eql 3 (.tmp 0) (.const (.int .i64 0)) 3) 4 [.s (.c 12 0), .s (.k (.int .i64 0))]) (.ret (.v (.s (.c 13 0)))))) (.em (.call 14 [.s (.c 6 0), .s (.c 7 0)] [none]) (.cond (.c 12 0) (.em (.call 15 [.s (.c 6 0)] [none]) (.cond (.c 13 0) (.em (.call 16 [.s (.c 6 0)] [none]) (.em (.call 13 [.s (.c 14 0), .s (.c 0 0)] [none]) (.ret (.v (.s (.c 15 0)))))) (.ret (.v (.s (.k (.bool false))))))) (.ret (.v (.s (.k (.bool false)))))))))))))))))))))))) (by kernel_rfl) (by kernel_rfl) (by kernel_rfl) rfl (fun w0 => ?_)
  refine aCall rfl alive6_ct (fun γ => ?_)
  refine aPr rfl (prNot rfl) rfl ?_
  refine aFalse rfl ?_
  refine aCall rfl (pairs_ct ts 8 hl) (fun γ => ?_)
  refine aPr rfl (prNot rfl) rfl ?_
  refine aIf rfl (fun h2 => ?_) (fun h2 => ?_)
  · exact aRet (fun _ => 0) rfl rfl rfl
  · have hp := not_eq' h2
    have h8 : ts.length ≤ 8 := by simp only [pairsB, Bool.and_eq_true, decide_eq_true_eq] at hp; exact hp.1
    refine aAppend0 rfl (zs := [.string ByteArray.empty, .string ByteArray.empty]) (by simp; omega) (fun g5 => ?_)
    by_cases hb : boxC ts = 0
    · have hr := vals_right hb
      have hvl : (valsB ts).length = ts.length := by simp [valsB]
      refine aCall rfl (parse_ct ts hf hb) (fun γ6 => ?_)
      refine aCall rfl (dparse_ct ts hf hb) (fun γ7 => ?_)
      refine aPr rfl (prNe rfl rfl) rfl ?_
      refine aFalse rfl ?_
      refine aCall rfl (same_ct ts hl) (fun γ => ?_)
      refine aPr rfl (prNot rfl) rfl ?_
      refine aFalse rfl ?_
      refine aPr rfl (prNe rfl rfl) rfl ?_
      refine aFalse rfl ?_
      refine aCall rfl (is6_ct (valsB ts) 500 500 (by omega)) (fun γ => ?_)
      refine aTrue rfl ?_
      refine aCall rfl (right_ct (valsB ts) 500) (fun γ => ?_)
      rw [hr]
      refine aTrue rfl ?_
      refine aCall rfl (bplain_ct (valsB ts) 500 (by omega)) (fun γ => ?_)
      rw [texts_vals hb]
      refine aCall rfl (same_ct ts hl) (fun γ => ?_)
      exact aRet (fun _ => 0) rfl rfl rfl
    · refine aCall rfl (parseN_ct ts hf hb) (fun γ6 => ?_)
      refine aCall rfl (dparseN_ct ts hf hb) (fun γ7 => ?_)
      refine aPr rfl (prNe rfl rfl) rfl ?_
      rw [show (boxC ts != boxC ts) = false by simp]
      refine aFalse rfl ?_
      refine aCall rfl (same_ct ts hl) (fun γ => ?_)
      refine aPr rfl (prNot rfl) rfl ?_
      refine aFalse rfl ?_
      refine aPr rfl (prNe rfl rfl) rfl ?_
      rw [show (boxC ts != 0) = true by simpa using hb]
      refine aTrue rfl ?_
      refine aConv 6 [.ro false (pRows spanR []), .ro false (pV (.int .i64 (boxC ts)))] rfl (ConvS.rows (ConvS.same ConvS.nil)) ?_
      refine aLen rfl (n := 0) rfl ?_
      refine aPr rfl (prEq rfl rfl) rfl ?_
      exact aRet (fun _ => 0) rfl rfl rfl
theorem boxWidest_ct (ts : List (ByteArray × ByteArray)) (hf : Fits ts) (hl : ts.length ≤ 9223372036854775807) : Ct Tryz.prog JT 8 [none] [[pTexts ts]] [none] (fun _ => [.ro false (pV (.bool true))]) := by
  refine aCt (D := DL) hMix (tr := (.em (.call 37 [.s (.c 0 0)] [none, none, none]) (.em (.pr (.unOp .not 4 (.tmp 0)) 4 [.s (.c 1 2)]) (.cond (.c 2 0) (.em (.call 9 [] [none]) (.ret (.v (.s (.c 3 0))))) (.em (.call 9 [] [none]) (.em (.pr (.unOp .not 4 (.tmp 0)) 4 [.s (.c 3 0)]) (.cond (.c 4 0) (.em (.call 9 [] [none]) (.ret (.v (.s (.c 5 0))))) (.em (.call 21 [.s (.c 1 0)] [none]) (.em (.pr (.binOp .lss 3 (.tmp 0) (.const (.int .i64 0)) 3) 4 [.s (.c 5 0), .s (.k (.int .i64 0))]) (.cond (.c 6 0) (.ret (.v (.s (.k (.bool false))))) (.em (.pr (.call (.mk (.builtin .len) #[.tmp 0] #[26])) 3 [.s (.c 1 0)]) (.em (.pr (.binOp .geq 3 (.tmp 0) (.tmp 1) 3) 4 [.s (.c 5 0), .s (.c 7 0)]) (.cond (.c 8 0) (.ret (.v (.s (.k (.bool false))))) (.em (.call 19 [.s (.c 1 0), .s (.c 5 0)] [none, none, none]) (.loop 0 [.k (.bool false), .k (.int .i64 0)] (.em (.pr (.call (.mk (.builtin .len) #[.tmp 0] #[26])) 3 [.s (.c 1 0)]) (.em (.pr (.binOp .lss 3 (.tmp 0) (.tmp 1) 3) 4 [.s (.c 10 1), .s (.c 11 0)]) (.cond (.c 12 0) (.em (.pr (.indexAddr 26 (.tmp 0) (.tmp 1)) 0 [.s (.c 1 0), .s (.c 10 1)]) (.em (.pr (.indexAddr 26 (.tmp 0) (.tmp 1)) 0 [.s (.c 1 0), .s (.c 5 0)]) (.em (.ld (.load 92 (.tmp 0)) 92 [.s (.c 13 0)] (some 8)) (.em (.ld (.load 92 (.tmp 0)) 92 [.s (.c 14 0)] (some 8)) (.em (.call 41 [.g [.c 15 0, .c 15 1, .c 15 2, .c 15 3, .c 15 4, .c 15 5, .c 15 6, .c 15 7]] [some 4]) (.em (.call 41 [.g [.c 16 0, .c 16 1, .c 16 2, .c 16 3, .c 16 4, .c 16 5, .c 16 6, .c 16 7]] [some 4]) (.em (.call 40 [.g [.c 17 0, .c 17 1, .c 17 2, .c 17 3], .g [.c 18 0, .c 18 1, .c 18 2, .c 18 3]] [none]) (.em (.pr (.binOp .gtr 3 (.tmp 0) (.const (.int .i64 0)) 3) 4 [.s (.c 19 0), .s (.k (.int .i64 0))]) (.cond (.c 20 0) (.ret (.v (.s (.k (.bool false))))) (.em (.pr (.binOp .eql 3 (.tmp 0) (.const (.int .i64 0)) 3) 4 [.s (.c 19 0), .s (.k (.int .i64 0))]) (.cond (.c 21 0) (.em (.pr (.binOp .lss 3 (.tmp 0) (.tmp 1) 3) 4 [.s (.c 10 1), .s (.c 5 0)]) (.cond (.c 22 0) (.ret (.v (.s (.k (.bool false))))) (.em (.pr (.binOp .add 3 (.tmp 0) (.const (.int .i64 1)) 3) 3 [.s (.c 10 1), .s (.k (.int .i64 1))]) (.back 0 [.c 10 0, .c 23 0])))) (.em (.pr (.binOp .add 3 (.tmp 0) (.const (.int .i64 1)) 3) 3 [.s (.c 10 1), .s (.k (.int .i64 1))]) (.back 0 [.c 10 0, .c 22 0]))))))))))))) (.cond (.c 9 2) (.em (.pr (.call (.mk (.builtin .len) #[.tmp 0] #[26])) 3 [.s (.c 9 0)]) (.em (.pr (.call (.mk (.builtin .len) #[.tmp 0] #[26])) 3 [.s (.c 1 0)]) (.em (.pr (.binOp .eql 3 (.tmp 0) (.tmp 1) 3) 4 [.s (.c 13 0), .s (.c 14 0)]) (.cond (.c 15 0) (.em (.pr (.indexAddr 26 (.tmp 0) (.tmp 1)) 0 [.s (.c 9 0), .s (.c 5 0)]) (.em (.pr (.indexAddr 26 (.tmp 0) (.tmp 1)) 0 [.s (.c 9 0), .s (.c 5 0)]) (.em (.pr (.indexAddr 26 (.tmp 0) (.tmp 1)) 0 [.s (.c 1 0), .s (.c 5 0)]) (.em (.ld (.load 92 (.tmp 0)) 92 [.s (.c 16 0)] (some 8)) (.em (.ld (.load 92 (.tmp 0)) 92 [.s (.c 17 0)] (some 8)) (.em (.ld (.load 92 (.tmp 0)) 92 [.s (.c 18 0)] (some 8)) (.em (.call 41 [.g [.c 19 0, .c 19 1, .c 19 2, .c 19 3, .c 19 4, .c 19 5, .c 19 6, .c 19 7]] [some 4]) (.em (.call 41 [.g [.c 20 0, .c 20 1, .c 20 2, .c 20 3, .c 20 4, .c 20 5, .c 20 6, .c 20 7]] [some 4]) (.em (.call 42 [.g [.c 22 0, .c 22 1, .c 22 2, .c 22 3], .g [.c 23 0, .c 23 1, .c 23 2, .c 23 3]] [some 4]) (.em (.call 41 [.g [.c 21 0, .c 21 1, .c 21 2, .c 21 3, .c 21 4, .c 21 5, .c 21 6, .c 21 7]] [some 4]) (.em (.call 40 [.g [.c 24 0, .c 24 1, .c 24 2, .c 24 3], .g [.c 25 0, .c 25 1, .c 25 2, .c 25 3]] [none]) (.em (.pr (.binOp .eql 3 (.tmp 0) (.const (.int .i64 0)) 3) 4 [.s (.c 26 0), .s (.k (.int .i64 0))]) (.ret (.v (.s (.c 27 0)))))))))))))))) (.ret (.v (.s (.k (.bool false))))))))) (.ret (.v (.s (.k (.bool false)))))))))))))))))))))))) (by kernel_rfl) (by kernel_rfl) (by kernel_rfl) rfl (fun w0 => ?_)
  by_cases ho : OfB ts
  · have hr := vals_right ho.2
    have hp := right_pos hr
    have hvl : (valsB ts).length = ts.length := by simp [valsB]
    obtain ⟨m, hm⟩ := IsFM.ex (wAt (valsB ts)) _ hp.1
    have hwd : IsWd (valsB ts) (m : Int) := .inl ⟨hr, m, rfl, hm⟩
    have hml := hm.1
    obtain ⟨s, he⟩ := at_some hml
    have hlo : (loB (valsB ts) m)[m]? = some (s.1, (s.1 + s.2) / 2) := by simp [loB, he]
    refine aCall rfl (of6_ct ts hf hl ho) (fun γ1 => ?_)
    refine aPr rfl (prNot rfl) rfl ?_
    refine aFalse rfl ?_
    refine aCall rfl alive6_ct (fun γ => ?_)
    refine aPr rfl (prNot rfl) rfl ?_
    refine aFalse rfl ?_
    refine aCall rfl (widest_ct (valsB ts) 500 m hwd) (fun γ => ?_)
    refine aPr rfl (prLt rfl rfl) rfl ?_
    rw [decide_eq_false (by omega)]
    refine aFalse rfl ?_
    refine aLen rfl (List.length_map _) ?_
    refine aPr rfl (prGe rfl rfl) rfl ?_
    rw [decide_eq_false (by omega)]
    refine aFalse rfl ?_
    refine aCall rfl (split_ct (valsB ts) 500 m hr hml) (fun γ9 => ?_)
    refine aLoop (fun i : Nat => [.ro true (pV (.bool false)), .ro true (pV (.int .i64 i))]) (fun i => i ≤ (valsB ts).length) (fun i => (valsB ts).length - i) 0 rfl (Nat.zero_le _) (fun i hi => ?_)
    refine aLen rfl (List.length_map _) ?_
    refine aPr rfl (prLt rfl rfl) rfl ?_
    refine aIf rfl (fun h5 => ?_) (fun h5 => ?_)
    · have hlt : i < (valsB ts).length := by simpa using h5
      obtain ⟨t, ht⟩ := at_some hlt
      refine aIdxB rfl rfl (fun _ => rfl) (by omega) (row_at ht) ?_
      refine aIdxB rfl rfl (fun _ => rfl) (by omega) (row_at he) ?_
      refine aLd rfl rfl rfl ?_
      refine aLd rfl rfl rfl ?_
      refine aCall rfl (width5_ct _ _ _) (fun γ => ?_)
      refine aCall rfl (width5_ct _ _ _) (fun γ => ?_)
      rw [wAt_of ht, wAt_of he]
      refine aCall rfl (qcmp_ct _ _ _ _) (fun γ => ?_)
      refine aPrE rfl (prGt rfl rfl) (by rw [v_gt]) rfl ?_
      rw [decide_eq_false (show ¬ wAt (valsB ts) m < wAt (valsB ts) i by have := hm.2.1 i hlt; grind)]
      refine aFalse rfl ?_
      refine aPrE rfl (prEq rfl rfl) (by rw [v_eq]) rfl ?_
      refine aIf rfl (fun h7 => ?_) (fun h7 => ?_)
      · have e := of_decide_eq_true h7
        refine aPr rfl (prLt rfl rfl) rfl ?_
        rw [decide_eq_false (show ¬ (i : Int) < (m : Int) from fun h8 => by have := hm.2.2 i (by omega); grind)]
        refine aFalse rfl ?_
        refine aPr rfl (prAddI rfl rfl (by omega) (by omega)) rfl ?_
        exact aBack rfl rfl ⟨i + 1, rfl, rfl, hlt, by omega⟩
      · refine aPr rfl (prAddI rfl rfl (by omega) (by omega)) rfl ?_
        exact aBack rfl rfl ⟨i + 1, rfl, rfl, hlt, by omega⟩
    · refine aTrue rfl ?_
      refine aLen rfl (List.length_map _) ?_
      refine aLen rfl (List.length_map _) ?_
      refine aPrE rfl (prEq rfl rfl) (v' := .bool true) (by simp [loB]) rfl ?_
      refine aTrue rfl ?_
      refine aIdxB rfl rfl (fun _ => rfl) (by omega) (row_at hlo) ?_
      refine aIdxB rfl rfl (fun _ => rfl) (by omega) (row_at hlo) ?_
      refine aIdxB rfl rfl (fun _ => rfl) (by omega) (row_at he) ?_
      refine aLd rfl rfl rfl ?_
      refine aLd rfl rfl rfl ?_
      refine aLd rfl rfl rfl ?_
      refine aCall rfl (width5_ct _ _ _) (fun γ => ?_)
      refine aCall rfl (width5_ct _ _ _) (fun γ => ?_)
      refine aCall rfl (qadd_ct _ _ _ _) (fun γ => ?_)
      refine aCall rfl (width5_ct _ _ _) (fun γ => ?_)
      refine aCall rfl (qcmp_ct _ _ _ _) (fun γ => ?_)
      refine aPrE rfl (prEq rfl rfl) (v' := .bool true) (by rw [v_eq, decide_eq_true (by grind)]) rfl ?_
      exact aRet (fun _ => 0) rfl rfl rfl
  · refine aCall rfl (ofN6_ct ts hf hl ho) (fun γ => ?_)
    refine aPr rfl (prNot rfl) rfl ?_
    refine aTrue rfl ?_
    refine aCall rfl alive6_ct (fun γ => ?_)
    exact aRet (fun _ => 0) rfl rfl rfl
end Go.Proofs.YtkekgmdofgkbcaaGreatDoor

namespace Cin
open Go Go.ChangeShapes Go.WideShapes Go.RowKit Go.Deep
def pairRows (ps : List (ByteArray × ByteArray)) : List (List Value) := ps.map fun p => [.string p.1, .string p.2]
theorem pairRows_len (ps : List (ByteArray × ByteArray)) : ∀ x ∈ pairRows ps, x.length = 2 := fun x hx => by
  obtain ⟨p, _, rfl⟩ := List.mem_map.1 hx
  rfl
section
variable {H : Type} {enc : TypeId × Value → H} {P : Program} {w : World} {base : Nat} {held : Bool}
theorem open_pairs {r : Reach} {b0 : Nat} {t e s : TypeId} {f0 f1 : Field} {v : Value} {d : DataW H} {pl : List MemPlace} (ht : P.underlying t = some (.slice e)) (he : P.underlying e = some (.struct #[f0, f1])) (hs : P.underlying s = some .string) (hf : f0.type = s ∧ f1.type = s ∧ f0.offset = 0 ∧ f1.offset = 1) (ce : P.cellsOf e = 2) (cs : P.cellsOf s = 1)
    (hval : Value.okWide P w r b0 t v) (hd : DataW.Trod enc P w base (fun _ => true) held t v d pl) :
    ∃ ps : List (ByteArray × ByteArray), RowR 2 w v (pairRows ps) ∧ ∀ p ∈ ps, p.1.size ≤ maxLen ∧ p.2.size ≤ maxLen := by
  obtain ⟨t0, t1, o0, o1⟩ := hf
  obtain ⟨a0, ln, cp, rfl⟩ := okWide_slice ht hval
  obtain ⟨fuel, hf⟩ := hd
  simp only [Value.cells] at hf
  rcases open_slice_pairs ht he ce o0 o1 (by rw [t0]; exact cs) (by rw [t1]; exact cs) hf with ⟨hc, _⟩ | ⟨a, len, cap, m, k, V0, V1, D0, D1, P0, P1, hc, _, hl, hm, hmm, hx, hall⟩
  · simp only [List.cons.injEq, and_true] at hc
    injection hc with e1 e2 e3
    subst e1 e2 e3
    exact ⟨[], RowR.nil _ _ (fun _ => rfl), fun _ h => by cases h⟩
  · simp only [List.cons.injEq, and_true] at hc
    injection hc with e1 e2 e3
    subst e1 e2 e3
    simp only [if_true] at hmm
    subst hmm
    have hstr : ∀ i, i < m → ∃ q : ByteArray × ByteArray, V0 i = .string q.1 ∧ V1 i = .string q.2 ∧ q.1.size ≤ maxLen ∧ q.2.size ≤ maxLen := fun i hi => by
      have h0 := (hall i hi).2.2.1
      have h1 := (hall i hi).2.2.2
      rw [t0] at h0
      rw [t1] at h1
      obtain ⟨x, g0, _, l0⟩ := DataW.trod_string hs h0
      obtain ⟨y, g1, _, l1⟩ := DataW.trod_string hs h1
      simp only [List.cons.injEq, and_true] at g0 g1
      exact ⟨(x, y), g0, g1, l0, l1⟩
    obtain ⟨q, hq⟩ := choose_lt hstr
    refine ⟨(List.range ln).map q, ⟨pairRows_len _, ?_⟩, fun p hp => ?_⟩
    · cases hln : ln with
      | zero => exact .inl ⟨_, _, rfl, fun h => (by cases h), by simp [pairRows]⟩
      | succ l =>
        right
        obtain ⟨b, o, spot⟩ := a
        have hspot : spot = none := by simpa [Addr.add] using World.cell?_spot (hall 0 (by omega)).1
        subst hspot
        have hb : b < w.heap.size := by
          have := (hall 0 (by omega)).1
          simp only [Nat.zero_mul, Addr.add_mid, Nat.add_zero, World.cell?] at this
          cases hh : w.heap[b]? with
          | none => simp [hh] at this
          | some ob => exact lt_of_heap hh
        refine ⟨b, o, m, by simp [pairRows], hb, by simp [pairRows]; omega, fun i x hx j y hy => ?_⟩
        simp only [pairRows, List.map_map, List.getElem?_map] at hx
        cases hr : (List.range (l + 1))[i]? with
        | none => rw [hr] at hx; cases hx
        | some i' =>
          rw [hr] at hx
          simp only [Option.map_some, Option.some.injEq, Function.comp] at hx
          have hi := (List.getElem?_eq_some_iff.1 hr)
          obtain ⟨hi1, hi2⟩ := hi
          simp at hi1 hi2
          subst hi2
          subst hx
          obtain ⟨c0, c1, _, _⟩ := hall i (by omega)
          obtain ⟨g0, g1, _, _⟩ := hq i (by omega)
          rw [g0] at c0
          rw [g1] at c1
          simp only [Addr.add_mid] at c0 c1
          match j, hy with
          | 0, hy => simp at hy; subst hy; exact c0
          | 1, hy => simp at hy; subst hy; exact c1
    · obtain ⟨i, hi, rfl⟩ := List.mem_map.1 hp
      have := hq i (by have := List.mem_range.1 hi; omega)
      exact ⟨this.2.2.1, this.2.2.2⟩
end
end Cin
