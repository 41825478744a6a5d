/- The law RatTells. -/
import Derived.Test.YtpchnejdbmoicabGreatDoorYu
import Derived.Test.YtpchnejdbmoicabGreatDoorM13
namespace Go.Proofs.YtpchnejdbmoicabGreatDoor
open Go.RowKit Cin

theorem parts_join {s : ByteArray} (h : 0 ≤ slashAt s) : nPart s ++ (⟨#[47]⟩ : ByteArray) ++ dPart s = s := by
  obtain ⟨o, ho⟩ := Int.eq_ofNat_of_zero_le h
  have h1 := (Lib.indexByte_some (show Lib.indexByte s.data.toList 47 = (o : Int) from ho)).1
  have hlt := (List.getElem?_eq_some_iff.1 h1).1
  have hsz : s.data.toList.length = s.size := bytes_len s
  apply ByteArray.ext
  apply Array.toList_inj.1
  unfold nPart dPart
  rw [ho]
  simp only [Int.toNat_natCast, ByteArray.data_append, ByteArray.data_extract, Array.toList_append, Array.toList_extract, List.extract_eq_take_drop, List.drop_zero, Nat.sub_zero]
  have e0 : (s.data.toList.drop (o + 1)).take (s.size - (o + 1)) = s.data.toList.drop (o + 1) := List.take_of_length_le (by rw [List.length_drop]; omega)
  rw [e0]
  conv => rhs; rw [← List.take_append_drop o s.data.toList]
  rw [List.append_assoc]
  congr 1
  rw [List.drop_eq_getElem_cons hlt]
  have := (List.getElem?_eq_some_iff.1 h1).2
  rw [this]; rfl
/-- A quotient's text is the text that it was read from. -/
theorem ratS_ratVal {s : ByteArray} (h : RatOk s) : ratS (ratVal s) = s := by
  rcases h with ⟨hneg, hi⟩ | ⟨hpos, hi, hj, e1, e2⟩
  · obtain ⟨q1, q2⟩ := ratVal_int hneg
    unfold ratS
    rw [if_pos q2, q1, intS_intVal hi]
  · obtain ⟨q1, q2⟩ := ratVal_quo hpos e1 e2
    unfold ratS
    rw [if_neg (by omega), q1, q2, intS_intVal hi, intS_pos (by omega), Int.natAbs_natCast, decS_decL hj]
    exact parts_join hpos

theorem ratS_zero : ratS 0 = ⟨#[48]⟩ := by
  unfold ratS
  rw [if_pos (show Rat.den 0 = 1 from rfl)]
  exact intS_dig (n := 0) (by decide)
theorem zeroQ (w : World) (k : Nat) (hk : 1 ≤ k) : RatB w (.agg #[.bool false, .slice none 0 0, .bool false, .slice none 0 0]) 0 k := ⟨_, _, _, _, rfl, IntB.zero _ _ _, IntB.zero _ _ _, one_lt k hk⟩

theorem iparseN (s : ByteArray) (w : World) (h : ¬ IsInt s) : Calls Tryz.prog 34 #[.string s] w fun e w' => e = .returned (.tuple #[.agg #[.bool false, .slice none 0 0], .int .i64 2]) ∧ Below w.heap.size w w' :=
  (iparse_any s w).mono fun e w' hp => by
    rcases hp with ⟨hn, _⟩ | ⟨_, h⟩
    · exact absurd hn h
    · exact h
theorem int_big {r : ByteArray} (h : IsInt r) (h1 : 1 < intVal r) : IsNum (byts r) ∧ intVal r = (decL (byts r) : Nat) := by
  have hn : negT r = false := by
    cases hneg : negT r with
    | false => rfl
    | true =>
      unfold intVal at h1
      rw [hneg] at h1
      unfold sg at h1
      simp at h1
      omega
  have hd : digT r = r := by unfold digT; rw [hn]; rfl
  have h2 := h.1
  rw [hd] at h2
  refine ⟨h2, ?_⟩
  unfold intVal
  rw [hn, hd]; rfl

set_option maxHeartbeats 1000000 in
/-- Parse: of any other text no number. -/
theorem qparse_no (s : ByteArray) (w : World) (hs : s.size ≤ 9223372036854775807) (h : ¬ RatOk s) :
    Calls Tryz.prog 7 #[.string s] w fun e w' => e = .returned (.tuple #[.agg #[.bool false, .slice none 0 0, .bool false, .slice none 0 0], .int .i64 2]) ∧ Below w.heap.size w w' := by
  refine go (fun _ => True) [[.string s]] [none] (tr := (.em (.call 33 [.s (.c 0 0), .s (.k (.string ⟨#[47]⟩))] [none, none, none]) (.em (.call 34 [.s (.c 1 0)] [some 2, none]) (.em (.pr (.binOp .neq 30 (.tmp 0) (.const (.int .i64 0)) 30) 4 [.s (.c 2 2), .s (.k (.int .i64 0))]) (.cond (.c 3 0) (.ret (.t [.g [.k (.bool false), .k (.slice none 0 0), .k (.bool false), .k (.slice none 0 0)], .s (.k (.int .i64 2))])) (.em (.pr (.unOp .not 4 (.tmp 0)) 4 [.s (.c 1 2)]) (.cond (.c 4 0) (.ret (.t [.g [.c 2 0, .c 2 1, .k (.bool false), .k (.slice none 0 0)], .s (.k (.int .i64 0))])) (.em (.call 34 [.s (.c 1 1)] [some 2, none]) (.em (.pr (.binOp .neq 30 (.tmp 0) (.const (.int .i64 0)) 30) 4 [.s (.c 5 2), .s (.k (.int .i64 0))]) (.cond (.c 6 0) (.ret (.t [.g [.k (.bool false), .k (.slice none 0 0), .k (.bool false), .k (.slice none 0 0)], .s (.k (.int .i64 2))])) (.em (.call 36 [.s (.k (.int .i64 1))] [some 2]) (.em (.call 35 [.g [.c 5 0, .c 5 1], .g [.c 7 0, .c 7 1]] [none]) (.em (.pr (.binOp .leq 3 (.tmp 0) (.const (.int .i64 0)) 3) 4 [.s (.c 8 0), .s (.k (.int .i64 0))]) (.cond (.c 9 0) (.ret (.t [.g [.k (.bool false), .k (.slice none 0 0), .k (.bool false), .k (.slice none 0 0)], .s (.k (.int .i64 2))])) (.em (.call 38 [.g [.c 2 0, .c 2 1], .g [.c 5 0, .c 5 1]] [some 2]) (.em (.call 37 [.g [.c 10 0, .c 10 1]] [none]) (.em (.pr (.unOp .not 4 (.tmp 0)) 4 [.s (.c 11 0)]) (.cond (.c 12 0) (.ret (.t [.g [.k (.bool false), .k (.slice none 0 0), .k (.bool false), .k (.slice none 0 0)], .s (.k (.int .i64 2))])) (.ret (.t [.g [.c 2 0, .c 2 1, .c 5 0, .c 5 1], .s (.k (.int .i64 0))])))))))))))))))))))) (by kernel_rfl) (by kernel_rfl) (by kernel_rfl) Mono.true trivial ⟨rfl, trivial⟩ ?_
  by_cases hpos : 0 ≤ slashAt s
  · refine wKnown [.string (nPart s), .string (dPart s), .bool true] (fun w b _ => cut_any s w hs) (by rw [if_pos hpos]; rfl) rfl ?_
    by_cases hi : IsInt (nPart s)
    · refine wIntV hU (fun w b _ => iparseY _ w hi) rfl (fun x1 y1 => ?_)
      refine wPr (prNe rfl rfl) rfl ?_
      refine wFalse rfl ?_
      refine wPr (prNot rfl) rfl ?_
      refine wFalse rfl ?_
      by_cases hj : IsInt (dPart s)
      · refine wIntV hU (fun w b _ => iparseY _ w hj) rfl (fun x2 y2 => ?_)
        refine wPr (prNe rfl rfl) rfl ?_
        refine wFalse rfl ?_
        refine wInt hU (fun w b _ => iof_any 1 w (by decide) (by decide)) (fun x3 y3 => ?_)
        refine wVal (fun w b ⟨h3, h2, _⟩ => icmp_any _ _ (intVal (dPart s)) 1 500 2 w h2 h3 (by decide) (by decide)) rfl ?_
        refine wPr (prLe rfl rfl) rfl ?_
        by_cases h1 : 1 < intVal (dPart s)
        · obtain ⟨n1, n2⟩ := int_big hj h1
          have hg : Nat.gcd (intVal (nPart s)).natAbs (intVal (dPart s)).natAbs ≠ 1 := fun e => h (.inr ⟨hpos, hi, n1, by omega, by rw [n2, Int.natAbs_natCast, Nat.gcd_comm] at e; exact e⟩)
          refine wFalse (by show Value.bool (decide _) = _; rw [decide_eq_false (by unfold cmpZ; rw [if_neg (by omega), if_pos h1]; decide)]) ?_
          refine wInt hU (fun w b ⟨_, h2, h1, _⟩ => qgcd_any _ _ _ _ 500 500 w h1 h2 (by decide) (by decide)) (fun x4 y4 => ?_)
          refine wVal (v := .bool false) (fun w b ⟨h4, _⟩ => by
            have e : decide (((Nat.gcd (intVal (nPart s)).natAbs (intVal (dPart s)).natAbs : Nat) : Int) = 1) = false := decide_eq_false (by omega)
            rw [← e]
            exact isOne_any _ _ _ w h4 (by decide)) rfl ?_
          refine wPr (prNot rfl) rfl ?_
          refine wTrue rfl ?_
          exact wRet fun w b _ => ⟨rfl, b⟩
        · refine wTrue (by show Value.bool (decide _) = _; rw [decide_eq_true (by unfold cmpZ; rw [if_neg h1]; split <;> decide)]) ?_
          exact wRet fun w b _ => ⟨rfl, b⟩
      · refine wKnown [.bool false, .slice none 0 0, .int .i64 2] (fun w b _ => iparseN _ w hj) rfl rfl ?_
        refine wPr (prNe rfl rfl) rfl ?_
        refine wTrue rfl ?_
        exact wRet fun w b _ => ⟨rfl, b⟩
    · refine wKnown [.bool false, .slice none 0 0, .int .i64 2] (fun w b _ => iparseN _ w hi) rfl rfl ?_
      refine wPr (prNe rfl rfl) rfl ?_
      refine wTrue rfl ?_
      exact wRet fun w b _ => ⟨rfl, b⟩
  · have hi : ¬ IsInt s := fun hi => h (.inl ⟨by omega, hi⟩)
    refine wKnown [.string s, .string ⟨#[]⟩, .bool false] (fun w b _ => cut_any s w hs) (by rw [if_neg hpos]; rfl) rfl ?_
    refine wKnown [.bool false, .slice none 0 0, .int .i64 2] (fun w b _ => iparseN _ w hi) rfl rfl ?_
    refine wPr (prNe rfl rfl) rfl ?_
    refine wTrue rfl ?_
    exact wRet fun w b _ => ⟨rfl, b⟩

set_option maxHeartbeats 4000000 in
/-- The law RatTells holds of every text. -/
theorem ratTells_any (s : ByteArray) (w : World) (hT : Tabs w) (ha : s.size ≤ maxLen) :
    Calls Tryz.prog 3 #[.string s] w fun e w' => e = .returned (.bool true) ∧ Below w.heap.size w w' := by
  have hs : s.size ≤ 9223372036854775807 := Nat.le_trans ha (by unfold maxLen; omega)
  refine go (fun _ => True) [[.string s]] [none] (tr := (.em (.call 6 [] [none]) (.em (.pr (.unOp .not 4 (.tmp 0)) 4 [.s (.c 1 0)]) (.cond (.c 2 0) (.ret (.v (.s (.k (.bool false))))) (.em (.pr (.call (.mk (.builtin .len) #[.tmp 0] #[9])) 3 [.s (.c 0 0)]) (.em (.pr (.binOp .gtr 3 (.tmp 0) (.const (.int .i64 3000)) 3) 4 [.s (.c 3 0), .s (.k (.int .i64 3000))]) (.cond (.c 4 0) (.ret (.v (.s (.k (.bool true))))) (.em (.call 7 [.s (.c 0 0)] [some 4, none]) (.em (.call 8 [.s (.c 0 0)] [some 3, none]) (.em (.pr (.unOp .not 4 (.tmp 0)) 4 [.s (.c 6 3)]) (.cond (.c 7 0) (.em (.pr (.binOp .eql 30 (.tmp 0) (.const (.int .i64 2)) 30) 4 [.s (.c 5 4), .s (.k (.int .i64 2))]) (.cond (.c 8 0) (.em (.call 9 [.g [.c 5 0, .c 5 1, .c 5 2, .c 5 3]] [none]) (.em (.pr (.binOp .eql 9 (.tmp 0) (.const (.string ⟨#[48]⟩)) 9) 4 [.s (.c 9 0), .s (.k (.string ⟨#[48]⟩))]) (.ret (.v (.s (.c 10 0)))))) (.ret (.v (.s (.k (.bool false))))))) (.em (.pr (.binOp .eql 30 (.tmp 0) (.const (.int .i64 0)) 30) 4 [.s (.c 5 4), .s (.k (.int .i64 0))]) (.cond (.c 8 0) (.em (.call 9 [.g [.c 5 0, .c 5 1, .c 5 2, .c 5 3]] [none]) (.em (.pr (.binOp .eql 9 (.tmp 0) (.tmp 1) 9) 4 [.s (.c 9 0), .s (.c 0 0)]) (.cond (.c 10 0) (.em (.call 10 [.g [.c 5 0, .c 5 1, .c 5 2, .c 5 3]] [none]) (.em (.call 11 [.g [.c 6 0, .c 6 1]] [none]) (.em (.pr (.binOp .eql 3 (.tmp 0) (.tmp 1) 3) 4 [.s (.c 11 0), .s (.c 12 0)]) (.cond (.c 13 0) (.em (.call 12 [.g [.c 5 0, .c 5 1, .c 5 2, .c 5 3]] [some 2]) (.em (.call 13 [.g [.c 14 0, .c 14 1]] [none]) (.em (.call 14 [.g [.c 6 0, .c 6 1]] [none]) (.em (.pr (.binOp .eql 9 (.tmp 0) (.tmp 1) 9) 4 [.s (.c 15 0), .s (.c 16 0)]) (.cond (.c 17 0) (.em (.call 15 [.g [.c 5 0, .c 5 1, .c 5 2, .c 5 3]] [some 2]) (.em (.call 13 [.g [.c 18 0, .c 18 1]] [none]) (.em (.call 17 [.g [.c 6 0, .c 6 1, .c 6 2]] [none]) (.em (.call 16 [.s (.c 20 0)] [none]) (.em (.pr (.binOp .eql 9 (.tmp 0) (.tmp 1) 9) 4 [.s (.c 19 0), .s (.c 21 0)]) (.ret (.v (.s (.c 22 0))))))))) (.ret (.v (.s (.k (.bool false)))))))))) (.ret (.v (.s (.k (.bool false))))))))) (.ret (.v (.s (.k (.bool false)))))))) (.ret (.v (.s (.k (.bool false)))))))))))))))))) (by kernel_rfl) (by kernel_rfl) (by kernel_rfl) Mono.true trivial ⟨rfl, trivial⟩ ?_
  refine wVal (fun w b _ => alive3_any w (hT.below b)) rfl ?_
  refine wPr (prNot rfl) rfl ?_
  refine wFalse rfl ?_
  refine wPr (prLenS hStrT rfl) rfl ?_
  refine wPr (prGt rfl rfl) rfl ?_
  refine wIf _ rfl (fun e => ?_) (fun e => ?_)
  · exact wRet fun w b _ => ⟨rfl, b⟩
  by_cases hr : RatOk s
  · have htx := ratS_ratVal hr
    refine wRatV (fun w b _ => qparse_ok s w hs hr) rfl (fun _ _ _ _ => ?_)
    refine wDQV (fun w b _ => dparseY s w hs hr) rfl (fun _ _ _ => ?_)
    refine wPr (prNot rfl) rfl ?_
    refine wFalse rfl ?_
    refine wPr (prEq rfl rfl) rfl ?_
    refine wTrue rfl ?_
    generalize ratVal s = x at *
    refine wVal (fun w b ⟨_, h, _⟩ => qtext_any _ x 500 w ⟨_, _, _, _, rfl, h⟩ (by decide) (hT.below b)) rfl ?_
    refine wPr (prSEq rfl rfl) rfl ?_
    refine wTrue (by show Value.bool (_ == _) = _; rw [htx, beq_self_eq_true]) ?_
    refine wVal (fun w b ⟨_, h, _⟩ => qsign_any _ x 500 w ⟨_, _, _, _, rfl, h⟩ (by decide)) rfl ?_
    refine wVal (fun w b ⟨h, _⟩ => rsign_any _ x.num 500 w h.1) rfl ?_
    refine wPr (prEq rfl rfl) rfl ?_
    refine wTrue (by show Value.bool (_ == _) = _; rw [beq_self_eq_true]) ?_
    refine wInt hU (fun w b ⟨_, h, _⟩ => qnum_any _ x 500 w ⟨_, _, _, _, rfl, h⟩ (by decide)) (fun _ _ => ?_)
    refine wVal (fun w b ⟨h, _⟩ => itext_any _ x.num 500 w h (by decide) (hT.below b)) rfl ?_
    refine wVal (fun w b ⟨_, h, _⟩ => ritext_any _ x.num 500 w h.1 (by decide)) rfl ?_
    refine wPr (prSEq rfl rfl) rfl ?_
    refine wTrue (by show Value.bool (_ == _) = _; rw [beq_self_eq_true]) ?_
    refine wInt hU (fun w b ⟨_, _, h, _⟩ => qden_any _ x 500 w ⟨_, _, _, _, rfl, h⟩ (by decide)) (fun _ _ => ?_)
    refine wVal (fun w b ⟨h, _⟩ => itext_any _ (x.den : Int) 500 w h (by decide) (hT.below b)) rfl ?_
    refine wRef hU (fun w b ⟨_, _, h, _⟩ => dden_any _ x 500 w ⟨_, _, _, rfl, h⟩) (fun _ => ?_)
    refine wVal (fun w b ⟨h, _⟩ => rtextB _ x.den 500 w h (by decide)) rfl ?_
    refine wPr (prSEq rfl rfl) rfl ?_
    have hd : decS x.den = intS x.den := by rw [intS_pos (by omega), Int.natAbs_natCast]
    exact wRet fun w b _ => ⟨by show Ending.returned (.bool (_ == _)) = _; rw [hd, beq_self_eq_true], b⟩
  · refine wKnown [.bool false, .slice none 0 0, .bool false, .slice none 0 0, .int .i64 2] (fun w b _ => qparse_no s w hs hr) rfl rfl ?_
    refine wCall (fun cs _ => ∃ a b d, cs = [a, b, d, .bool false]) (fun _ _ _ _ h => h) (fun w b _ => (dparse_any s w hs).mono ?_) (fun cs => ?_)
    · rintro e w' (⟨h, _⟩ | ⟨_, a, b, d, rfl, hp, hb⟩)
      · exact absurd h hr
      · simp only [List.all_cons, List.all_nil, Bool.and_true, Bool.and_eq_true] at hp
        exact ⟨[a, b, d, .bool false], rfl, by simp only [List.all_cons, List.all_nil, Bool.and_true, Bool.and_eq_true]; exact ⟨hp.1, hp.2.1, hp.2.2, rfl⟩, ⟨a, b, d, rfl⟩, hb⟩
    · intro hm u hF
      obtain ⟨⟨a, b, d, rfl⟩, _⟩ := id hF
      refine wMono Mono.true (fun _ _ => trivial) ?_ hm u hF
      refine wPr (prNot rfl) rfl ?_
      refine wTrue rfl ?_
      refine wPr (prEq rfl rfl) rfl ?_
      refine wTrue rfl ?_
      refine wVal (fun w b _ => qtext_any _ 0 1 w (zeroQ w 1 (by decide)) (by decide) (hT.below b)) rfl ?_
      refine wPr (prSEq rfl rfl) rfl ?_
      exact wRet fun w b _ => ⟨by show Ending.returned (.bool (_ == _)) = _; rw [ratS_zero, beq_self_eq_true], b⟩

end Go.Proofs.YtpchnejdbmoicabGreatDoor
