/- The laws RatNews, RatLeast. -/
import Derived.Test.YtpchnejdbmoicaaGreatDoorX9
import Derived.Test.YtpchnejdbmoicaaGreatDoorM13
namespace Go.Proofs.YtpchnejdbmoicaaGreatDoor
open Go.RowKit Cin

theorem parts_join {s : ByteArray} (h : 0 ≤ slashAt s) : nPart s ++ (⟨#[47]⟩ : ByteArray) ++ dPart s = s := by
  obtain ⟨o, ho⟩ := Int.eq_ofNat_of_zero_le h
  have h1 := (Lib.indexByte_some (show Lib.indexByte s.data.toList 47 = (o : Int) from ho)).1
  have hlt := (List.getElem?_eq_some_iff.1 h1).1
  have hsz : s.data.toList.length = s.size := bytes_len s
  apply ByteArray.ext
  apply Array.toList_inj.1
  unfold nPart dPart
  rw [ho]
  simp only [Int.toNat_natCast, ByteArray.data_append, ByteArray.data_extract, Array.toList_append, Array.toList_extract, List.extract_eq_take_drop, List.drop_zero, Nat.sub_zero]
  have e0 : (s.data.toList.drop (o + 1)).take (s.size - (o + 1)) = s.data.toList.drop (o + 1) := List.take_of_length_le (by rw [List.length_drop]; omega)
  rw [e0]
  conv => rhs; rw [← List.take_append_drop o s.data.toList]
  rw [List.append_assoc]
  congr 1
  rw [List.drop_eq_getElem_cons hlt]
  have := (List.getElem?_eq_some_iff.1 h1).2
  rw [this]; rfl
/-- A quotient's text is the text that it was read from. -/
theorem ratS_ratVal {s : ByteArray} (h : RatOk s) : ratS (ratVal s) = s := by
  rcases h with ⟨hneg, hi⟩ | ⟨hpos, hi, hj, e1, e2⟩
  · obtain ⟨q1, q2⟩ := ratVal_int hneg
    unfold ratS
    rw [if_pos q2, q1, intS_intVal hi]
  · obtain ⟨q1, q2⟩ := ratVal_quo hpos e1 e2
    unfold ratS
    rw [if_neg (by omega), q1, q2, intS_intVal hi, intS_pos (by omega), Int.natAbs_natCast, decS_decL hj]
    exact parts_join hpos

set_option maxHeartbeats 4000000 in
/-- The law RatNews holds of every two texts. -/
theorem ratNews_any (s r : ByteArray) (w : World) (hT : Tabs w) :
    Calls Tryz.prog 3 #[.string s, .string r] w fun e w' => e = .returned (.bool true) ∧ Below w.heap.size w w' := by
  refine go (fun _ => True) [[.string s], [.string r]] [none, none] (tr := (.em (.call 9 [] [none]) (.em (.pr (.unOp .not 4 (.tmp 0)) 4 [.s (.c 2 0)]) (.cond (.c 3 0) (.ret (.v (.s (.k (.bool false))))) (.em (.call 10 [.s (.c 0 0)] [some 2, none]) (.em (.call 10 [.s (.c 1 0)] [some 2, none]) (.em (.pr (.unOp .not 4 (.tmp 0)) 4 [.s (.c 4 2)]) (.cond (.c 6 0) (.ret (.v (.s (.k (.bool true))))) (.em (.pr (.unOp .not 4 (.tmp 0)) 4 [.s (.c 5 2)]) (.cond (.c 7 0) (.ret (.v (.s (.k (.bool true))))) (.em (.pr (.call (.mk (.builtin .len) #[.tmp 0] #[9])) 3 [.s (.c 0 0)]) (.em (.pr (.binOp .gtr 3 (.tmp 0) (.const (.int .i64 100)) 3) 4 [.s (.c 8 0), .s (.k (.int .i64 100))]) (.cond (.c 9 0) (.ret (.v (.s (.k (.bool true))))) (.em (.pr (.call (.mk (.builtin .len) #[.tmp 0] #[9])) 3 [.s (.c 1 0)]) (.em (.pr (.binOp .gtr 3 (.tmp 0) (.const (.int .i64 100)) 3) 4 [.s (.c 10 0), .s (.k (.int .i64 100))]) (.cond (.c 11 0) (.ret (.v (.s (.k (.bool true))))) (.em (.call 11 [.s (.c 0 0)] [some 2, none]) (.em (.call 11 [.s (.c 1 0)] [some 2, none]) (.em (.call 12 [.g [.c 12 0, .c 12 1], .g [.c 13 0, .c 13 1]] [some 4, none]) (.em (.call 13 [.g [.c 5 0, .c 5 1]] [none]) (.em (.pr (.binOp .eql 3 (.tmp 0) (.const (.int .i64 0)) 3) 4 [.s (.c 15 0), .s (.k (.int .i64 0))]) (.cond (.c 16 0) (.em (.pr (.unOp .not 4 (.tmp 0)) 4 [.s (.c 14 4)]) (.cond (.c 17 0) (.em (.call 14 [.g [.c 14 0, .c 14 1, .c 14 2, .c 14 3]] [none]) (.em (.pr (.binOp .eql 9 (.tmp 0) (.const (.string ⟨#[48]⟩)) 9) 4 [.s (.c 18 0), .s (.k (.string ⟨#[48]⟩))]) (.ret (.v (.s (.c 19 0)))))) (.ret (.v (.s (.k (.bool false))))))) (.cond (.c 14 4) (.em (.call 16 [.g [.c 4 0, .c 4 1], .g [.c 5 0, .c 5 1]] [some 3]) (.em (.call 15 [.g [.c 14 0, .c 14 1, .c 14 2, .c 14 3], .g [.c 17 0, .c 17 1, .c 17 2]] [none]) (.ret (.v (.s (.c 18 0)))))) (.ret (.v (.s (.k (.bool false)))))))))))))))))))))))))))) (by kernel_rfl) (by kernel_rfl) (by kernel_rfl) Mono.true trivial ⟨rfl, rfl, trivial⟩ ?_
  refine wVal (fun w b _ => alive3_any w (hT.below b)) rfl ?_
  refine wPr (prNot rfl) rfl ?_
  refine wFalse rfl ?_
  by_cases hi : IsInt s
  · refine wIntV hU (fun w b _ => rparseY s w hi) rfl (fun x1 y1 => ?_)
    by_cases hj : IsInt r
    · refine wIntV hU (fun w b _ => rparseY r w hj) rfl (fun x2 y2 => ?_)
      refine wPr (prNot rfl) rfl ?_
      refine wFalse rfl ?_
      refine wPr (prNot rfl) rfl ?_
      refine wFalse rfl ?_
      refine wPr (prLenS hStrT rfl) rfl ?_
      refine wPr (prGt rfl rfl) rfl ?_
      refine wIf _ rfl (fun e => ?_) (fun e => ?_)
      · exact wRet fun w b _ => ⟨rfl, b⟩
      have l1 : s.size ≤ 100 := by have : ¬ (100 : Int) < s.size := by simpa using e
                                   omega
      refine wPr (prLenS hStrT rfl) rfl ?_
      refine wPr (prGt rfl rfl) rfl ?_
      refine wIf _ rfl (fun e => ?_) (fun e => ?_)
      · exact wRet fun w b _ => ⟨rfl, b⟩
      have l2 : r.size ≤ 100 := by have : ¬ (100 : Int) < r.size := by simpa using e
                                   omega
      refine wIntV hU (fun w b _ => iparseY s w hi) rfl (fun x3 y3 => ?_)
      refine wIntV hU (fun w b _ => iparseY r w hj) rfl (fun x4 y4 => ?_)
      by_cases hz : intVal r = 0
      · refine wKnown [.bool false, .slice none 0 0, .bool false, .slice none 0 0, .bool false] (fun w b ⟨h4, h3, _⟩ => qnewZero_any _ _ _ 500 w h3 (by rw [hz] at h4; exact h4) (by decide)) rfl rfl ?_
        refine wVal (fun w b ⟨_, _, h2, _⟩ => rsign_any _ (intVal r) 500 w h2) rfl ?_
        refine wPr (prEq rfl rfl) rfl ?_
        refine wTrue (by show Value.bool (_ == _) = _; rw [hz]; rfl) ?_
        refine wPr (prNot rfl) rfl ?_
        refine wTrue rfl ?_
        refine wVal (fun w b _ => qtext_any _ 0 1 w (zeroQ w 1 (by decide)) (by decide) (hT.below b)) rfl ?_
        refine wPr (prSEq rfl rfl) rfl ?_
        exact wRet fun w b _ => ⟨by show Ending.returned (.bool (_ == _)) = _; rw [ratS_zero, beq_self_eq_true], b⟩
      · refine wRatV (fun w b ⟨h4, h3, _⟩ => qnew_any _ _ (intVal s) (intVal r) 500 w h3 h4 (by decide) hz) rfl (fun _ _ _ _ => ?_)
        refine wVal (fun w b ⟨_, _, _, h2, _⟩ => rsign_any _ (intVal r) 500 w h2) rfl ?_
        refine wPr (prEq rfl rfl) rfl ?_
        refine wFalse (by show Value.bool (_ == _) = _; rw [sgn_zero, decide_eq_false hz]) ?_
        refine wTrue rfl ?_
        refine wDQ (fun w b ⟨_, _, _, h2, h1, _⟩ => dnew_any _ _ (intVal s) (intVal r) 500 w h1 h2 (by decide) (by decide) hz) (fun _ _ _ => ?_)
        refine wVal (fun w b ⟨h6, h5, _⟩ => is_any _ _ _ 500 500 w ⟨_, _, _, _, rfl, h5⟩ ⟨_, _, _, rfl, h6⟩ (by decide) (by decide) (hT.below b)) rfl ?_
        exact wRet fun w b _ => ⟨rfl, b⟩
    · refine wKnown [.bool false, .slice none 0 0, .bool false] (fun w b _ => rparseN r w hj) rfl rfl ?_
      refine wPr (prNot rfl) rfl ?_
      refine wFalse rfl ?_
      refine wPr (prNot rfl) rfl ?_
      refine wTrue rfl ?_
      exact wRet fun w b _ => ⟨rfl, b⟩
  · refine wKnown [.bool false, .slice none 0 0, .bool false] (fun w b _ => rparseN s w hi) rfl rfl ?_
    by_cases hj : IsInt r
    · refine wIntV hU (fun w b _ => rparseY r w hj) rfl (fun x2 y2 => ?_)
      refine wPr (prNot rfl) rfl ?_
      refine wTrue rfl ?_
      exact wRet fun w b _ => ⟨rfl, b⟩
    · refine wKnown [.bool false, .slice none 0 0, .bool false] (fun w b _ => rparseN r w hj) rfl rfl ?_
      refine wPr (prNot rfl) rfl ?_
      refine wTrue rfl ?_
      exact wRet fun w b _ => ⟨rfl, b⟩

theorem nq_times (x : Rat) {k : Int} (hk : k ≠ 0) : nq (x.num * k) ((x.den : Int) * k) = x := by
  rw [nq_div, Rat.intCast_mul, Rat.intCast_mul]
  have h1 := num_den x
  have h3 := den_ne x
  have h5 : (k : Rat) ≠ 0 := fun h => hk (Rat.intCast_eq_zero_iff.1 h)
  generalize (x.num : Rat) = a at *
  generalize ((x.den : Int) : Rat) = b at *
  generalize (k : Rat) = c at *
  subst h1
  grind

set_option maxHeartbeats 4000000 in
/-- The law RatLeast holds of every text and word. -/
theorem ratLeast_any (s : ByteArray) (k : Int) (w : World) (hT : Tabs w) (hs : s.size ≤ maxLen) (k0 : -9223372036854775808 ≤ k) (k1 : k < 9223372036854775808) :
    Calls Tryz.prog 6 #[.string s, .int .i64 k] w fun e w' => e = .returned (.bool true) ∧ Below w.heap.size w w' := by
  refine go (fun _ => True) [[.string s], [.int .i64 k]] [none, none] (tr := (.em (.call 17 [.s (.c 0 0)] [some 4, some 3, none]) (.em (.pr (.unOp .not 4 (.tmp 0)) 4 [.s (.c 2 7)]) (.cond (.c 3 0) (.em (.call 9 [] [none]) (.ret (.v (.s (.c 4 0))))) (.em (.call 9 [] [none]) (.em (.pr (.unOp .not 4 (.tmp 0)) 4 [.s (.c 4 0)]) (.cond (.c 5 0) (.em (.call 9 [] [none]) (.ret (.v (.s (.c 6 0))))) (.em (.pr (.binOp .eql 2 (.tmp 0) (.const (.int .i64 0)) 2) 4 [.s (.c 1 0), .s (.k (.int .i64 0))]) (.cond (.c 6 0) (.em (.call 9 [] [none]) (.ret (.v (.s (.c 7 0))))) (.em (.call 30 [.s (.c 1 0)] [some 2]) (.em (.call 32 [.g [.c 2 0, .c 2 1, .c 2 2, .c 2 3]] [some 2]) (.em (.call 31 [.g [.c 8 0, .c 8 1], .g [.c 7 0, .c 7 1]] [some 2]) (.em (.call 33 [.g [.c 2 0, .c 2 1, .c 2 2, .c 2 3]] [some 2]) (.em (.call 31 [.g [.c 10 0, .c 10 1], .g [.c 7 0, .c 7 1]] [some 2]) (.em (.call 12 [.g [.c 9 0, .c 9 1], .g [.c 11 0, .c 11 1]] [some 4, none]) (.em (.call 14 [.g [.c 12 0, .c 12 1, .c 12 2, .c 12 3]] [none]) (.em (.call 34 [.s (.c 13 0)] [some 4, none]) (.cond (.c 12 4) (.em (.call 14 [.g [.c 12 0, .c 12 1, .c 12 2, .c 12 3]] [none]) (.em (.call 14 [.g [.c 2 0, .c 2 1, .c 2 2, .c 2 3]] [none]) (.em (.pr (.binOp .eql 9 (.tmp 0) (.tmp 1) 9) 4 [.s (.c 15 0), .s (.c 16 0)]) (.cond (.c 17 0) (.em (.pr (.binOp .eql 33 (.tmp 0) (.const (.int .i64 0)) 33) 4 [.s (.c 14 4), .s (.k (.int .i64 0))]) (.cond (.c 18 0) (.em (.call 25 [.g [.c 14 0, .c 14 1, .c 14 2, .c 14 3], .g [.c 2 0, .c 2 1, .c 2 2, .c 2 3]] [none]) (.em (.pr (.binOp .eql 3 (.tmp 0) (.const (.int .i64 0)) 3) 4 [.s (.c 19 0), .s (.k (.int .i64 0))]) (.cond (.c 20 0) (.em (.call 33 [.g [.c 2 0, .c 2 1, .c 2 2, .c 2 3]] [some 2]) (.em (.call 35 [.g [.c 21 0, .c 21 1]] [none]) (.em (.pr (.binOp .eql 3 (.tmp 0) (.const (.int .i64 1)) 3) 4 [.s (.c 22 0), .s (.k (.int .i64 1))]) (.ret (.v (.s (.c 23 0))))))) (.ret (.v (.s (.k (.bool false)))))))) (.ret (.v (.s (.k (.bool false))))))) (.ret (.v (.s (.k (.bool false))))))))) (.ret (.v (.s (.k (.bool false))))))))))))))))))))))) (by kernel_rfl) (by kernel_rfl) (by kernel_rfl) Mono.true trivial ⟨rfl, rfl, trivial⟩ ?_
  by_cases ks : NumQ s
  · have htx := ratS_ratVal ks.1
    have hrp : ∀ w, Calls Tryz.prog 34 #[.string (ratS (ratVal s))] w fun e w' => ∃ v', e = .returned (.tuple #[v', .int .i64 0]) ∧ RatB w' v' (ratVal s) 500 ∧ Below w.heap.size w w' := fun w => by
      rw [htx]; exact qparse_ok s w (Nat.le_trans hs maxLen_le) ks.1
    refine wBoth (fun w _ _ => numY s w (Nat.le_trans hs maxLen_le) ks) rfl (fun _ _ _ _ _ _ _ => ?_)
    refine wPr (prNot rfl) rfl ?_
    refine wFalse rfl ?_
    refine wVal (fun w b _ => alive3_any w (hT.below b)) rfl ?_
    refine wPr (prNot rfl) rfl ?_
    refine wFalse rfl ?_
    refine wPr (prEq rfl rfl) rfl ?_
    generalize ratVal s = x at *
    refine wIf _ rfl (fun e => ?_) (fun e => ?_)
    · refine wVal (fun w b _ => alive3_any w (hT.below b)) rfl ?_
      exact wRet fun w b _ => ⟨rfl, b⟩
    have hk : k ≠ 0 := by simpa using e
    have hxp := x.den_pos
    refine wInt hU (fun w b _ => iof_any k w k0 k1) (fun _ _ => ?_)
    refine wInt hU (fun w b ⟨_, h, _⟩ => qnum_any _ x 21 w ⟨_, _, _, _, rfl, h⟩ (by decide)) (fun _ _ => ?_)
    refine wInt hU (fun w b ⟨h2, h1, _⟩ => imul_any _ _ x.num k 21 2 w h2 h1 (by decide) (by decide)) (fun _ _ => ?_)
    refine wInt hU (fun w b ⟨_, _, _, h, _⟩ => qden_any _ x 21 w ⟨_, _, _, _, rfl, h⟩ (by decide)) (fun _ _ => ?_)
    refine wInt hU (fun w b ⟨h4, _, _, h1, _⟩ => imul_any _ _ (x.den : Int) k 21 2 w h4 h1 (by decide) (by decide)) (fun _ _ => ?_)
    refine wRatV (q := x) (fun w b ⟨h5, _, h3, _⟩ => by rw [← nq_times x hk]; exact qnew_any _ _ _ _ 23 w h3 h5 (by decide) (Int.mul_ne_zero (by omega) hk)) rfl (fun _ _ _ _ => ?_)
    refine wVal (fun w b ⟨h6, _⟩ => qtext_any _ x 23 w ⟨_, _, _, _, rfl, h6⟩ (by decide) (hT.below b)) rfl ?_
    refine wRatV (fun w b _ => hrp w) rfl (fun _ _ _ _ => ?_)
    refine wTrue rfl ?_
    refine wVal (fun w b ⟨_, h6, _⟩ => qtext_any _ x 23 w ⟨_, _, _, _, rfl, h6⟩ (by decide) (hT.below b)) rfl ?_
    refine wVal (fun w b ⟨_, _, _, _, _, _, _, h, _⟩ => qtext_any _ x 21 w ⟨_, _, _, _, rfl, h⟩ (by decide) (hT.below b)) rfl ?_
    refine wPr (prSEq rfl rfl) rfl ?_
    refine wTrue (by show Value.bool (_ == _) = _; rw [beq_self_eq_true]) ?_
    refine wPr (prEq rfl rfl) rfl ?_
    refine wTrue rfl ?_
    refine wVal (fun w b ⟨h7, _, _, _, _, _, _, h, _⟩ => qcmp_any _ _ x x 500 21 w ⟨_, _, _, _, rfl, h7⟩ ⟨_, _, _, _, rfl, h⟩ (by decide) (by decide)) rfl ?_
    refine wPr (prEq rfl rfl) rfl ?_
    refine wTrue (by show Value.bool (_ == _) = _; rw [cmpQ_self]; rfl) ?_
    refine wInt hU (fun w b ⟨_, _, _, _, _, _, _, h, _⟩ => qden_any _ x 21 w ⟨_, _, _, _, rfl, h⟩ (by decide)) (fun _ _ => ?_)
    refine wVal (v := .int .i64 1) (fun w b ⟨h8, _⟩ => by
      have e : sgnZ (x.den : Int) = 1 := by unfold sgnZ; rw [if_neg (by omega), if_pos (by omega)]
      rw [← e]
      exact sign_any _ _ 21 w h8 (by decide)) rfl ?_
    refine wPr (prEq rfl rfl) rfl ?_
    exact wRet fun w b _ => ⟨rfl, b⟩
  · refine wKnown [.bool false, .slice none 0 0, .bool false, .slice none 0 0, .bool false, .slice none 0 0, .slice none 0 0, .bool false] (fun w _ _ => numN s w (Nat.le_trans hs maxLen_le) ks) rfl rfl ?_
    refine wPr (prNot rfl) rfl ?_
    refine wTrue rfl ?_
    refine wVal (fun w b _ => alive3_any w (hT.below b)) rfl ?_
    exact wRet fun w b _ => ⟨rfl, b⟩

end Go.Proofs.YtpchnejdbmoicaaGreatDoor
