/- Quotients as texts: the document's RatParse and what it has beside; strings' Cut, rat's Parse. -/
import Derived.Test.YtpmnakjllkidiaaGreatDoorYr
import Derived.Test.YtpmnakjllkidiaaGreatDoorYg
import Derived.Test.YtpmnakjllkidiaaGreatDoorYh
import Derived.Test.YtpmnakjllkidiaaGreatDoorYj
import Derived.Test.YtpmnakjllkidiaaGreatDoorYq
namespace Go.Proofs.YtpmnakjllkidiaaGreatDoor
open Go.RowKit Cin
theorem cmpI_le (n : Nat) : decide (cmpI n 1 ≤ 0) = decide (¬ 1 < n) := by
  unfold cmpI
  by_cases h1 : n < 1
  · rw [if_pos h1]; simp; omega
  · rw [if_neg h1]
    by_cases h2 : 1 < n
    · rw [if_pos h2]; simp; omega
    · rw [if_neg h2]; simp; omega
def RQPost (s : ByteArray) (w : World) (e : Ending) (w' : World) : Prop :=
  (RatOk s ∧ ∃ v, e = .returned (.tuple #[v, .bool true]) ∧ DRatB w' v (ratVal s) 500 ∧ Below w.heap.size w w') ∨
  (¬ RatOk s ∧ ∃ a b d, e = .returned (.tuple #[.agg #[a, b, d], .bool false]) ∧ [a, b, d].all Value.oneCell' = true ∧ Below w.heap.size w w')
set_option maxHeartbeats 4000000 in
theorem dparse_any (s : ByteArray) (w : World) (hs : s.size ≤ 9223372036854775807) : Calls Tryz.prog 35 #[.string s] w (RQPost s w) := by
  have hlt := slash_lt s
  refine go (fun _ => True) [[.string s]] [none] (tr := (.loop 0 [.k (.int .i64 (Int.negSucc 0)), .k (.int .i64 0)] (.em (.pr (.call (.mk (.builtin .len) #[.tmp 0] #[9])) 3 [.s (.c 0 0)]) (.em (.pr (.binOp .lss 3 (.tmp 0) (.tmp 1) 3) 4 [.s (.c 1 1), .s (.c 2 0)]) (.cond (.c 3 0) (.em (.pr (.binOp .lss 3 (.tmp 0) (.const (.int .i64 0)) 3) 4 [.s (.c 1 0), .s (.k (.int .i64 0))]) (.cond (.c 4 0) (.em (.pr (.index 9 (.tmp 0) (.tmp 1)) 5 [.s (.c 0 0), .s (.c 1 1)]) (.em (.pr (.binOp .eql 5 (.tmp 0) (.const (.int .u8 47)) 5) 4 [.s (.c 5 0), .s (.k (.int .u8 47))]) (.cond (.c 6 0) (.em (.pr (.binOp .add 3 (.tmp 0) (.const (.int .i64 1)) 3) 3 [.s (.c 1 1), .s (.k (.int .i64 1))]) (.back 0 [.c 1 1, .c 7 0])) (.em (.pr (.binOp .add 3 (.tmp 0) (.const (.int .i64 1)) 3) 3 [.s (.c 1 1), .s (.k (.int .i64 1))]) (.back 0 [.c 1 0, .c 7 0]))))) (.em (.pr (.binOp .lss 3 (.tmp 0) (.const (.int .i64 0)) 3) 4 [.s (.c 1 0), .s (.k (.int .i64 0))]) (.cond (.c 5 0) (.em (.call 62 [.s (.c 0 0)] [some 2, none]) (.em (.call 63 [.s (.k (.int .u64 1))] [none]) (.ret (.t [.g [.c 6 0, .c 6 1, .c 7 0], .s (.c 6 2)])))) (.em (.pr (.slice 9 (.tmp 0) none (some (.tmp 1)) none) 9 [.s (.c 0 0), .s (.c 1 0)]) (.em (.call 62 [.s (.c 6 0)] [some 2, none]) (.em (.pr (.binOp .add 3 (.tmp 0) (.const (.int .i64 1)) 3) 3 [.s (.c 1 0), .s (.k (.int .i64 1))]) (.em (.pr (.slice 9 (.tmp 0) (some (.tmp 1)) none none) 9 [.s (.c 0 0), .s (.c 8 0)]) (.em (.call 64 [.s (.c 9 0)] [none, none]) (.em (.pr (.unOp .not 4 (.tmp 0)) 4 [.s (.c 7 2)]) (.cond (.c 11 0) (.ret (.t [.g [.k (.bool false), .k (.slice none 0 0), .k (.slice none 0 0)], .s (.k (.bool false))])) (.em (.pr (.unOp .not 4 (.tmp 0)) 4 [.s (.c 10 1)]) (.cond (.c 12 0) (.ret (.t [.g [.k (.bool false), .k (.slice none 0 0), .k (.slice none 0 0)], .s (.k (.bool false))])) (.em (.call 63 [.s (.k (.int .u64 1))] [none]) (.em (.call 65 [.s (.c 10 0), .s (.c 13 0)] [none]) (.em (.pr (.binOp .leq 3 (.tmp 0) (.const (.int .i64 0)) 3) 4 [.s (.c 14 0), .s (.k (.int .i64 0))]) (.cond (.c 15 0) (.ret (.t [.g [.k (.bool false), .k (.slice none 0 0), .k (.slice none 0 0)], .s (.k (.bool false))])) (.em (.call 66 [.s (.c 10 0), .s (.c 7 1)] [none]) (.em (.call 63 [.s (.k (.int .u64 1))] [none]) (.em (.call 65 [.s (.c 16 0), .s (.c 17 0)] [none]) (.em (.pr (.binOp .neq 3 (.tmp 0) (.const (.int .i64 0)) 3) 4 [.s (.c 18 0), .s (.k (.int .i64 0))]) (.cond (.c 19 0) (.ret (.t [.g [.k (.bool false), .k (.slice none 0 0), .k (.slice none 0 0)], .s (.k (.bool false))])) (.ret (.t [.g [.c 7 0, .c 7 1, .c 10 0], .s (.k (.bool true))])))))))))))))))))))))))) (.em (.pr (.binOp .lss 3 (.tmp 0) (.const (.int .i64 0)) 3) 4 [.s (.c 1 0), .s (.k (.int .i64 0))]) (.cond (.c 4 0) (.em (.call 62 [.s (.c 0 0)] [some 2, none]) (.em (.call 63 [.s (.k (.int .u64 1))] [none]) (.ret (.t [.g [.c 5 0, .c 5 1, .c 6 0], .s (.c 5 2)])))) (.em (.pr (.slice 9 (.tmp 0) none (some (.tmp 1)) none) 9 [.s (.c 0 0), .s (.c 1 0)]) (.em (.call 62 [.s (.c 5 0)] [some 2, none]) (.em (.pr (.binOp .add 3 (.tmp 0) (.const (.int .i64 1)) 3) 3 [.s (.c 1 0), .s (.k (.int .i64 1))]) (.em (.pr (.slice 9 (.tmp 0) (some (.tmp 1)) none none) 9 [.s (.c 0 0), .s (.c 7 0)]) (.em (.call 64 [.s (.c 8 0)] [none, none]) (.em (.pr (.unOp .not 4 (.tmp 0)) 4 [.s (.c 6 2)]) (.cond (.c 10 0) (.ret (.t [.g [.k (.bool false), .k (.slice none 0 0), .k (.slice none 0 0)], .s (.k (.bool false))])) (.em (.pr (.unOp .not 4 (.tmp 0)) 4 [.s (.c 9 1)]) (.cond (.c 11 0) (.ret (.t [.g [.k (.bool false), .k (.slice none 0 0), .k (.slice none 0 0)], .s (.k (.bool false))])) (.em (.call 63 [.s (.k (.int .u64 1))] [none]) (.em (.call 65 [.s (.c 9 0), .s (.c 12 0)] [none]) (.em (.pr (.binOp .leq 3 (.tmp 0) (.const (.int .i64 0)) 3) 4 [.s (.c 13 0), .s (.k (.int .i64 0))]) (.cond (.c 14 0) (.ret (.t [.g [.k (.bool false), .k (.slice none 0 0), .k (.slice none 0 0)], .s (.k (.bool false))])) (.em (.call 66 [.s (.c 9 0), .s (.c 6 1)] [none]) (.em (.call 63 [.s (.k (.int .u64 1))] [none]) (.em (.call 65 [.s (.c 15 0), .s (.c 16 0)] [none]) (.em (.pr (.binOp .neq 3 (.tmp 0) (.const (.int .i64 0)) 3) 4 [.s (.c 17 0), .s (.k (.int .i64 0))]) (.cond (.c 18 0) (.ret (.t [.g [.k (.bool false), .k (.slice none 0 0), .k (.slice none 0 0)], .s (.k (.bool false))])) (.ret (.t [.g [.c 6 0, .c 6 1, .c 9 0], .s (.k (.bool true))]))))))))))))))))))))))))))) (by kernel_rfl) (by kernel_rfl) (by kernel_rfl) Mono.true trivial ⟨rfl, trivial⟩ ?_
  refine wLoop (fun cs _ => Srch s cs) (fun _ _ _ _ h => h) (Smu s) (fun w _ => ⟨-1, 0, rfl, by omega, .inl ⟨rfl, fun k hk => by omega⟩⟩) (fun cs _ => ?_)
  intro hm u hF
  obtain ⟨⟨p, i, rfl, hi, hcase⟩, _⟩ := id hF
  refine wMono Mono.true (fun _ _ => trivial) ?_ hm u hF
  clear hm hF
  refine wPr (prLenS hStrT rfl) rfl ?_
  refine wPr (prLt rfl rfl) rfl ?_
  refine wIf _ rfl (fun e => ?_) (fun e => ?_)
  · have hil : i < s.size := by have : (i : Int) < s.size := by simpa using e
                                omega
    refine wPr (prLt rfl rfl) rfl ?_
    refine wIf _ rfl (fun e => ?_) (fun e => ?_)
    · have hp0 : p < 0 := by simpa using e
      have hno : p = -1 ∧ ∀ k, k < i → s.data.toList[k]? ≠ some 47 := by
        rcases hcase with h | ⟨o, h, _⟩
        · exact h
        · omega
      obtain ⟨b, hb⟩ : ∃ b, s.data.toList[i]? = some b := ⟨_, List.getElem?_eq_getElem (by rw [bytes_len]; exact hil)⟩
      refine wPr (prIdx hStrT rfl rfl hb) rfl ?_
      refine wPr (prEq rfl rfl) rfl ?_
      refine wIf _ rfl (fun e => ?_) (fun e => ?_)
      · have e1 : b = 47 := by
          have : (b.toNat : Int) = 47 := by simpa using e
          have h47 : (47 : UInt8).toNat = 47 := rfl
          exact UInt8.toNat_inj.1 (by omega)
        subst e1
        refine wPr (prAdd rfl rfl) rfl ?_
        rw [wrap_small (by omega) (by omega)]
        refine wBack fun w _ => ⟨⟨i, i + 1, rfl, by omega, .inr ⟨i, rfl, by omega, hb, hno.2⟩⟩, ?_⟩
        show s.size - ((i : Int) + 1).toNat < s.size - (i : Int).toNat
        omega
      · have e1 : b ≠ 47 := by
          intro h
          subst h
          simp at e
        refine wPr (prAdd rfl rfl) rfl ?_
        rw [wrap_small (by omega) (by omega)]
        refine wBack fun w _ => ⟨⟨p, i + 1, rfl, by omega, .inl ⟨hno.1, fun k hk => ?_⟩⟩, ?_⟩
        · by_cases hki : k = i
          · subst hki; rw [hb]; intro h; cases h; exact e1 rfl
          · exact hno.2 k (by omega)
        · show s.size - ((i : Int) + 1).toNat < s.size - (i : Int).toNat
          omega
    · have hp1 : ¬ p < 0 := by simpa using e
      have hsl : slashAt s = p := by
        rcases hcase with h | ⟨o, h, h2, h3, h4⟩
        · omega
        · rw [h]; exact index_of h3 h4
      refine wPr (prLt rfl rfl) rfl ?_
      refine wIf _ rfl (fun e => ?_) (fun e => ?_)
      · have hp0 : p < 0 := by simpa using e
        have hneg : slashAt s < 0 := by omega
        by_cases hi : IsInt s
        · refine wIntV hU (fun w b _ => rparseY s w hi) rfl (fun x1 y1 => ?_)
          refine wRef hU (fun w b _ => rnatOf_one w) (fun x2 => ?_)
          refine wRet fun w b ⟨h2, h1, _⟩ => .inl ⟨.inl ⟨hneg, hi⟩, _, rfl, ⟨_, _, _, rfl, ?_, ⟨_, h2.1, .inl ?_⟩, ?_⟩, b⟩
          · rw [(ratVal_int hneg).1]; exact h1
          · rw [(ratVal_int hneg).2]
          · rw [(ratVal_int hneg).2]; exact one_lt 500 (by decide)
        · refine wKnown [.bool false, .slice none 0 0, .bool false] (fun w b _ => rparseN s w hi) rfl rfl ?_
          refine wCall (fun cs w => ∃ x, cs = [x] ∧ x.oneCell' = true) (fun cs u w e h => h) (fun w b _ => (rnatOf_one w).mono ?_) (fun cs => ?_)
          · rintro e w' ⟨v, rfl, h1, hb⟩
            obtain ⟨_, _, _, _, rfl, _⟩ := h1.1.shape
            exact ⟨[_], rfl, rfl, ⟨_, rfl, rfl⟩, hb⟩
          · refine wRet fun w b ⟨⟨x, hc, hx⟩, _⟩ => ?_
            subst hc
            refine .inr ⟨fun h => ?_, _, _, _, rfl, by simp only [List.all_cons, List.all_nil, Bool.and_true, Bool.and_eq_true]; exact ⟨rfl, rfl, hx⟩, b⟩
            rcases h with h | h
            · exact hi h.2
            · omega
      · have hp0 : ¬ p < 0 := by simpa using e
        refine wPr (prSlH hStrT rfl rfl (by omega) (by omega)) rfl ?_
        rw [show s.extract 0 p.toNat = nPart s by unfold nPart; rw [hsl]]
        by_cases hi : IsInt (nPart s)
        · refine wIntV hU (fun w b _ => rparseY (nPart s) w hi) rfl (fun x1 y1 => ?_)
          refine wPr (prAdd rfl rfl) rfl ?_
          rw [wrap_small (by omega) (by omega)]
          refine wPr (prSlL hStrT rfl rfl (by omega) (by omega)) rfl ?_
          rw [show s.extract (p + 1).toNat s.size = dPart s by unfold dPart; rw [hsl, show (p + 1).toNat = p.toNat + 1 by omega]]
          by_cases hj : IsNum (byts (dPart s))
          · refine wRefV hU (fun w b _ => nparseY (dPart s) w hj) rfl (fun x2 => ?_)
            refine wPr (prNot rfl) rfl ?_
            refine wFalse rfl ?_
            refine wPr (prNot rfl) rfl ?_
            refine wFalse rfl ?_
            refine wRef hU (fun w b _ => rnatOf_one w) (fun x3 => ?_)
            refine wVal (fun w b ⟨h3, h2, _⟩ => rcmpB _ _ _ 1 500 1 w h2 h3 (by decide) (by decide)) rfl ?_
            refine wPr (prLe rfl rfl) rfl ?_
            refine wIf _ rfl (fun e => ?_) (fun e => ?_)
            · have e1 : ¬ 1 < decL (byts (dPart s)) := by have := (cmpI_le _).symm.trans e; simpa using this
              exact wRet fun w b _ => .inr ⟨fun h => h.elim (fun h => by omega) (fun h => e1 h.2.2.2.1), _, _, _, rfl, rfl, b⟩
            · have e1 : 1 < decL (byts (dPart s)) := by have := (cmpI_le _).symm.trans e; simpa using this
              refine wRef hU (fun w b ⟨_, h2, h1, _⟩ => rgcd_any _ _ _ _ 500 500 w h2 (ibr h1) (by decide) (by decide)) (fun x4 => ?_)
              refine wRef hU (fun w b _ => rnatOf_one w) (fun x5 => ?_)
              refine wVal (fun w b ⟨h5, h4, _⟩ => rcmpB _ _ _ 1 (500 + 500) 1 w h4 h5 (by decide) (by decide)) rfl ?_
              refine wPr (prNe rfl rfl) rfl ?_
              refine wIf _ rfl (fun e => ?_) (fun e => ?_)
              · have e2 : Nat.gcd (decL (byts (dPart s))) (intVal (nPart s)).natAbs ≠ 1 := by have := (cmpI_one' _).symm.trans e; simpa using this
                exact wRet fun w b _ => .inr ⟨fun h => h.elim (fun h => by omega) (fun h => e2 h.2.2.2.2), _, _, _, rfl, rfl, b⟩
              · have e2 : Nat.gcd (decL (byts (dPart s))) (intVal (nPart s)).natAbs = 1 := by have := (cmpI_one' _).symm.trans e; simpa using this
                obtain ⟨q1, q2⟩ := ratVal_quo (by omega) e1 e2
                refine wRet fun w b ⟨_, _, _, h2, h1, _⟩ => .inl ⟨.inr ⟨by omega, hi, hj, e1, e2⟩, _, rfl, ⟨_, _, _, rfl, ?_, ⟨_, h2.1, .inl ?_⟩, ?_⟩, b⟩
                · rw [q1]; exact h1
                · rw [q2]
                · rw [q2]; exact h2.2
          · refine wKnown [.slice none 0 0, .bool false] (fun w b _ => nparseN (dPart s) w hj) rfl rfl ?_
            refine wPr (prNot rfl) rfl ?_
            refine wFalse rfl ?_
            refine wPr (prNot rfl) rfl ?_
            refine wTrue rfl ?_
            exact wRet fun w b _ => .inr ⟨fun h => h.elim (fun h => by omega) (fun h => hj h.2.2.1), _, _, _, rfl, rfl, b⟩
        · refine wKnown [.bool false, .slice none 0 0, .bool false] (fun w b _ => rparseN (nPart s) w hi) rfl rfl ?_
          refine wPr (prAdd rfl rfl) rfl ?_
          rw [wrap_small (by omega) (by omega)]
          refine wPr (prSlL hStrT rfl rfl (by omega) (by omega)) rfl ?_
          rw [show s.extract (p + 1).toNat s.size = dPart s by unfold dPart; rw [hsl, show (p + 1).toNat = p.toNat + 1 by omega]]
          by_cases hj : IsNum (byts (dPart s))
          · refine wRefV hU (fun w b _ => nparseY (dPart s) w hj) rfl (fun x2 => ?_)
            refine wPr (prNot rfl) rfl ?_
            refine wTrue rfl ?_
            exact wRet fun w b _ => .inr ⟨fun h => h.elim (fun h => by omega) (fun h => hi h.2.1), _, _, _, rfl, rfl, b⟩
          · refine wKnown [.slice none 0 0, .bool false] (fun w b _ => nparseN (dPart s) w hj) rfl rfl ?_
            refine wPr (prNot rfl) rfl ?_
            refine wTrue rfl ?_
            exact wRet fun w b _ => .inr ⟨fun h => h.elim (fun h => by omega) (fun h => hi h.2.1), _, _, _, rfl, rfl, b⟩
  · have hil : ¬ i < s.size := by have : ¬ (i : Int) < s.size := by simpa using e
                                  omega
    have hsl : slashAt s = p := by
      rcases hcase with h | ⟨o, h, h2, h3, h4⟩
      · rw [h.1]; exact index_no (fun k hk => h.2 k (by rw [bytes_len] at hk; omega))
      · rw [h]; exact index_of h3 h4
    refine wPr (prLt rfl rfl) rfl ?_
    refine wIf _ rfl (fun e => ?_) (fun e => ?_)
    · have hp0 : p < 0 := by simpa using e
      have hneg : slashAt s < 0 := by omega
      by_cases hi : IsInt s
      · refine wIntV hU (fun w b _ => rparseY s w hi) rfl (fun x1 y1 => ?_)
        refine wRef hU (fun w b _ => rnatOf_one w) (fun x2 => ?_)
        refine wRet fun w b ⟨h2, h1, _⟩ => .inl ⟨.inl ⟨hneg, hi⟩, _, rfl, ⟨_, _, _, rfl, ?_, ⟨_, h2.1, .inl ?_⟩, ?_⟩, b⟩
        · rw [(ratVal_int hneg).1]; exact h1
        · rw [(ratVal_int hneg).2]
        · rw [(ratVal_int hneg).2]; exact one_lt 500 (by decide)
      · refine wKnown [.bool false, .slice none 0 0, .bool false] (fun w b _ => rparseN s w hi) rfl rfl ?_
        refine wCall (fun cs w => ∃ x, cs = [x] ∧ x.oneCell' = true) (fun cs u w e h => h) (fun w b _ => (rnatOf_one w).mono ?_) (fun cs => ?_)
        · rintro e w' ⟨v, rfl, h1, hb⟩
          obtain ⟨_, _, _, _, rfl, _⟩ := h1.1.shape
          exact ⟨[_], rfl, rfl, ⟨_, rfl, rfl⟩, hb⟩
        · refine wRet fun w b ⟨⟨x, hc, hx⟩, _⟩ => ?_
          subst hc
          refine .inr ⟨fun h => ?_, _, _, _, rfl, by simp only [List.all_cons, List.all_nil, Bool.and_true, Bool.and_eq_true]; exact ⟨rfl, rfl, hx⟩, b⟩
          rcases h with h | h
          · exact hi h.2
          · omega
    · have hp0 : ¬ p < 0 := by simpa using e
      refine wPr (prSlH hStrT rfl rfl (by omega) (by omega)) rfl ?_
      rw [show s.extract 0 p.toNat = nPart s by unfold nPart; rw [hsl]]
      by_cases hi : IsInt (nPart s)
      · refine wIntV hU (fun w b _ => rparseY (nPart s) w hi) rfl (fun x1 y1 => ?_)
        refine wPr (prAdd rfl rfl) rfl ?_
        rw [wrap_small (by omega) (by omega)]
        refine wPr (prSlL hStrT rfl rfl (by omega) (by omega)) rfl ?_
        rw [show s.extract (p + 1).toNat s.size = dPart s by unfold dPart; rw [hsl, show (p + 1).toNat = p.toNat + 1 by omega]]
        by_cases hj : IsNum (byts (dPart s))
        · refine wRefV hU (fun w b _ => nparseY (dPart s) w hj) rfl (fun x2 => ?_)
          refine wPr (prNot rfl) rfl ?_
          refine wFalse rfl ?_
          refine wPr (prNot rfl) rfl ?_
          refine wFalse rfl ?_
          refine wRef hU (fun w b _ => rnatOf_one w) (fun x3 => ?_)
          refine wVal (fun w b ⟨h3, h2, _⟩ => rcmpB _ _ _ 1 500 1 w h2 h3 (by decide) (by decide)) rfl ?_
          refine wPr (prLe rfl rfl) rfl ?_
          refine wIf _ rfl (fun e => ?_) (fun e => ?_)
          · have e1 : ¬ 1 < decL (byts (dPart s)) := by have := (cmpI_le _).symm.trans e; simpa using this
            exact wRet fun w b _ => .inr ⟨fun h => h.elim (fun h => by omega) (fun h => e1 h.2.2.2.1), _, _, _, rfl, rfl, b⟩
          · have e1 : 1 < decL (byts (dPart s)) := by have := (cmpI_le _).symm.trans e; simpa using this
            refine wRef hU (fun w b ⟨_, h2, h1, _⟩ => rgcd_any _ _ _ _ 500 500 w h2 (ibr h1) (by decide) (by decide)) (fun x4 => ?_)
            refine wRef hU (fun w b _ => rnatOf_one w) (fun x5 => ?_)
            refine wVal (fun w b ⟨h5, h4, _⟩ => rcmpB _ _ _ 1 (500 + 500) 1 w h4 h5 (by decide) (by decide)) rfl ?_
            refine wPr (prNe rfl rfl) rfl ?_
            refine wIf _ rfl (fun e => ?_) (fun e => ?_)
            · have e2 : Nat.gcd (decL (byts (dPart s))) (intVal (nPart s)).natAbs ≠ 1 := by have := (cmpI_one' _).symm.trans e; simpa using this
              exact wRet fun w b _ => .inr ⟨fun h => h.elim (fun h => by omega) (fun h => e2 h.2.2.2.2), _, _, _, rfl, rfl, b⟩
            · have e2 : Nat.gcd (decL (byts (dPart s))) (intVal (nPart s)).natAbs = 1 := by have := (cmpI_one' _).symm.trans e; simpa using this
              obtain ⟨q1, q2⟩ := ratVal_quo (by omega) e1 e2
              refine wRet fun w b ⟨_, _, _, h2, h1, _⟩ => .inl ⟨.inr ⟨by omega, hi, hj, e1, e2⟩, _, rfl, ⟨_, _, _, rfl, ?_, ⟨_, h2.1, .inl ?_⟩, ?_⟩, b⟩
              · rw [q1]; exact h1
              · rw [q2]
              · rw [q2]; exact h2.2
        · refine wKnown [.slice none 0 0, .bool false] (fun w b _ => nparseN (dPart s) w hj) rfl rfl ?_
          refine wPr (prNot rfl) rfl ?_
          refine wFalse rfl ?_
          refine wPr (prNot rfl) rfl ?_
          refine wTrue rfl ?_
          exact wRet fun w b _ => .inr ⟨fun h => h.elim (fun h => by omega) (fun h => hj h.2.2.1), _, _, _, rfl, rfl, b⟩
      · refine wKnown [.bool false, .slice none 0 0, .bool false] (fun w b _ => rparseN (nPart s) w hi) rfl rfl ?_
        refine wPr (prAdd rfl rfl) rfl ?_
        rw [wrap_small (by omega) (by omega)]
        refine wPr (prSlL hStrT rfl rfl (by omega) (by omega)) rfl ?_
        rw [show s.extract (p + 1).toNat s.size = dPart s by unfold dPart; rw [hsl, show (p + 1).toNat = p.toNat + 1 by omega]]
        by_cases hj : IsNum (byts (dPart s))
        · refine wRefV hU (fun w b _ => nparseY (dPart s) w hj) rfl (fun x2 => ?_)
          refine wPr (prNot rfl) rfl ?_
          refine wTrue rfl ?_
          exact wRet fun w b _ => .inr ⟨fun h => h.elim (fun h => by omega) (fun h => hi h.2.1), _, _, _, rfl, rfl, b⟩
        · refine wKnown [.slice none 0 0, .bool false] (fun w b _ => nparseN (dPart s) w hj) rfl rfl ?_
          refine wPr (prNot rfl) rfl ?_
          refine wTrue rfl ?_
          exact wRet fun w b _ => .inr ⟨fun h => h.elim (fun h => by omega) (fun h => hi h.2.1), _, _, _, rfl, rfl, b⟩
end Go.Proofs.YtpmnakjllkidiaaGreatDoor

namespace Go.Proofs.YtpmnakjllkidiaaGreatDoor
open Go.RowKit Cin
theorem dtext_any (v : Value) (q : Rat) (k : Nat) (w : World) (h : DRatB w v q k) (hk : k ≤ 200000) :
    Calls Tryz.prog 114 #[v] w fun e w' => e = .returned (.string (ratS q)) ∧ Below w.heap.size w w' := by
  obtain ⟨a, b, d, rfl, h⟩ := h
  have s1 := intS_size h.1.2
  have s2 := intS_size (z := (q.den : Int)) (k := k) (by rw [Int.natAbs_natCast]; exact h.2.2)
  have hd : decS q.den = intS q.den := by rw [intS_pos (by omega), Int.natAbs_natCast]
  refine go (fun w => DQ w a b d q k) [[a, b, d]] [some 3] (tr := (.em (.call 61 [.g [.c 0 0, .c 0 1, .c 0 2]] [none]) (.em (.call 63 [.s (.k (.int .u64 1))] [none]) (.em (.call 65 [.s (.c 1 0), .s (.c 2 0)] [none]) (.em (.pr (.binOp .eql 3 (.tmp 0) (.const (.int .i64 0)) 3) 4 [.s (.c 3 0), .s (.k (.int .i64 0))]) (.cond (.c 4 0) (.em (.call 156 [.g [.c 0 0, .c 0 1]] [none]) (.ret (.v (.s (.c 5 0))))) (.em (.call 156 [.g [.c 0 0, .c 0 1]] [none]) (.em (.pr (.binOp .add 9 (.tmp 0) (.const (.string ⟨#[47]⟩)) 9) 9 [.s (.c 5 0), .s (.k (.string ⟨#[47]⟩))]) (.em (.call 157 [.s (.c 0 2)] [none]) (.em (.pr (.binOp .add 9 (.tmp 0) (.tmp 1) 9) 9 [.s (.c 6 0), .s (.c 7 0)]) (.ret (.v (.s (.c 8 0)))))))))))))) (by kernel_rfl) (by kernel_rfl) (by kernel_rfl) (mD _ _ _ _ _) h ⟨dpl h, trivial⟩ ?_
  refine wRef hU (fun w b h => dden_any _ q k w ⟨_, _, _, rfl, h⟩) (fun x1 => ?_)
  refine wRef hU (fun w b _ => rnatOf_one w) (fun x2 => ?_)
  refine wVal (fun w b ⟨h2, h1, _⟩ => rcmpB _ _ q.den 1 k 1 w h1 h2 (by omega) (by decide)) rfl ?_
  refine wPr (prEq rfl rfl) rfl ?_
  refine wIf _ rfl (fun e => ?_) (fun e => ?_)
  · have e1 : q.den = 1 := by have := (cmpI_one _).symm.trans e; simpa using this
    refine wVal (fun w b ⟨_, _, h⟩ => ritext_any _ q.num k w h.1 (by omega)) rfl ?_
    exact wRet fun w b _ => ⟨by unfold ratS; rw [if_pos e1]; rfl, b⟩
  · have e1 : ¬ q.den = 1 := by have := (cmpI_one _).symm.trans e; simpa using this
    refine wVal (fun w b ⟨_, _, h⟩ => ritext_any _ q.num k w h.1 (by omega)) rfl ?_
    refine wPr (prSAdd rfl rfl (by show _ + 1 ≤ _; omega)) rfl ?_
    refine wVal (v := .string (intS q.den)) (fun w b ⟨_, _, _, ⟨n, hr, hn⟩, hlt⟩ => by
      rw [← hd]
      rcases hn with rfl | hn
      · exact rtextB _ _ k w ⟨hr, hlt⟩ (by omega)
      · exact absurd hn.2 e1) rfl ?_
    refine wPr (prSAdd rfl rfl (by rw [ByteArray.size_append]; show _ + 1 + _ ≤ _; omega)) rfl ?_
    exact wRet fun w b _ => ⟨by unfold ratS; rw [if_neg e1]; rfl, b⟩
theorem cutL_any (s : ByteArray) (w : World) (hs : s.size ≤ 9223372036854775807) :
    Calls Tryz.prog 103 #[.string s, .string ⟨#[47]⟩] w fun e w' => e = .returned (if 0 ≤ slashAt s then .tuple #[.string (nPart s), .string (dPart s), .bool true] else .tuple #[.string s, .string ⟨#[]⟩, .bool false]) ∧ Below w.heap.size w w' := by
  have hlt := slash_lt s
  refine go (fun _ => True) [[.string s], [.string ⟨#[47]⟩]] [none, none] (tr := (.em (.call 136 [.s (.c 0 0), .s (.c 1 0)] [none]) (.em (.pr (.binOp .geq 3 (.tmp 0) (.const (.int .i64 0)) 3) 4 [.s (.c 2 0), .s (.k (.int .i64 0))]) (.cond (.c 3 0) (.em (.pr (.slice 9 (.tmp 0) none (some (.tmp 1)) none) 9 [.s (.c 0 0), .s (.c 2 0)]) (.em (.pr (.call (.mk (.builtin .len) #[.tmp 0] #[9])) 3 [.s (.c 1 0)]) (.em (.pr (.binOp .add 3 (.tmp 0) (.tmp 1) 3) 3 [.s (.c 2 0), .s (.c 5 0)]) (.em (.pr (.slice 9 (.tmp 0) (some (.tmp 1)) none none) 9 [.s (.c 0 0), .s (.c 6 0)]) (.ret (.t [.s (.c 4 0), .s (.c 7 0), .s (.k (.bool true))])))))) (.ret (.t [.s (.c 0 0), .s (.k (.string ⟨#[]⟩)), .s (.k (.bool false))])))))) (by kernel_rfl) (by kernel_rfl) (by kernel_rfl) Mono.true trivial ⟨rfl, rfl, trivial⟩ ?_
  refine wVal (v := .int .i64 (slashAt s)) (fun w b _ => (Tryz.stringslite_Index_one s 47 w).mono fun e w' ⟨h1, h2⟩ => ⟨h1, by rw [h2]; exact Below.refl _ _⟩) rfl ?_
  refine wPr (prGe rfl rfl) rfl ?_
  refine wIf _ rfl (fun e => ?_) (fun e => ?_)
  · have h0 : 0 ≤ slashAt s := by simpa using e
    refine wPr (prSlH hStrT rfl rfl (by omega) (by omega)) rfl ?_
    refine wPr (prLenS hStrT rfl) rfl ?_
    refine wPr (prAdd rfl rfl) rfl ?_
    rw [show ((ByteArray.size ⟨#[47]⟩ : Nat) : Int) = 1 from rfl, wrap_small (by omega) (by omega)]
    refine wPr (prSlL hStrT rfl rfl (by omega) (by omega)) rfl ?_
    refine wRet fun w b _ => ⟨?_, b⟩
    rw [if_pos h0]
    unfold nPart dPart
    rw [show (slashAt s).toNat + 1 = (slashAt s + 1).toNat by omega]
    rfl
  · have h0 : ¬ 0 ≤ slashAt s := by simpa using e
    exact wRet fun w b _ => ⟨by rw [if_neg h0]; rfl, b⟩
theorem cut_any (s : ByteArray) (w : World) (hs : s.size ≤ 9223372036854775807) :
    Calls Tryz.prog 67 #[.string s, .string ⟨#[47]⟩] w fun e w' => e = .returned (if 0 ≤ slashAt s then .tuple #[.string (nPart s), .string (dPart s), .bool true] else .tuple #[.string s, .string ⟨#[]⟩, .bool false]) ∧ Below w.heap.size w w' := by
  refine go (fun _ => True) [[.string s], [.string ⟨#[47]⟩]] [none, none] (tr := (.em (.call 103 [.s (.c 0 0), .s (.c 1 0)] [none, none, none]) (.ret (.t [.s (.c 2 0), .s (.c 2 1), .s (.c 2 2)])))) (by kernel_rfl) (by kernel_rfl) (by kernel_rfl) Mono.true trivial ⟨rfl, rfl, trivial⟩ ?_
  by_cases h0 : 0 ≤ slashAt s
  · refine wKnown [.string (nPart s), .string (dPart s), .bool true] (fun w b _ => cutL_any s w hs) (by rw [if_pos h0]; rfl) rfl ?_
    exact wRet fun w b _ => ⟨by rw [if_pos h0]; rfl, b⟩
  · refine wKnown [.string s, .string ⟨#[]⟩, .bool false] (fun w b _ => cutL_any s w hs) (by rw [if_neg h0]; rfl) rfl ?_
    exact wRet fun w b _ => ⟨by rw [if_neg h0]; rfl, b⟩
theorem iparseY (s : ByteArray) (w : World) (h : IsInt s) : Calls Tryz.prog 68 #[.string s] w fun e w' => ∃ v, e = .returned (.tuple #[v, .int .i64 0]) ∧ IntB 161 w' v (intVal s) 500 ∧ Below w.heap.size w w' :=
  (iparse_any s w).mono fun e w' hp => by
    rcases hp with ⟨_, h⟩ | ⟨hn, _⟩
    · exact h
    · exact absurd h hn
theorem num_int {s : ByteArray} (h : IsNum (byts s)) : IsInt s ∧ intVal s = (decL (byts s) : Nat) := by
  have hn : negT s = false := by
    cases hneg : negT s with
    | false => rfl
    | true =>
      unfold negT at hneg
      simp only [Bool.and_eq_true, decide_eq_true_eq] at hneg
      have h1 := h.1
      have := h.2.2.2 (lim (byts s) 0) (by
        have hl : 0 < (byts s).length := by omega
        have := getElem?_lim (xs := byts s) hl
        exact List.mem_of_getElem? this)
      omega
  have hd : digT s = s := by unfold digT; rw [hn]; rfl
  refine ⟨⟨by rw [hd]; exact h, by rw [hn]; intro h; cases h⟩, ?_⟩
  unfold intVal
  rw [hn, hd]; rfl
theorem qparse_ok (s : ByteArray) (w : World) (hs : s.size ≤ 9223372036854775807) (h : RatOk s) :
    Calls Tryz.prog 36 #[.string s] w fun e w' => ∃ v', e = .returned (.tuple #[v', .int .i64 0]) ∧ RatB w' v' (ratVal s) 500 ∧ Below w.heap.size w w' := by
  refine go (fun _ => True) [[.string s]] [none] (tr := (.em (.call 67 [.s (.c 0 0), .s (.k (.string ⟨#[47]⟩))] [none, none, none]) (.em (.call 68 [.s (.c 1 0)] [some 2, none]) (.em (.pr (.binOp .neq 70 (.tmp 0) (.const (.int .i64 0)) 70) 4 [.s (.c 2 2), .s (.k (.int .i64 0))]) (.cond (.c 3 0) (.ret (.t [.g [.k (.bool false), .k (.slice none 0 0), .k (.bool false), .k (.slice none 0 0)], .s (.k (.int .i64 2))])) (.em (.pr (.unOp .not 4 (.tmp 0)) 4 [.s (.c 1 2)]) (.cond (.c 4 0) (.ret (.t [.g [.c 2 0, .c 2 1, .k (.bool false), .k (.slice none 0 0)], .s (.k (.int .i64 0))])) (.em (.call 68 [.s (.c 1 1)] [some 2, none]) (.em (.pr (.binOp .neq 70 (.tmp 0) (.const (.int .i64 0)) 70) 4 [.s (.c 5 2), .s (.k (.int .i64 0))]) (.cond (.c 6 0) (.ret (.t [.g [.k (.bool false), .k (.slice none 0 0), .k (.bool false), .k (.slice none 0 0)], .s (.k (.int .i64 2))])) (.em (.call 70 [.s (.k (.int .i64 1))] [some 2]) (.em (.call 69 [.g [.c 5 0, .c 5 1], .g [.c 7 0, .c 7 1]] [none]) (.em (.pr (.binOp .leq 3 (.tmp 0) (.const (.int .i64 0)) 3) 4 [.s (.c 8 0), .s (.k (.int .i64 0))]) (.cond (.c 9 0) (.ret (.t [.g [.k (.bool false), .k (.slice none 0 0), .k (.bool false), .k (.slice none 0 0)], .s (.k (.int .i64 2))])) (.em (.call 72 [.g [.c 2 0, .c 2 1], .g [.c 5 0, .c 5 1]] [some 2]) (.em (.call 71 [.g [.c 10 0, .c 10 1]] [none]) (.em (.pr (.unOp .not 4 (.tmp 0)) 4 [.s (.c 11 0)]) (.cond (.c 12 0) (.ret (.t [.g [.k (.bool false), .k (.slice none 0 0), .k (.bool false), .k (.slice none 0 0)], .s (.k (.int .i64 2))])) (.ret (.t [.g [.c 2 0, .c 2 1, .c 5 0, .c 5 1], .s (.k (.int .i64 0))])))))))))))))))))))) (by kernel_rfl) (by kernel_rfl) (by kernel_rfl) Mono.true trivial ⟨rfl, trivial⟩ ?_
  rcases h with ⟨hneg, hi⟩ | ⟨hpos, hi, hj, e1, e2⟩
  · refine wKnown [.string s, .string ⟨#[]⟩, .bool false] (fun w b _ => cut_any s w hs) (by rw [if_neg (by omega)]; rfl) rfl ?_
    refine wIntV hU (fun w b _ => iparseY s w hi) rfl (fun x1 y1 => ?_)
    refine wPr (prNe rfl rfl) rfl ?_
    refine wFalse rfl ?_
    refine wPr (prNot rfl) rfl ?_
    refine wTrue rfl ?_
    obtain ⟨q1, q2⟩ := ratVal_int hneg
    refine wRet fun w b ⟨h1, _⟩ => ⟨_, rfl, ⟨_, _, _, _, rfl, ?_, ?_, ?_⟩, b⟩
    · rw [q1]; exact h1
    · show IntB _ _ _ (denZ _) _
      unfold denZ
      rw [if_pos q2]; exact IntB.zero _ _ _
    · rw [q2]; exact one_lt 500 (by decide)
  · obtain ⟨hj1, hj2⟩ := num_int hj
    obtain ⟨q1, q2⟩ := ratVal_quo hpos e1 e2
    refine wKnown [.string (nPart s), .string (dPart s), .bool true] (fun w b _ => cut_any s w hs) (by rw [if_pos hpos]; rfl) rfl ?_
    refine wIntV hU (fun w b _ => iparseY _ w hi) rfl (fun x1 y1 => ?_)
    refine wPr (prNe rfl rfl) rfl ?_
    refine wFalse rfl ?_
    refine wPr (prNot rfl) rfl ?_
    refine wFalse rfl ?_
    refine wIntV hU (z := (decL (byts (dPart s)) : Nat)) (fun w b _ => by rw [← hj2]; exact iparseY _ w hj1) rfl (fun x2 y2 => ?_)
    refine wPr (prNe rfl rfl) rfl ?_
    refine wFalse rfl ?_
    refine wInt hU (fun w b _ => iof_any 1 w (by decide) (by decide)) (fun x3 y3 => ?_)
    refine wVal (v := .int .i64 1) (fun w b ⟨h3, h2, _⟩ => by
      have e : cmpZ ((decL (byts (dPart s)) : Nat) : Int) 1 = 1 := by unfold cmpZ; rw [if_neg (by omega), if_pos (by omega)]
      rw [← e]
      exact icmp_any _ _ _ 1 500 2 w h2 h3 (by decide) (by decide)) rfl ?_
    refine wPr (prLe rfl rfl) rfl ?_
    refine wFalse rfl ?_
    refine wInt hU (z := 1) (fun w b ⟨_, h2, h1, _⟩ => by
      have e : ((Nat.gcd (intVal (nPart s)).natAbs ((decL (byts (dPart s)) : Nat) : Int).natAbs : Nat) : Int) = 1 := by rw [Int.natAbs_natCast, Nat.gcd_comm, e2]; rfl
      rw [← e]
      exact qgcd_any _ _ _ _ 500 500 w h1 h2 (by decide) (by decide)) (fun x4 y4 => ?_)
    refine wVal (v := .bool true) (fun w b ⟨h4, _⟩ => isOne_any _ 1 _ w h4 (by decide)) rfl ?_
    refine wPr (prNot rfl) rfl ?_
    refine wFalse rfl ?_
    refine wRet fun w b ⟨_, _, h2, h1, _⟩ => ⟨_, rfl, ⟨_, _, _, _, rfl, ?_, ?_, ?_⟩, b⟩
    · rw [q1]; exact h1
    · show IntB _ _ _ (denZ _) _
      unfold denZ
      rw [if_neg (by omega), q2]; exact h2
    · rw [q2]; have := h2.2; rwa [Int.natAbs_natCast] at this
theorem is_any (v u : Value) (q : Rat) (k j : Nat) (w : World) (h : RatB w v q k) (h' : DRatB w u q j) (hk : k ≤ 200000) (hj : j ≤ 200000) (hT : TabsP w) :
    Calls Tryz.prog 73 #[v, u] w fun e w' => e = .returned (.bool true) ∧ Below w.heap.size w w' := by
  obtain ⟨a, b, c, d, rfl, h⟩ := h
  obtain ⟨a', b', d', rfl, h'⟩ := h'
  refine go (fun w => QB w a b c d q k ∧ DQ w a' b' d' q j) [[a, b, c, d], [a', b', d']] [some 4, some 3] (tr := (.em (.call 113 [.g [.c 0 0, .c 0 1, .c 0 2, .c 0 3]] [none]) (.em (.call 114 [.g [.c 1 0, .c 1 1, .c 1 2]] [none]) (.em (.pr (.binOp .eql 9 (.tmp 0) (.tmp 1) 9) 4 [.s (.c 2 0), .s (.c 3 0)]) (.ret (.v (.s (.c 4 0)))))))) (by kernel_rfl) (by kernel_rfl) (by kernel_rfl) ((mQ _ _ _ _ _ _).and (mD _ _ _ _ _)) ⟨h, h'⟩ ⟨qpl h, dpl h', trivial⟩ ?_
  refine wVal (fun w b ⟨h, _⟩ => qtext_any _ q k w ⟨_, _, _, _, rfl, h⟩ hk (hT.below b)) rfl ?_
  refine wVal (fun w b ⟨_, h'⟩ => dtext_any _ q j w ⟨_, _, _, rfl, h'⟩ hj) rfl ?_
  refine wPr (prSEq rfl rfl) rfl ?_
  exact wRet fun w b _ => ⟨by show Ending.returned (.bool _) = _; rw [beq_self_eq_true], b⟩
end Go.Proofs.YtpmnakjllkidiaaGreatDoor

namespace Go.Proofs.YtpmnakjllkidiaaGreatDoor
open Go.RowKit Cin
section rules
variable {w0 : World} {Post : Ending → World → Prop} {F : World → Prop} {L : LC} {E : Env} {tr : Tr} {f : FuncId} {ar : List V1} {args : Array Value}
theorem wRatV {D Z : TypeId → Bool} {q : Rat} {m : Nat} {c : Value}
    (hc : ∀ w, Below w0.heap.size w0 w → F w → Calls Tryz.prog f args w fun e w' => ∃ v, e = .returned (.tuple #[v, c]) ∧ RatB w' v q m ∧ Below w.heap.size w w') (hv : c.oneCell' = true)
    {E' : Value → Value → Value → Value → Env} (hk : ∀ a b c d, Wk Tryz.prog w0 D Z Post L (fun w => QB w a b c d q m ∧ F w) tr (E' a b c d)) (ha : (ar.map (V1.den [] E)).toArray = args := by rfl) (hE : ∀ a b c' d, E ++ [[a, b, c', d, c]] = E' a b c' d := by intros; (simp only [List.cons_append, List.nil_append]) <;> exact rfl) (hD : D 161 = true := by rfl) : Wk Tryz.prog w0 D Z Post L F (.em (.call f ar [some 4, none]) tr) E := by
  intro hm u hF w e b
  subst ha
  refine (hc w b (hm u.w w e.ext hF)).mono ?_
  rintro e1 w' ⟨v, rfl, ⟨a, b, c', d, rfl, h1⟩, h4⟩
  have p := qpl h1
  simp only [List.all_cons, List.all_nil, Bool.and_true, Bool.and_eq_true] at p
  exact ⟨[a, b, c', d, c], rfl, by simp only [List.all_cons, List.all_nil, Bool.and_true, Bool.and_eq_true]; exact ⟨p.1, p.2.1, p.2.2.1, p.2.2.2, hv⟩, h4, hE _ _ _ _ ▸ hk _ _ _ _ ((mQ _ _ _ _ _ _ hD).and hm) (u.more w w') ⟨h1, hm u.w w' (e.below h4).ext hF⟩⟩
theorem wDQV {D Z : TypeId → Bool} {q : Rat} {m : Nat} {c : Value}
    (hc : ∀ w, Below w0.heap.size w0 w → F w → Calls Tryz.prog f args w fun e w' => ∃ v, e = .returned (.tuple #[v, c]) ∧ DRatB w' v q m ∧ Below w.heap.size w w') (hv : c.oneCell' = true)
    {E' : Value → Value → Value → Env} (hk : ∀ a b d, Wk Tryz.prog w0 D Z Post L (fun w => DQ w a b d q m ∧ F w) tr (E' a b d)) (ha : (ar.map (V1.den [] E)).toArray = args := by rfl) (hE : ∀ a b d, E ++ [[a, b, d, c]] = E' a b d := by intros; (simp only [List.cons_append, List.nil_append]) <;> exact rfl) (hD : D 161 = true := by rfl) : Wk Tryz.prog w0 D Z Post L F (.em (.call f ar [some 3, none]) tr) E := by
  intro hm u hF w e b
  subst ha
  refine (hc w b (hm u.w w e.ext hF)).mono ?_
  rintro e1 w' ⟨v, rfl, ⟨a, b, d, rfl, h1⟩, h4⟩
  have p := dpl h1
  simp only [List.all_cons, List.all_nil, Bool.and_true, Bool.and_eq_true] at p
  exact ⟨[a, b, d, c], rfl, by simp only [List.all_cons, List.all_nil, Bool.and_true, Bool.and_eq_true]; exact ⟨p.1, p.2.1, p.2.2, hv⟩, h4, hE _ _ _ ▸ hk _ _ _ ((mD _ _ _ _ _ hD).and hm) (u.more w w') ⟨h1, hm u.w w' (e.below h4).ext hF⟩⟩
end rules
theorem dparseY (s : ByteArray) (w : World) (hs : s.size ≤ 9223372036854775807) (h : RatOk s) : Calls Tryz.prog 35 #[.string s] w fun e w' => ∃ v, e = .returned (.tuple #[v, .bool true]) ∧ DRatB w' v (ratVal s) 500 ∧ Below w.heap.size w w' :=
  (dparse_any s w hs).mono fun e w' hp => by
    rcases hp with ⟨_, h⟩ | ⟨hn, _⟩
    · exact h
    · exact absurd h hn
def NumQ (a : ByteArray) : Prop := RatOk a ∧ a.size ≤ 100
theorem int_lt {s : ByteArray} (h : IsInt s) (hs : s.size ≤ 100) : (intVal s).natAbs < pw 21 := by
  unfold intVal
  rw [sg_natAbs]
  refine decL_lt_pw h.1.2.2.2 ?_
  unfold digT
  split
  · rw [byts_tl, List.length_drop, byts_length]; omega
  · rw [byts_length]; omega
theorem ext_size (s : ByteArray) (a b : Nat) : (s.extract a b).size ≤ s.size := by
  rw [← byts_length, byts_extract, List.length_take, List.length_drop, byts_length]; omega
theorem numQ_lt {s : ByteArray} (h : NumQ s) : (ratVal s).num.natAbs < pw 21 ∧ (ratVal s).den < pw 21 := by
  obtain ⟨h, hs⟩ := h
  rcases h with ⟨hneg, hi⟩ | ⟨hpos, hi, hj, e1, e2⟩
  · obtain ⟨q1, q2⟩ := ratVal_int hneg
    rw [q1, q2]
    exact ⟨int_lt hi hs, one_lt 21 (by decide)⟩
  · obtain ⟨q1, q2⟩ := ratVal_quo hpos e1 e2
    rw [q1, q2]
    refine ⟨int_lt hi (Nat.le_trans (ext_size _ _ _) hs), decL_lt_pw hj.2.2.2 ?_⟩
    rw [byts_length]
    have := ext_size s ((slashAt s).toNat + 1) s.size
    exact Nat.le_trans this (by omega)
theorem QB.cut {w : World} {a b c d : Value} {q : Rat} {k j : Nat} (h : QB w a b c d q k) (hn : q.num.natAbs < pw j) (hd : q.den < pw j) : QB w a b c d q j :=
  ⟨⟨h.1.1, hn⟩, ⟨h.2.1.1, by unfold denZ; split <;> (first | exact pw_pos j | (rw [Int.natAbs_natCast]; exact hd))⟩, hd⟩
theorem DQ.cut {w : World} {a b d : Value} {q : Rat} {k j : Nat} (h : DQ w a b d q k) (hn : q.num.natAbs < pw j) (hd : q.den < pw j) : DQ w a b d q j := ⟨⟨h.1.1, hn⟩, h.2.1, hd⟩
theorem numY (s : ByteArray) (w : World) (hs : s.size ≤ 9223372036854775807) (h : NumQ s) :
    Calls Tryz.prog 14 #[.string s] w fun e w' => ∃ v u, e = .returned (.tuple #[v, u, .bool true]) ∧ RatB w' v (ratVal s) 21 ∧ DRatB w' u (ratVal s) 21 ∧ Below w.heap.size w w' := by
  obtain ⟨hn, hd⟩ := numQ_lt h
  refine go (fun _ => True) [[.string s]] [none] (tr := (.em (.call 35 [.s (.c 0 0)] [some 3, none]) (.em (.pr (.unOp .not 4 (.tmp 0)) 4 [.s (.c 1 3)]) (.cond (.c 2 0) (.ret (.t [.g [.k (.bool false), .k (.slice none 0 0), .k (.bool false), .k (.slice none 0 0)], .g [.k (.bool false), .k (.slice none 0 0), .k (.slice none 0 0)], .s (.k (.bool false))])) (.em (.pr (.call (.mk (.builtin .len) #[.tmp 0] #[9])) 3 [.s (.c 0 0)]) (.em (.pr (.binOp .gtr 3 (.tmp 0) (.const (.int .i64 100)) 3) 4 [.s (.c 3 0), .s (.k (.int .i64 100))]) (.cond (.c 4 0) (.ret (.t [.g [.k (.bool false), .k (.slice none 0 0), .k (.bool false), .k (.slice none 0 0)], .g [.k (.bool false), .k (.slice none 0 0), .k (.slice none 0 0)], .s (.k (.bool false))])) (.em (.call 36 [.s (.c 0 0)] [some 4, none]) (.ret (.t [.g [.c 5 0, .c 5 1, .c 5 2, .c 5 3], .g [.c 1 0, .c 1 1, .c 1 2], .s (.k (.bool true))])))))))))) (by kernel_rfl) (by kernel_rfl) (by kernel_rfl) Mono.true trivial ⟨rfl, trivial⟩ ?_
  refine wDQV (fun w b _ => dparseY s w hs h.1) rfl (fun a b d => ?_)
  refine wPr (prNot rfl) rfl ?_
  refine wFalse rfl ?_
  refine wPr (prLenS hStrT rfl) rfl ?_
  refine wPr (prGt rfl rfl) rfl ?_
  refine wFalse (by have := h.2; show Value.bool (decide _) = _; rw [decide_eq_false (by omega)]) ?_
  refine wRatV (fun w b _ => qparse_ok s w hs h.1) rfl (fun a b c d => ?_)
  exact wRet fun w b ⟨h1, h2, _⟩ => ⟨_, _, rfl, ⟨_, _, _, _, rfl, h1.cut hn hd⟩, ⟨_, _, _, rfl, h2.cut hn hd⟩, b⟩
theorem numN (s : ByteArray) (w : World) (hs : s.size ≤ 9223372036854775807) (h : ¬ NumQ s) :
    Calls Tryz.prog 14 #[.string s] w fun e w' => e = .returned (.tuple #[.agg #[.bool false, .slice none 0 0, .bool false, .slice none 0 0], .agg #[.bool false, .slice none 0 0, .slice none 0 0], .bool false]) ∧ Below w.heap.size w w' := by
  refine go (fun _ => True) [[.string s]] [none] (tr := (.em (.call 35 [.s (.c 0 0)] [some 3, none]) (.em (.pr (.unOp .not 4 (.tmp 0)) 4 [.s (.c 1 3)]) (.cond (.c 2 0) (.ret (.t [.g [.k (.bool false), .k (.slice none 0 0), .k (.bool false), .k (.slice none 0 0)], .g [.k (.bool false), .k (.slice none 0 0), .k (.slice none 0 0)], .s (.k (.bool false))])) (.em (.pr (.call (.mk (.builtin .len) #[.tmp 0] #[9])) 3 [.s (.c 0 0)]) (.em (.pr (.binOp .gtr 3 (.tmp 0) (.const (.int .i64 100)) 3) 4 [.s (.c 3 0), .s (.k (.int .i64 100))]) (.cond (.c 4 0) (.ret (.t [.g [.k (.bool false), .k (.slice none 0 0), .k (.bool false), .k (.slice none 0 0)], .g [.k (.bool false), .k (.slice none 0 0), .k (.slice none 0 0)], .s (.k (.bool false))])) (.em (.call 36 [.s (.c 0 0)] [some 4, none]) (.ret (.t [.g [.c 5 0, .c 5 1, .c 5 2, .c 5 3], .g [.c 1 0, .c 1 1, .c 1 2], .s (.k (.bool true))])))))))))) (by kernel_rfl) (by kernel_rfl) (by kernel_rfl) Mono.true trivial ⟨rfl, trivial⟩ ?_
  by_cases hr : RatOk s
  · refine wDQV (fun w b _ => dparseY s w hs hr) rfl (fun a b d => ?_)
    refine wPr (prNot rfl) rfl ?_
    refine wFalse rfl ?_
    refine wPr (prLenS hStrT rfl) rfl ?_
    refine wPr (prGt rfl rfl) rfl ?_
    refine wTrue (by have : ¬ s.size ≤ 100 := fun e => h ⟨hr, e⟩; show Value.bool (decide _) = _; rw [decide_eq_true (by omega)]) ?_
    exact wRet fun w b _ => ⟨rfl, b⟩
  · refine wCall (fun cs _ => ∃ a b d, cs = [a, b, d, .bool false]) (fun _ _ _ _ h => h) (fun w b _ => (dparse_any s w hs).mono ?_) (fun cs => ?_)
    · rintro e w' (⟨h, _⟩ | ⟨_, a, b, d, rfl, hp, hb⟩)
      · exact absurd h hr
      · simp only [List.all_cons, List.all_nil, Bool.and_true, Bool.and_eq_true] at hp
        exact ⟨[a, b, d, .bool false], rfl, by simp only [List.all_cons, List.all_nil, Bool.and_true, Bool.and_eq_true]; exact ⟨hp.1, hp.2.1, hp.2.2, rfl⟩, ⟨a, b, d, rfl⟩, hb⟩
    · intro hm u hF
      obtain ⟨⟨a, b, d, rfl⟩, _⟩ := id hF
      refine wMono Mono.true (fun _ _ => trivial) ?_ hm u hF
      refine wPr (prNot rfl) rfl ?_
      refine wTrue rfl ?_
      exact wRet fun w b _ => ⟨rfl, b⟩
theorem isNum_one {c : Nat} (h : 48 ≤ c ∧ c ≤ 57) : IsNum [c] := ⟨by simp, by simp, .inl rfl, fun x hx => by rw [List.mem_singleton.1 hx]; exact h⟩
end Go.Proofs.YtpmnakjllkidiaaGreatDoor

namespace Go.Proofs.YtpmnakjllkidiaaGreatDoor
open Go.RowKit Cin
theorem dcmp_any (v u : Value) (x y : Rat) (k j : Nat) (w : World) (h : DRatB w v x k) (h' : DRatB w u y j) (hk : k ≤ 3000) (hj : j ≤ 3000) :
    Calls Tryz.prog 30 #[v, u] w fun e w' => e = .returned (.int .i64 (cmpQ x y)) ∧ Below w.heap.size w w' := by
  obtain ⟨a, b, d, rfl, h⟩ := h
  obtain ⟨a', b', d', rfl, h'⟩ := h'
  refine go (fun w => DQ w a b d x k ∧ DQ w a' b' d' y j) [[a, b, d], [a', b', d']] [some 3, some 3] (tr := (.em (.call 61 [.g [.c 1 0, .c 1 1, .c 1 2]] [none]) (.em (.call 60 [.s (.c 2 0)] [some 2]) (.em (.call 59 [.g [.c 0 0, .c 0 1], .g [.c 3 0, .c 3 1]] [some 2]) (.em (.call 61 [.g [.c 0 0, .c 0 1, .c 0 2]] [none]) (.em (.call 60 [.s (.c 5 0)] [some 2]) (.em (.call 59 [.g [.c 1 0, .c 1 1], .g [.c 6 0, .c 6 1]] [some 2]) (.em (.call 58 [.g [.c 4 0, .c 4 1], .g [.c 7 0, .c 7 1]] [none]) (.ret (.v (.s (.c 8 0)))))))))))) (by kernel_rfl) (by kernel_rfl) (by kernel_rfl) ((mD _ _ _ _ _).and (mD _ _ _ _ _)) ⟨h, h'⟩ ⟨dpl h, dpl h', trivial⟩ ?_
  refine wRef hU (fun w b ⟨_, h'⟩ => dden_any _ y j w ⟨_, _, _, rfl, h'⟩) (fun x1 => ?_)
  refine wInt hU (fun w b ⟨h1, _⟩ => pos_any _ _ j w h1) (fun x2 y2 => ?_)
  refine wInt hU (fun w b ⟨h2, _, h, _⟩ => rimul_any _ _ _ _ k j w h.1 h2 (by omega) (by omega)) (fun x3 y3 => ?_)
  refine wRef hU (fun w b ⟨_, _, _, h, _⟩ => dden_any _ x k w ⟨_, _, _, rfl, h⟩) (fun x4 => ?_)
  refine wInt hU (fun w b ⟨h4, _⟩ => pos_any _ _ k w h4) (fun x5 y5 => ?_)
  refine wInt hU (fun w b ⟨h5, _, _, _, _, _, h'⟩ => rimul_any _ _ _ _ j k w h'.1 h5 (by omega) (by omega)) (fun x6 y6 => ?_)
  refine wVal (v := .int .i64 (cmpQ x y)) (fun w b ⟨h6, _, _, h3, _⟩ => by
    rw [← cmpQ_of]
    exact ricmp_any _ _ _ _ (k + j) (j + k) w h3 h6 (by omega) (by omega)) rfl ?_
  exact wRet fun w b _ => ⟨rfl, b⟩
end Go.Proofs.YtpmnakjllkidiaaGreatDoor

namespace Go.Proofs.YtpmnakjllkidiaaGreatDoor
open Go.RowKit Cin
section prims
variable {P : Program} {T T' ty : TypeId} {vs : List Value} {p q : Operand} {x y : Int}
theorem prMin (hp : pe vs p = .int .i64 x) (hq : pe vs q = .int .i64 y) : PrimOk P (.call { callee := .builtin .min, args := #[p, q], argTypes := #[T, T'] }) ty vs (.int .i64 (min x y)) := fun w => by
  have e : min x y = if y < x then y else x := by split <;> omega
  rw [e]
  simp [execOp, resolve, hp, hq, invoke, builtin, Builtin.min_, Builtin.min2]
end prims
end Go.Proofs.YtpmnakjllkidiaaGreatDoor

namespace Go.Proofs.YtpmnakjllkidiaaGreatDoor
open Go.RowKit Cin
theorem wrap64 {z : Int} (h0 : -9223372036854775808 ≤ z) (h1 : z ≤ 9223372036854775807) : IntKind.i64.wrap z = z := by
  unfold IntKind.wrap
  simp [IntKind.signed, IntKind.bits]
  omega
section prims
variable {P : Program} {t t2 ty : TypeId} {vs : List Value} {p q : Operand} {x y : Int}
theorem prAddI (hp : pe vs p = .int .i64 x) (hq : pe vs q = .int .i64 y) (h0 : -9223372036854775808 ≤ x + y) (h1 : x + y ≤ 9223372036854775807) : PrimOk P (.binOp .add t p q t2) ty vs (.int .i64 (x + y)) := by
  have h := prAdd (P := P) (t := t) (t2 := t2) (ty := ty) hp hq
  rwa [wrap64 h0 h1] at h
theorem prSubI (hp : pe vs p = .int .i64 x) (hq : pe vs q = .int .i64 y) (h0 : -9223372036854775808 ≤ x - y) (h1 : x - y ≤ 9223372036854775807) : PrimOk P (.binOp .sub t p q t2) ty vs (.int .i64 (x - y)) := fun w => by
  simp only [execOp, hp, hq]
  simp [eqGuard, binOp, Op.intArith, wrap64 h0 h1]
theorem prNegI (hp : pe vs p = .int .i64 x) (h0 : -9223372036854775807 ≤ x) (h1 : x ≤ 9223372036854775807) : PrimOk P (.unOp .neg t p) ty vs (.int .i64 (-x)) := fun w => by
  simp only [execOp, hp]
  have e : (0 : Int) - x = -x := by omega
  simp [Op.unary, Op.intArith, wrap64 (z := -x) (by omega) (by omega)]
theorem prMinE {T T' : TypeId} {z : Int} (hp : pe vs p = .int .i64 x) (hq : pe vs q = .int .i64 y) (h : min x y = z) : PrimOk P (.call { callee := .builtin .min, args := #[p, q], argTypes := #[T, T'] }) ty vs (.int .i64 z) := by subst h; exact prMin hp hq
end prims
abbrev NB (w : World) (x : Value) (n k : Nat) : Prop := NatB 161 w (.agg #[x]) n k
theorem nbc {w : World} {v : Value} {n k : Nat} (h : NatB 161 w v n k) : ∃ x, v = .agg #[x] ∧ NB w x n k := by
  obtain ⟨ad, len, cap, rfl⟩ := h.shape2
  exact ⟨_, rfl, h⟩
theorem npl {w : World} {x : Value} {n k : Nat} (h : NB w x n k) : [x].all Value.oneCell' = true := by
  obtain ⟨ad, len, cap, e⟩ := h.shape2
  cases e; rfl
theorem mN (x : Value) (n k : Nat) : Mono DD fun w => NB w x n k := monoNat hU _ _ _
theorem cut_eq {n : Int} (h0 : 0 ≤ n) (h1 : n ≤ 1048576) : cut n = n.toNat := by unfold cut; rw [if_neg (by omega), if_neg (by omega)]
theorem shrI (v : Value) (x : Nat) (n : Int) (k : Nat) (w : World) (h : NatB 161 w v x k) (hk : k ≤ 1000000) (h0 : 0 ≤ n) (h1 : n ≤ 1048576) :
    Calls Tryz.prog 214 #[v, .int .i64 n] w fun e w' => ∃ v', e = .returned v' ∧ NatB 161 w' v' (x / 2 ^ n.toNat) k ∧ Below w.heap.size w w' :=
  (shr_any v x n k w h.1 h.2 (by omega)).mono fun _ _ ⟨v', e, hn, hb⟩ => ⟨v', e, ⟨by rw [← cut_eq h0 h1]; exact hn, Nat.lt_of_le_of_lt (Nat.div_le_self _ _) h.2⟩, hb⟩
theorem bitsI (v : Value) (x k : Nat) (w : World) (h : NatB 161 w v x k) (hk : k ≤ 1000000) :
    Calls Tryz.prog 142 #[v] w fun e w' => e = .returned (.int .i64 (blOf x : Nat)) ∧ Below w.heap.size w w' :=
  (bits_any v x k w h.1 h.2 (by omega)).mono fun _ _ ⟨j, e, hn, hb⟩ => ⟨by rw [e, hn.unique (blOf_ok x)], hb⟩
theorem zerosI (v : Value) (x k : Nat) (w : World) (hT : Tabs w) (h : NatB 161 w v x k) (hk : k ≤ 1000000) :
    Calls Tryz.prog 177 #[v] w fun e w' => e = .returned (.int .i64 (tzOf x : Nat)) ∧ Below w.heap.size w w' :=
  (zeros_any v x k w hT h.1 h.2 (by omega)).mono fun _ _ ⟨j, e, hn, hb⟩ => ⟨by rw [e, hn.unique (tzOf_ok x)], hb⟩
theorem tz_pw {x k : Nat} (h : x < pw k) : tzOf x ≤ 32 * k := by rw [pw_two] at h; exact tzOf_le h
theorem bl_pw {x k : Nat} (h : x < pw k) : blOf x ≤ 32 * k := by rw [pw_two] at h; exact blOf_le h
def Zmu : List Value → Nat
  | .int _ i :: _ => i.toNat
  | _ => 0
def Zinv (n : Int) (x y k j : Nat) (cs : List Value) (w : World) : Prop := ∃ (m : Int) (a : Value), cs = [.int .i64 m, a] ∧ (m = n ∨ (m = n - 1048576 ∧ 0 < n)) ∧ NB w a (if m = n then x else y) (if m = n then k else j)
theorem Zinv.mono (n : Int) (x y k j : Nat) (cs : List Value) : Mono DD (Zinv n x y k j cs) := fun _ _ e ⟨m, a, h1, h2, h3⟩ => ⟨m, a, h1, h2, h3.ext e hU⟩
theorem Zinv.at {n m : Int} {x y k j : Nat} {a : Value} {w : World} (h : Zinv n x y k j [.int .i64 m, a] w) : NB w a (if m = n then x else y) (if m = n then k else j) := by
  obtain ⟨m', a', e, _, h⟩ := h
  injection e with e1 e2
  injection e2 with e2 _
  injection e1 with _ e1
  subst e1 e2
  exact h
theorem sdn_any (v : Value) (x : Nat) (n : Int) (k : Nat) (w : World) (h : NatB 161 w v x k) (hk : k ≤ 1000000) (h0 : -9000000000000000000 ≤ n) (h1 : n ≤ 1048576) :
    Calls Tryz.prog 205 #[v, .int .i64 n] w fun e w' => ∃ v', e = .returned v' ∧ NatB 161 w' v' (x / 2 ^ n.toNat) k ∧ Below w.heap.size w w' := by
  obtain ⟨a, rfl, h⟩ := nbc h
  refine go (fun w => NB w a x k) [[a], [.int .i64 n]] [some 1, none] (tr := (.loop 0 [.c 1 0, .c 0 0] (.em (.pr (.binOp .gtr 3 (.tmp 0) (.const (.int .i64 0)) 3) 4 [.s (.c 2 0), .s (.k (.int .i64 0))]) (.cond (.c 3 0) (.em (.pr (.call (.mk (.builtin .min) #[.tmp 0, .const (.int .i64 1048576)] #[3, 3])) 3 [.s (.c 2 0), .s (.k (.int .i64 1048576))]) (.em (.call 214 [.g [.c 2 1], .s (.c 4 0)] [some 1]) (.em (.pr (.binOp .sub 3 (.tmp 0) (.const (.int .i64 1048576)) 3) 3 [.s (.c 2 0), .s (.k (.int .i64 1048576))]) (.back 0 [.c 6 0, .c 5 0])))) (.ret (.v (.g [.c 2 1]))))))) (by kernel_rfl) (by kernel_rfl) (by kernel_rfl) (mN _ _ _) h ⟨npl h, rfl, trivial⟩ ?_
  refine wLoop (Zinv n x (x / 2 ^ n.toNat) k k) (Zinv.mono _ _ _ _ _) Zmu (fun w h => ⟨n, a, rfl, .inl rfl, by rw [if_pos rfl, if_pos rfl]; exact h⟩) (fun cs _ => ?_)
  intro hm u hF
  obtain ⟨⟨m, a1, rfl, hc, _⟩, _⟩ := id hF
  refine wMono (G := fun w => NB w a1 (if m = n then x else x / 2 ^ n.toNat) (if m = n then k else k)) (mN _ _ _) (fun w h => h.1.at) ?_ hm u hF
  clear hm hF
  refine wPr (prGt rfl rfl) rfl ?_
  rcases hc with rfl | ⟨rfl, hn⟩
  · refine wIf _ rfl (fun e => ?_) (fun e => ?_)
    · have hn : 0 < m := by simpa using e
      refine wPr (prMinE (z := m) rfl rfl (by show min m (1048576 : Int) = m; omega)) rfl ?_
      refine wNat hU (n := x / 2 ^ m.toNat) (m := k) (fun w b h => by
        rw [if_pos rfl, if_pos rfl] at h
        exact shrI _ x m k w h hk (by omega) h1) (fun x1 => ?_)
      refine wPr (prSubI rfl rfl (by show _ ≤ m - (1048576 : Int); omega) (by show m - (1048576 : Int) ≤ _; omega)) rfl ?_
      refine wBack fun w ⟨h1', _⟩ => ⟨⟨m - 1048576, x1, rfl, .inr ⟨rfl, hn⟩, by rw [if_neg (by omega), if_neg (by omega)]; exact h1'⟩, ?_⟩
      show (m - 1048576).toNat < m.toNat
      omega
    · have hn : ¬ 0 < m := by simpa using e
      refine wRet fun w b h => ⟨_, rfl, ?_, b⟩
      rw [if_pos rfl, if_pos rfl] at h
      rw [show m.toNat = 0 by omega, Nat.pow_zero, Nat.div_one]
      exact h
  · refine wFalse (by show Value.bool (decide (0 < n - 1048576)) = _; rw [decide_eq_false (by omega)]) ?_
    refine wRet fun w b h => ⟨_, rfl, ?_, b⟩
    rw [if_neg (by omega), if_neg (by omega)] at h
    exact h
def DyQ (w : World) (x y : Value) (q : Rat) (k K : Nat) : Prop := IB w x y (oddOf q) k ∧ Dy q ∧ -(K : Int) ≤ expOf q ∧ expOf q ≤ K
def DyB (w : World) (v : Value) (q : Rat) (k K : Nat) : Prop := ∃ x y, v = .agg #[x, y, .int .i64 (expOf q)] ∧ DyQ w x y q k K
theorem mY (x y : Value) (q : Rat) (k K : Nat) : Mono DD fun w => DyQ w x y q k K := fun _ _ e ⟨h1, h2⟩ => ⟨h1.ext e hU, h2⟩
theorem ypl {w : World} {x y : Value} {q : Rat} {k K : Nat} (h : DyQ w x y q k K) (c : Value) (hc : c.oneCell' = true) : [x, y, c].all Value.oneCell' = true := by
  have p := ipl h.1
  simp only [List.all_cons, List.all_nil, Bool.and_true, Bool.and_eq_true] at p ⊢
  exact ⟨p.1, p.2, hc⟩
theorem wDy {w0 : World} {Post : Ending → World → Prop} {F : World → Prop} {L : LC} {E : Env} {tr : Tr} {f : FuncId} {ar : List V1} {args : Array Value} {q : Rat} {k K : Nat}
    (hc : ∀ w, Below w0.heap.size w0 w → F w → Calls Tryz.prog f args w fun e w' => ∃ v, e = .returned v ∧ DyB w' v q k K ∧ Below w.heap.size w w')
    {E' : Value → Value → Env} (hk : ∀ a b, Wk Tryz.prog w0 DD DD Post L (fun w => DyQ w a b q k K ∧ F w) tr (E' a b)) (ha : (ar.map (V1.den [] E)).toArray = args := by rfl) (hE : ∀ a b, E ++ [[a, b, .int .i64 (expOf q)]] = E' a b := by intros; (simp only [List.cons_append, List.nil_append]) <;> exact rfl) : Wk Tryz.prog w0 DD DD Post L F (.em (.call f ar [some 3]) tr) E := by
  intro hm u hF w e b
  subst ha
  refine (hc w b (hm u.w w e.ext hF)).mono ?_
  rintro e1 w' ⟨v, rfl, ⟨a, b, rfl, hv⟩, h4⟩
  exact ⟨[a, b, .int .i64 (expOf q)], rfl, ypl hv _ rfl, h4, hE _ _ ▸ hk _ _ ((mY _ _ _ _ _).and hm) (u.more w w') ⟨hv, hm u.w w' (e.below h4).ext hF⟩⟩
theorem zeroDy (w : World) (k K : Nat) : DyB w (.agg #[.bool false, .slice none 0 0, .int .i64 0]) 0 k K := by
  refine ⟨.bool false, .slice none 0 0, by rw [exp_zero], ?_, dy_zero.dy, by rw [exp_zero]; omega, by rw [exp_zero]; omega⟩
  rw [odd_zero]; exact IntB.zero _ _ _
theorem strip_any (v : Value) (m e : Int) (k K : Nat) (w : World) (hT : Tabs w) (h : IntB 161 w v m k) (hk : k ≤ 32768) (h0 : -(K : Int) ≤ e) (h1 : e ≤ K) (hK : K ≤ 1000000000000) :
    Calls Tryz.prog 178 #[v, .int .i64 e] w fun e' w' => ∃ v', e' = .returned v' ∧ DyB w' v' ((m : Rat) * tp e) k (K + 32 * k) ∧ Below w.heap.size w w' := by
  obtain ⟨x, y, rfl, h⟩ := ibc h
  have htz := tz_pw h.2
  refine go (fun w => IB w x y m k) [[x, y], [.int .i64 e]] [some 2, none] (tr := (.em (.call 132 [.g [.c 0 0, .c 0 1]] [none]) (.em (.pr (.binOp .eql 3 (.tmp 0) (.const (.int .i64 0)) 3) 4 [.s (.c 2 0), .s (.k (.int .i64 0))]) (.cond (.c 3 0) (.ret (.v (.g [.k (.bool false), .k (.slice none 0 0), .k (.int .i64 0)]))) (.em (.call 112 [.g [.c 0 0, .c 0 1]] [some 1]) (.em (.call 177 [.g [.c 4 0]] [none]) (.em (.pr (.binOp .add 3 (.tmp 0) (.tmp 1) 3) 3 [.s (.c 1 0), .s (.c 5 0)]) (.em (.call 132 [.g [.c 0 0, .c 0 1]] [none]) (.em (.pr (.binOp .lss 3 (.tmp 0) (.const (.int .i64 0)) 3) 4 [.s (.c 7 0), .s (.k (.int .i64 0))]) (.em (.call 205 [.g [.c 4 0], .s (.c 5 0)] [some 1]) (.em (.call 110 [.s (.c 8 0), .g [.c 9 0]] [some 2]) (.ret (.v (.g [.c 10 0, .c 10 1, .c 6 0])))))))))))))) (by kernel_rfl) (by kernel_rfl) (by kernel_rfl) (mI _ _ _ _) h ⟨ipl h, rfl, trivial⟩ ?_
  refine wVal (fun w b h => sign_any _ m k w h (by omega)) rfl ?_
  refine wPr (prEq rfl rfl) rfl ?_
  refine wIf _ rfl (fun e1 => ?_) (fun e1 => ?_)
  · have e2 : m = 0 := by have := (sgn_zero m).symm.trans e1; simpa using this
    refine wRet fun w b _ => ⟨_, rfl, ?_, b⟩
    rw [(dv_sign m e).2.1 e2]
    exact zeroDy w _ _
  · have e2 : m ≠ 0 := by have := (sgn_zero m).symm.trans e1; simpa using this
    have hd := isDy_of (e := e) e2 (tzOf_ok m.natAbs) rfl
    refine wNat hU (fun w b h => abs_any _ m k w h (by omega)) (fun x1 => ?_)
    refine wVal (fun w b ⟨h1, _⟩ => zerosI _ m.natAbs k w (hT.below b) h1 (by omega)) rfl ?_
    refine wPr (prAddI rfl rfl (by omega) (by omega)) rfl ?_
    refine wVal (fun w b ⟨_, h⟩ => sign_any _ m k w h (by omega)) rfl ?_
    refine wPr (prLt rfl rfl) rfl ?_
    refine wNat hU (fun w b ⟨h1, _⟩ => sdn_any _ m.natAbs (tzOf m.natAbs : Nat) k w h1 (by omega) (by omega) (by omega)) (fun x2 => ?_)
    refine wInt hU (fun w b ⟨h2, _⟩ => from_any _ _ _ k w h2 (by omega)) (fun x3 y3 => ?_)
    refine wRet fun w b ⟨h3, _⟩ => ⟨_, rfl, ⟨x3, y3, by rw [hd.exp]; rfl, ?_, hd.dy, by rw [hd.exp]; omega, by rw [hd.exp]; omega⟩, b⟩
    rw [sgn_neg] at h3
    rw [hd.odd]
    by_cases hm : m < 0
    · rw [if_pos hm]; rw [decide_eq_true hm] at h3; exact h3
    · rw [if_neg hm]; rw [decide_eq_false hm] at h3; exact h3
theorem DyQ.neg {w : World} {x y x' y' : Value} {q : Rat} {k K : Nat} (h : DyQ w x y q k K) (h' : IB w x' y' (-oddOf q) k) : DyQ w x' y' (-q) k K := ⟨by rw [h.2.1.oddNeg]; exact h', h.2.1.neg, by rw [h.2.1.expNeg]; exact h.2.2.1, by rw [h.2.1.expNeg]; exact h.2.2.2⟩
end Go.Proofs.YtpmnakjllkidiaaGreatDoor

namespace Go.Proofs.YtpmnakjllkidiaaGreatDoor
open Go.RowKit Cin
theorem den_lt {w : World} {a b c d : Value} {q : Rat} {k : Nat} (h : QB w a b c d q k) : q.den < pw k := h.2.2
theorem yof_yes (v : Value) (q : Rat) (k : Nat) (w : World) (hT : Tabs w) (h : RatB w v q k) (hk : k ≤ 8000) (hq : DyOk q) :
    Calls Tryz.prog 130 #[v] w fun r w' => ∃ v', r = .returned (.tuple #[v', .bool true]) ∧ DyB w' v' q k (64 * k) ∧ Below w.heap.size w w' := by
  obtain ⟨a, b, c, d, rfl, h⟩ := h
  have hd := den_lt h
  have htz := tz_pw hd
  have hbl := bl_pw hd
  refine go (fun w => QB w a b c d q k) [[a, b, c, d]] [some 4] (tr := (.em (.call 176 [.g [.c 0 0, .c 0 1, .c 0 2, .c 0 3]] [some 2]) (.em (.call 112 [.g [.c 1 0, .c 1 1]] [some 1]) (.em (.call 177 [.g [.c 2 0]] [none]) (.em (.pr (.binOp .add 3 (.tmp 0) (.const (.int .i64 1)) 3) 3 [.s (.c 3 0), .s (.k (.int .i64 1))]) (.em (.call 142 [.g [.c 2 0]] [none]) (.em (.pr (.binOp .neq 3 (.tmp 0) (.tmp 1) 3) 4 [.s (.c 4 0), .s (.c 5 0)]) (.cond (.c 6 0) (.ret (.t [.g [.k (.bool false), .k (.slice none 0 0), .k (.int .i64 0)], .s (.k (.bool false))])) (.em (.call 179 [.g [.c 0 0, .c 0 1, .c 0 2, .c 0 3]] [some 2]) (.em (.call 177 [.g [.c 2 0]] [none]) (.em (.pr (.unOp .neg 3 (.tmp 0)) 3 [.s (.c 8 0)]) (.em (.call 178 [.g [.c 7 0, .c 7 1], .s (.c 9 0)] [some 3]) (.ret (.t [.g [.c 10 0, .c 10 1, .c 10 2], .s (.k (.bool true))])))))))))))))) (by kernel_rfl) (by kernel_rfl) (by kernel_rfl) (mQ _ _ _ _ _ _) h ⟨qpl h, trivial⟩ ?_
  refine wInt hU (fun w b h => qden_any _ q k w ⟨_, _, _, _, rfl, h⟩ (by omega)) (fun x1 y1 => ?_)
  refine wNat hU (n := q.den) (m := k) (fun w b ⟨h1, _⟩ => by have := abs_any _ _ k w h1 (by omega); rwa [Int.natAbs_natCast] at this) (fun x2 => ?_)
  refine wVal (fun w b ⟨h2, _⟩ => zerosI _ q.den k w (hT.below b) h2 (by omega)) rfl ?_
  refine wPr (prAddI rfl rfl (by show _ ≤ _ + (1 : Int); omega) (by show _ + (1 : Int) ≤ _; omega)) rfl ?_
  refine wVal (fun w b ⟨h2, _⟩ => bitsI _ q.den k w h2 (by omega)) rfl ?_
  refine wPr (prNe rfl rfl) rfl ?_
  refine wFalse (by have := hq; unfold DyOk at this; show Value.bool (((tzOf q.den : Nat) : Int) + 1 != ((blOf q.den : Nat) : Int)) = _; rw [← this]; simp) ?_
  refine wInt hU (fun w b ⟨_, _, h⟩ => qnum_any _ q k w ⟨_, _, _, _, rfl, h⟩ (by omega)) (fun x3 y3 => ?_)
  refine wVal (fun w b ⟨_, h2, _⟩ => zerosI _ q.den k w (hT.below b) h2 (by omega)) rfl ?_
  refine wPr (prNegI rfl (by omega) (by omega)) rfl ?_
  refine wDy (q := q) (fun w b ⟨h3, _⟩ => by
    have := strip_any _ q.num (-(tzOf q.den : Int)) k (32 * k) w (hT.below b) h3 (by omega) (by omega) (by omega) (by omega)
    rw [hq.val, show 32 * k + 32 * k = 64 * k by omega] at this
    exact this) (fun x4 y4 => ?_)
  exact wRet fun w b ⟨h, _⟩ => ⟨_, rfl, ⟨_, _, rfl, h⟩, b⟩
theorem yof_no (v : Value) (q : Rat) (k : Nat) (w : World) (hT : Tabs w) (h : RatB w v q k) (hk : k ≤ 8000) (hq : ¬ DyOk q) :
    Calls Tryz.prog 130 #[v] w fun r w' => r = .returned (.tuple #[.agg #[.bool false, .slice none 0 0, .int .i64 0], .bool false]) ∧ Below w.heap.size w w' := by
  obtain ⟨a, b, c, d, rfl, h⟩ := h
  have hd := den_lt h
  have htz := tz_pw hd
  have hbl := bl_pw hd
  refine go (fun w => QB w a b c d q k) [[a, b, c, d]] [some 4] (tr := (.em (.call 176 [.g [.c 0 0, .c 0 1, .c 0 2, .c 0 3]] [some 2]) (.em (.call 112 [.g [.c 1 0, .c 1 1]] [some 1]) (.em (.call 177 [.g [.c 2 0]] [none]) (.em (.pr (.binOp .add 3 (.tmp 0) (.const (.int .i64 1)) 3) 3 [.s (.c 3 0), .s (.k (.int .i64 1))]) (.em (.call 142 [.g [.c 2 0]] [none]) (.em (.pr (.binOp .neq 3 (.tmp 0) (.tmp 1) 3) 4 [.s (.c 4 0), .s (.c 5 0)]) (.cond (.c 6 0) (.ret (.t [.g [.k (.bool false), .k (.slice none 0 0), .k (.int .i64 0)], .s (.k (.bool false))])) (.em (.call 179 [.g [.c 0 0, .c 0 1, .c 0 2, .c 0 3]] [some 2]) (.em (.call 177 [.g [.c 2 0]] [none]) (.em (.pr (.unOp .neg 3 (.tmp 0)) 3 [.s (.c 8 0)]) (.em (.call 178 [.g [.c 7 0, .c 7 1], .s (.c 9 0)] [some 3]) (.ret (.t [.g [.c 10 0, .c 10 1, .c 10 2], .s (.k (.bool true))])))))))))))))) (by kernel_rfl) (by kernel_rfl) (by kernel_rfl) (mQ _ _ _ _ _ _) h ⟨qpl h, trivial⟩ ?_
  refine wInt hU (fun w b h => qden_any _ q k w ⟨_, _, _, _, rfl, h⟩ (by omega)) (fun x1 y1 => ?_)
  refine wNat hU (n := q.den) (m := k) (fun w b ⟨h1, _⟩ => by have := abs_any _ _ k w h1 (by omega); rwa [Int.natAbs_natCast] at this) (fun x2 => ?_)
  refine wVal (fun w b ⟨h2, _⟩ => zerosI _ q.den k w (hT.below b) h2 (by omega)) rfl ?_
  refine wPr (prAddI rfl rfl (by show _ ≤ _ + (1 : Int); omega) (by show _ + (1 : Int) ≤ _; omega)) rfl ?_
  refine wVal (fun w b ⟨h2, _⟩ => bitsI _ q.den k w h2 (by omega)) rfl ?_
  refine wPr (prNe rfl rfl) rfl ?_
  refine wTrue (by unfold DyOk at hq; show Value.bool (((tzOf q.den : Nat) : Int) + 1 != ((blOf q.den : Nat) : Int)) = _; simp; omega) ?_
  exact wRet fun w b _ => ⟨rfl, b⟩
end Go.Proofs.YtpmnakjllkidiaaGreatDoor
