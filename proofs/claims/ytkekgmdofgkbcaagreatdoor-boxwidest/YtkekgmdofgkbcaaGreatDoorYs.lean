/- Quotients as texts: the document's RatParse and what it has beside; strings' Cut, rat's Parse. -/
import Derived.Test.YtkekgmdofgkbcaaGreatDoorYr
import Derived.Test.YtkekgmdofgkbcaaGreatDoorYg
import Derived.Test.YtkekgmdofgkbcaaGreatDoorYh
import Derived.Test.YtkekgmdofgkbcaaGreatDoorYj
import Derived.Test.YtkekgmdofgkbcaaGreatDoorYq
namespace Go.Proofs.YtkekgmdofgkbcaaGreatDoor
open Go.RowKit Cin
theorem cmpI_le (n : Nat) : decide (cmpI n 1 ≤ 0) = decide (¬ 1 < n) := by
  unfold cmpI
  by_cases h1 : n < 1
  · rw [if_pos h1]; simp; omega
  · rw [if_neg h1]
    by_cases h2 : 1 < n
    · rw [if_pos h2]; simp; omega
    · rw [if_neg h2]; simp; omega
def RQPost (s : ByteArray) (w : World) (e : Ending) (w' : World) : Prop :=
  (RatOk s ∧ ∃ v, e = .returned (.tuple #[v, .bool true]) ∧ DRatB w' v (ratVal s) 500 ∧ Below w.heap.size w w') ∨
  (¬ RatOk s ∧ ∃ a b d, e = .returned (.tuple #[.agg #[a, b, d], .bool false]) ∧ [a, b, d].all Value.oneCell' = true ∧ Below w.heap.size w w')
set_option maxHeartbeats 4000000 in
theorem dparse_any (s : ByteArray) (w : World) (hs : s.size ≤ 9223372036854775807) : Calls Tryz.prog 63 #[.string s] w (RQPost s w) := by
  have hlt := slash_lt s
  refine go (fun _ => True) [[.string s]] [none] (tr := (.loop 0 [.k (.int .i64 (Int.negSucc 0)), .k (.int .i64 0)] (.em (.pr (.call (.mk (.builtin .len) #[.tmp 0] #[9])) 3 [.s (.c 0 0)]) (.em (.pr (.binOp .lss 3 (.tmp 0) (.tmp 1) 3) 4 [.s (.c 1 1), .s (.c 2 0)]) (.cond (.c 3 0) (.em (.pr (.binOp .lss 3 (.tmp 0) (.const (.int .i64 0)) 3) 4 [.s (.c 1 0), .s (.k (.int .i64 0))]) (.cond (.c 4 0) (.em (.pr (.index 9 (.tmp 0) (.tmp 1)) 5 [.s (.c 0 0), .s (.c 1 1)]) (.em (.pr (.binOp .eql 5 (.tmp 0) (.const (.int .u8 47)) 5) 4 [.s (.c 5 0), .s (.k (.int .u8 47))]) (.cond (.c 6 0) (.em (.pr (.binOp .add 3 (.tmp 0) (.const (.int .i64 1)) 3) 3 [.s (.c 1 1), .s (.k (.int .i64 1))]) (.back 0 [.c 1 1, .c 7 0])) (.em (.pr (.binOp .add 3 (.tmp 0) (.const (.int .i64 1)) 3) 3 [.s (.c 1 1), .s (.k (.int .i64 1))]) (.back 0 [.c 1 0, .c 7 0]))))) (.em (.pr (.binOp .lss 3 (.tmp 0) (.const (.int .i64 0)) 3) 4 [.s (.c 1 0), .s (.k (.int .i64 0))]) (.cond (.c 5 0) (.em (.call 106 [.s (.c 0 0)] [some 2, none]) (.em (.call 95 [.s (.k (.int .u64 1))] [none]) (.ret (.t [.g [.c 6 0, .c 6 1, .c 7 0], .s (.c 6 2)])))) (.em (.pr (.slice 9 (.tmp 0) none (some (.tmp 1)) none) 9 [.s (.c 0 0), .s (.c 1 0)]) (.em (.call 106 [.s (.c 6 0)] [some 2, none]) (.em (.pr (.binOp .add 3 (.tmp 0) (.const (.int .i64 1)) 3) 3 [.s (.c 1 0), .s (.k (.int .i64 1))]) (.em (.pr (.slice 9 (.tmp 0) (some (.tmp 1)) none none) 9 [.s (.c 0 0), .s (.c 8 0)]) (.em (.call 107 [.s (.c 9 0)] [none, none]) (.em (.pr (.unOp .not 4 (.tmp 0)) 4 [.s (.c 7 2)]) (.cond (.c 11 0) (.ret (.t [.g [.k (.bool false), .k (.slice none 0 0), .k (.slice none 0 0)], .s (.k (.bool false))])) (.em (.pr (.unOp .not 4 (.tmp 0)) 4 [.s (.c 10 1)]) (.cond (.c 12 0) (.ret (.t [.g [.k (.bool false), .k (.slice none 0 0), .k (.slice none 0 0)], .s (.k (.bool false))])) (.em (.call 95 [.s (.k (.int .u64 1))] [none]) (.em (.call 94 [.s (.c 10 0), .s (.c 13 0)] [none]) (.em (.pr (.binOp .leq 3 (.tmp 0) (.const (.int .i64 0)) 3) 4 [.s (.c 14 0), .s (.k (.int .i64 0))]) (.cond (.c 15 0) (.ret (.t [.g [.k (.bool false), .k (.slice none 0 0), .k (.slice none 0 0)], .s (.k (.bool false))])) (.em (.call 108 [.s (.c 10 0), .s (.c 7 1)] [none]) (.em (.call 95 [.s (.k (.int .u64 1))] [none]) (.em (.call 94 [.s (.c 16 0), .s (.c 17 0)] [none]) (.em (.pr (.binOp .neq 3 (.tmp 0) (.const (.int .i64 0)) 3) 4 [.s (.c 18 0), .s (.k (.int .i64 0))]) (.cond (.c 19 0) (.ret (.t [.g [.k (.bool false), .k (.slice none 0 0), .k (.slice none 0 0)], .s (.k (.bool false))])) (.ret (.t [.g [.c 7 0, .c 7 1, .c 10 0], .s (.k (.bool true))])))))))))))))))))))))))) (.em (.pr (.binOp .lss 3 (.tmp 0) (.const (.int .i64 0)) 3) 4 [.s (.c 1 0), .s (.k (.int .i64 0))]) (.cond (.c 4 0) (.em (.call 106 [.s (.c 0 0)] [some 2, none]) (.em (.call 95 [.s (.k (.int .u64 1))] [none]) (.ret (.t [.g [.c 5 0, .c 5 1, .c 6 0], .s (.c 5 2)])))) (.em (.pr (.slice 9 (.tmp 0) none (some (.tmp 1)) none) 9 [.s (.c 0 0), .s (.c 1 0)]) (.em (.call 106 [.s (.c 5 0)] [some 2, none]) (.em (.pr (.binOp .add 3 (.tmp 0) (.const (.int .i64 1)) 3) 3 [.s (.c 1 0), .s (.k (.int .i64 1))]) (.em (.pr (.slice 9 (.tmp 0) (some (.tmp 1)) none none) 9 [.s (.c 0 0), .s (.c 7 0)]) (.em (.call 107 [.s (.c 8 0)] [none, none]) (.em (.pr (.unOp .not 4 (.tmp 0)) 4 [.s (.c 6 2)]) (.cond (.c 10 0) (.ret (.t [.g [.k (.bool false), .k (.slice none 0 0), .k (.slice none 0 0)], .s (.k (.bool false))])) (.em (.pr (.unOp .not 4 (.tmp 0)) 4 [.s (.c 9 1)]) (.cond (.c 11 0) (.ret (.t [.g [.k (.bool false), .k (.slice none 0 0), .k (.slice none 0 0)], .s (.k (.bool false))])) (.em (.call 95 [.s (.k (.int .u64 1))] [none]) (.em (.call 94 [.s (.c 9 0), .s (.c 12 0)] [none]) (.em (.pr (.binOp .leq 3 (.tmp 0) (.const (.int .i64 0)) 3) 4 [.s (.c 13 0), .s (.k (.int .i64 0))]) (.cond (.c 14 0) (.ret (.t [.g [.k (.bool false), .k (.slice none 0 0), .k (.slice none 0 0)], .s (.k (.bool false))])) (.em (.call 108 [.s (.c 9 0), .s (.c 6 1)] [none]) (.em (.call 95 [.s (.k (.int .u64 1))] [none]) (.em (.call 94 [.s (.c 15 0), .s (.c 16 0)] [none]) (.em (.pr (.binOp .neq 3 (.tmp 0) (.const (.int .i64 0)) 3) 4 [.s (.c 17 0), .s (.k (.int .i64 0))]) (.cond (.c 18 0) (.ret (.t [.g [.k (.bool false), .k (.slice none 0 0), .k (.slice none 0 0)], .s (.k (.bool false))])) (.ret (.t [.g [.c 6 0, .c 6 1, .c 9 0], .s (.k (.bool true))]))))))))))))))))))))))))))) (by kernel_rfl) (by kernel_rfl) (by kernel_rfl) Mono.true trivial ⟨rfl, trivial⟩ ?_
  refine wLoop (fun cs _ => Srch s cs) (fun _ _ _ _ h => h) (Smu s) (fun w _ => ⟨-1, 0, rfl, by omega, .inl ⟨rfl, fun k hk => by omega⟩⟩) (fun cs _ => ?_)
  intro hm u hF
  obtain ⟨⟨p, i, rfl, hi, hcase⟩, _⟩ := id hF
  refine wMono Mono.true (fun _ _ => trivial) ?_ hm u hF
  clear hm hF
  refine wPr (prLenS hStrT rfl) rfl ?_
  refine wPr (prLt rfl rfl) rfl ?_
  refine wIf _ rfl (fun e => ?_) (fun e => ?_)
  · have hil : i < s.size := by have : (i : Int) < s.size := by simpa using e
                                omega
    refine wPr (prLt rfl rfl) rfl ?_
    refine wIf _ rfl (fun e => ?_) (fun e => ?_)
    · have hp0 : p < 0 := by simpa using e
      have hno : p = -1 ∧ ∀ k, k < i → s.data.toList[k]? ≠ some 47 := by
        rcases hcase with h | ⟨o, h, _⟩
        · exact h
        · omega
      obtain ⟨b, hb⟩ : ∃ b, s.data.toList[i]? = some b := ⟨_, List.getElem?_eq_getElem (by rw [bytes_len]; exact hil)⟩
      refine wPr (prIdx hStrT rfl rfl hb) rfl ?_
      refine wPr (prEq rfl rfl) rfl ?_
      refine wIf _ rfl (fun e => ?_) (fun e => ?_)
      · have e1 : b = 47 := by
          have : (b.toNat : Int) = 47 := by simpa using e
          have h47 : (47 : UInt8).toNat = 47 := rfl
          exact UInt8.toNat_inj.1 (by omega)
        subst e1
        refine wPr (prAdd rfl rfl) rfl ?_
        rw [wrap_small (by omega) (by omega)]
        refine wBack fun w _ => ⟨⟨i, i + 1, rfl, by omega, .inr ⟨i, rfl, by omega, hb, hno.2⟩⟩, ?_⟩
        show s.size - ((i : Int) + 1).toNat < s.size - (i : Int).toNat
        omega
      · have e1 : b ≠ 47 := by
          intro h
          subst h
          simp at e
        refine wPr (prAdd rfl rfl) rfl ?_
        rw [wrap_small (by omega) (by omega)]
        refine wBack fun w _ => ⟨⟨p, i + 1, rfl, by omega, .inl ⟨hno.1, fun k hk => ?_⟩⟩, ?_⟩
        · by_cases hki : k = i
          · subst hki; rw [hb]; intro h; cases h; exact e1 rfl
          · exact hno.2 k (by omega)
        · show s.size - ((i : Int) + 1).toNat < s.size - (i : Int).toNat
          omega
    · have hp1 : ¬ p < 0 := by simpa using e
      have hsl : slashAt s = p := by
        rcases hcase with h | ⟨o, h, h2, h3, h4⟩
        · omega
        · rw [h]; exact index_of h3 h4
      refine wPr (prLt rfl rfl) rfl ?_
      refine wIf _ rfl (fun e => ?_) (fun e => ?_)
      · have hp0 : p < 0 := by simpa using e
        have hneg : slashAt s < 0 := by omega
        by_cases hi : IsInt s
        · refine wIntV hU (fun w b _ => rparseY s w hi) rfl (fun x1 y1 => ?_)
          refine wRef hU (fun w b _ => rnatOf_one w) (fun x2 => ?_)
          refine wRet fun w b ⟨h2, h1, _⟩ => .inl ⟨.inl ⟨hneg, hi⟩, _, rfl, ⟨_, _, _, rfl, ?_, ⟨_, h2.1, .inl ?_⟩, ?_⟩, b⟩
          · rw [(ratVal_int hneg).1]; exact h1
          · rw [(ratVal_int hneg).2]
          · rw [(ratVal_int hneg).2]; exact one_lt 500 (by decide)
        · refine wKnown [.bool false, .slice none 0 0, .bool false] (fun w b _ => rparseN s w hi) rfl rfl ?_
          refine wCall (fun cs w => ∃ x, cs = [x] ∧ x.oneCell' = true) (fun cs u w e h => h) (fun w b _ => (rnatOf_one w).mono ?_) (fun cs => ?_)
          · rintro e w' ⟨v, rfl, h1, hb⟩
            obtain ⟨_, _, _, _, rfl, _⟩ := h1.1.shape
            exact ⟨[_], rfl, rfl, ⟨_, rfl, rfl⟩, hb⟩
          · refine wRet fun w b ⟨⟨x, hc, hx⟩, _⟩ => ?_
            subst hc
            refine .inr ⟨fun h => ?_, _, _, _, rfl, by simp only [List.all_cons, List.all_nil, Bool.and_true, Bool.and_eq_true]; exact ⟨rfl, rfl, hx⟩, b⟩
            rcases h with h | h
            · exact hi h.2
            · omega
      · have hp0 : ¬ p < 0 := by simpa using e
        refine wPr (prSlH hStrT rfl rfl (by omega) (by omega)) rfl ?_
        rw [show s.extract 0 p.toNat = nPart s by unfold nPart; rw [hsl]]
        by_cases hi : IsInt (nPart s)
        · refine wIntV hU (fun w b _ => rparseY (nPart s) w hi) rfl (fun x1 y1 => ?_)
          refine wPr (prAdd rfl rfl) rfl ?_
          rw [wrap_small (by omega) (by omega)]
          refine wPr (prSlL hStrT rfl rfl (by omega) (by omega)) rfl ?_
          rw [show s.extract (p + 1).toNat s.size = dPart s by unfold dPart; rw [hsl, show (p + 1).toNat = p.toNat + 1 by omega]]
          by_cases hj : IsNum (byts (dPart s))
          · refine wRefV hU (fun w b _ => nparseY (dPart s) w hj) rfl (fun x2 => ?_)
            refine wPr (prNot rfl) rfl ?_
            refine wFalse rfl ?_
            refine wPr (prNot rfl) rfl ?_
            refine wFalse rfl ?_
            refine wRef hU (fun w b _ => rnatOf_one w) (fun x3 => ?_)
            refine wVal (fun w b ⟨h3, h2, _⟩ => rcmpB _ _ _ 1 500 1 w h2 h3 (by decide) (by decide)) rfl ?_
            refine wPr (prLe rfl rfl) rfl ?_
            refine wIf _ rfl (fun e => ?_) (fun e => ?_)
            · have e1 : ¬ 1 < decL (byts (dPart s)) := by have := (cmpI_le _).symm.trans e; simpa using this
              exact wRet fun w b _ => .inr ⟨fun h => h.elim (fun h => by omega) (fun h => e1 h.2.2.2.1), _, _, _, rfl, rfl, b⟩
            · have e1 : 1 < decL (byts (dPart s)) := by have := (cmpI_le _).symm.trans e; simpa using this
              refine wRef hU (fun w b ⟨_, h2, h1, _⟩ => rgcd_any _ _ _ _ 500 500 w h2 (ibr h1) (by decide) (by decide)) (fun x4 => ?_)
              refine wRef hU (fun w b _ => rnatOf_one w) (fun x5 => ?_)
              refine wVal (fun w b ⟨h5, h4, _⟩ => rcmpB _ _ _ 1 (500 + 500) 1 w h4 h5 (by decide) (by decide)) rfl ?_
              refine wPr (prNe rfl rfl) rfl ?_
              refine wIf _ rfl (fun e => ?_) (fun e => ?_)
              · have e2 : Nat.gcd (decL (byts (dPart s))) (intVal (nPart s)).natAbs ≠ 1 := by have := (cmpI_one' _).symm.trans e; simpa using this
                exact wRet fun w b _ => .inr ⟨fun h => h.elim (fun h => by omega) (fun h => e2 h.2.2.2.2), _, _, _, rfl, rfl, b⟩
              · have e2 : Nat.gcd (decL (byts (dPart s))) (intVal (nPart s)).natAbs = 1 := by have := (cmpI_one' _).symm.trans e; simpa using this
                obtain ⟨q1, q2⟩ := ratVal_quo (by omega) e1 e2
                refine wRet fun w b ⟨_, _, _, h2, h1, _⟩ => .inl ⟨.inr ⟨by omega, hi, hj, e1, e2⟩, _, rfl, ⟨_, _, _, rfl, ?_, ⟨_, h2.1, .inl ?_⟩, ?_⟩, b⟩
                · rw [q1]; exact h1
                · rw [q2]
                · rw [q2]; exact h2.2
          · refine wKnown [.slice none 0 0, .bool false] (fun w b _ => nparseN (dPart s) w hj) rfl rfl ?_
            refine wPr (prNot rfl) rfl ?_
            refine wFalse rfl ?_
            refine wPr (prNot rfl) rfl ?_
            refine wTrue rfl ?_
            exact wRet fun w b _ => .inr ⟨fun h => h.elim (fun h => by omega) (fun h => hj h.2.2.1), _, _, _, rfl, rfl, b⟩
        · refine wKnown [.bool false, .slice none 0 0, .bool false] (fun w b _ => rparseN (nPart s) w hi) rfl rfl ?_
          refine wPr (prAdd rfl rfl) rfl ?_
          rw [wrap_small (by omega) (by omega)]
          refine wPr (prSlL hStrT rfl rfl (by omega) (by omega)) rfl ?_
          rw [show s.extract (p + 1).toNat s.size = dPart s by unfold dPart; rw [hsl, show (p + 1).toNat = p.toNat + 1 by omega]]
          by_cases hj : IsNum (byts (dPart s))
          · refine wRefV hU (fun w b _ => nparseY (dPart s) w hj) rfl (fun x2 => ?_)
            refine wPr (prNot rfl) rfl ?_
            refine wTrue rfl ?_
            exact wRet fun w b _ => .inr ⟨fun h => h.elim (fun h => by omega) (fun h => hi h.2.1), _, _, _, rfl, rfl, b⟩
          · refine wKnown [.slice none 0 0, .bool false] (fun w b _ => nparseN (dPart s) w hj) rfl rfl ?_
            refine wPr (prNot rfl) rfl ?_
            refine wTrue rfl ?_
            exact wRet fun w b _ => .inr ⟨fun h => h.elim (fun h => by omega) (fun h => hi h.2.1), _, _, _, rfl, rfl, b⟩
  · have hil : ¬ i < s.size := by have : ¬ (i : Int) < s.size := by simpa using e
                                  omega
    have hsl : slashAt s = p := by
      rcases hcase with h | ⟨o, h, h2, h3, h4⟩
      · rw [h.1]; exact index_no (fun k hk => h.2 k (by rw [bytes_len] at hk; omega))
      · rw [h]; exact index_of h3 h4
    refine wPr (prLt rfl rfl) rfl ?_
    refine wIf _ rfl (fun e => ?_) (fun e => ?_)
    · have hp0 : p < 0 := by simpa using e
      have hneg : slashAt s < 0 := by omega
      by_cases hi : IsInt s
      · refine wIntV hU (fun w b _ => rparseY s w hi) rfl (fun x1 y1 => ?_)
        refine wRef hU (fun w b _ => rnatOf_one w) (fun x2 => ?_)
        refine wRet fun w b ⟨h2, h1, _⟩ => .inl ⟨.inl ⟨hneg, hi⟩, _, rfl, ⟨_, _, _, rfl, ?_, ⟨_, h2.1, .inl ?_⟩, ?_⟩, b⟩
        · rw [(ratVal_int hneg).1]; exact h1
        · rw [(ratVal_int hneg).2]
        · rw [(ratVal_int hneg).2]; exact one_lt 500 (by decide)
      · refine wKnown [.bool false, .slice none 0 0, .bool false] (fun w b _ => rparseN s w hi) rfl rfl ?_
        refine wCall (fun cs w => ∃ x, cs = [x] ∧ x.oneCell' = true) (fun cs u w e h => h) (fun w b _ => (rnatOf_one w).mono ?_) (fun cs => ?_)
        · rintro e w' ⟨v, rfl, h1, hb⟩
          obtain ⟨_, _, _, _, rfl, _⟩ := h1.1.shape
          exact ⟨[_], rfl, rfl, ⟨_, rfl, rfl⟩, hb⟩
        · refine wRet fun w b ⟨⟨x, hc, hx⟩, _⟩ => ?_
          subst hc
          refine .inr ⟨fun h => ?_, _, _, _, rfl, by simp only [List.all_cons, List.all_nil, Bool.and_true, Bool.and_eq_true]; exact ⟨rfl, rfl, hx⟩, b⟩
          rcases h with h | h
          · exact hi h.2
          · omega
    · have hp0 : ¬ p < 0 := by simpa using e
      refine wPr (prSlH hStrT rfl rfl (by omega) (by omega)) rfl ?_
      rw [show s.extract 0 p.toNat = nPart s by unfold nPart; rw [hsl]]
      by_cases hi : IsInt (nPart s)
      · refine wIntV hU (fun w b _ => rparseY (nPart s) w hi) rfl (fun x1 y1 => ?_)
        refine wPr (prAdd rfl rfl) rfl ?_
        rw [wrap_small (by omega) (by omega)]
        refine wPr (prSlL hStrT rfl rfl (by omega) (by omega)) rfl ?_
        rw [show s.extract (p + 1).toNat s.size = dPart s by unfold dPart; rw [hsl, show (p + 1).toNat = p.toNat + 1 by omega]]
        by_cases hj : IsNum (byts (dPart s))
        · refine wRefV hU (fun w b _ => nparseY (dPart s) w hj) rfl (fun x2 => ?_)
          refine wPr (prNot rfl) rfl ?_
          refine wFalse rfl ?_
          refine wPr (prNot rfl) rfl ?_
          refine wFalse rfl ?_
          refine wRef hU (fun w b _ => rnatOf_one w) (fun x3 => ?_)
          refine wVal (fun w b ⟨h3, h2, _⟩ => rcmpB _ _ _ 1 500 1 w h2 h3 (by decide) (by decide)) rfl ?_
          refine wPr (prLe rfl rfl) rfl ?_
          refine wIf _ rfl (fun e => ?_) (fun e => ?_)
          · have e1 : ¬ 1 < decL (byts (dPart s)) := by have := (cmpI_le _).symm.trans e; simpa using this
            exact wRet fun w b _ => .inr ⟨fun h => h.elim (fun h => by omega) (fun h => e1 h.2.2.2.1), _, _, _, rfl, rfl, b⟩
          · have e1 : 1 < decL (byts (dPart s)) := by have := (cmpI_le _).symm.trans e; simpa using this
            refine wRef hU (fun w b ⟨_, h2, h1, _⟩ => rgcd_any _ _ _ _ 500 500 w h2 (ibr h1) (by decide) (by decide)) (fun x4 => ?_)
            refine wRef hU (fun w b _ => rnatOf_one w) (fun x5 => ?_)
            refine wVal (fun w b ⟨h5, h4, _⟩ => rcmpB _ _ _ 1 (500 + 500) 1 w h4 h5 (by decide) (by decide)) rfl ?_
            refine wPr (prNe rfl rfl) rfl ?_
            refine wIf _ rfl (fun e => ?_) (fun e => ?_)
            · have e2 : Nat.gcd (decL (byts (dPart s))) (intVal (nPart s)).natAbs ≠ 1 := by have := (cmpI_one' _).symm.trans e; simpa using this
              exact wRet fun w b _ => .inr ⟨fun h => h.elim (fun h => by omega) (fun h => e2 h.2.2.2.2), _, _, _, rfl, rfl, b⟩
            · have e2 : Nat.gcd (decL (byts (dPart s))) (intVal (nPart s)).natAbs = 1 := by have := (cmpI_one' _).symm.trans e; simpa using this
              obtain ⟨q1, q2⟩ := ratVal_quo (by omega) e1 e2
              refine wRet fun w b ⟨_, _, _, h2, h1, _⟩ => .inl ⟨.inr ⟨by omega, hi, hj, e1, e2⟩, _, rfl, ⟨_, _, _, rfl, ?_, ⟨_, h2.1, .inl ?_⟩, ?_⟩, b⟩
              · rw [q1]; exact h1
              · rw [q2]
              · rw [q2]; exact h2.2
        · refine wKnown [.slice none 0 0, .bool false] (fun w b _ => nparseN (dPart s) w hj) rfl rfl ?_
          refine wPr (prNot rfl) rfl ?_
          refine wFalse rfl ?_
          refine wPr (prNot rfl) rfl ?_
          refine wTrue rfl ?_
          exact wRet fun w b _ => .inr ⟨fun h => h.elim (fun h => by omega) (fun h => hj h.2.2.1), _, _, _, rfl, rfl, b⟩
      · refine wKnown [.bool false, .slice none 0 0, .bool false] (fun w b _ => rparseN (nPart s) w hi) rfl rfl ?_
        refine wPr (prAdd rfl rfl) rfl ?_
        rw [wrap_small (by omega) (by omega)]
        refine wPr (prSlL hStrT rfl rfl (by omega) (by omega)) rfl ?_
        rw [show s.extract (p + 1).toNat s.size = dPart s by unfold dPart; rw [hsl, show (p + 1).toNat = p.toNat + 1 by omega]]
        by_cases hj : IsNum (byts (dPart s))
        · refine wRefV hU (fun w b _ => nparseY (dPart s) w hj) rfl (fun x2 => ?_)
          refine wPr (prNot rfl) rfl ?_
          refine wTrue rfl ?_
          exact wRet fun w b _ => .inr ⟨fun h => h.elim (fun h => by omega) (fun h => hi h.2.1), _, _, _, rfl, rfl, b⟩
        · refine wKnown [.slice none 0 0, .bool false] (fun w b _ => nparseN (dPart s) w hj) rfl rfl ?_
          refine wPr (prNot rfl) rfl ?_
          refine wTrue rfl ?_
          exact wRet fun w b _ => .inr ⟨fun h => h.elim (fun h => by omega) (fun h => hi h.2.1), _, _, _, rfl, rfl, b⟩
end Go.Proofs.YtkekgmdofgkbcaaGreatDoor

namespace Go.Proofs.YtkekgmdofgkbcaaGreatDoor
open Go.RowKit Cin
theorem dtext_any (v : Value) (q : Rat) (k : Nat) (w : World) (h : DRatB w v q k) (hk : k ≤ 200000) :
    Calls Tryz.prog 54 #[v] w fun e w' => e = .returned (.string (ratS q)) ∧ Below w.heap.size w w' := by
  obtain ⟨a, b, d, rfl, h⟩ := h
  have s1 := intS_size h.1.2
  have s2 := intS_size (z := (q.den : Int)) (k := k) (by rw [Int.natAbs_natCast]; exact h.2.2)
  have hd : decS q.den = intS q.den := by rw [intS_pos (by omega), Int.natAbs_natCast]
  refine go (fun w => DQ w a b d q k) [[a, b, d]] [some 3] (tr := (.em (.call 85 [.g [.c 0 0, .c 0 1, .c 0 2]] [none]) (.em (.call 95 [.s (.k (.int .u64 1))] [none]) (.em (.call 94 [.s (.c 1 0), .s (.c 2 0)] [none]) (.em (.pr (.binOp .eql 3 (.tmp 0) (.const (.int .i64 0)) 3) 4 [.s (.c 3 0), .s (.k (.int .i64 0))]) (.cond (.c 4 0) (.em (.call 96 [.g [.c 0 0, .c 0 1]] [none]) (.ret (.v (.s (.c 5 0))))) (.em (.call 96 [.g [.c 0 0, .c 0 1]] [none]) (.em (.pr (.binOp .add 9 (.tmp 0) (.const (.string ⟨#[47]⟩)) 9) 9 [.s (.c 5 0), .s (.k (.string ⟨#[47]⟩))]) (.em (.call 97 [.s (.c 0 2)] [none]) (.em (.pr (.binOp .add 9 (.tmp 0) (.tmp 1) 9) 9 [.s (.c 6 0), .s (.c 7 0)]) (.ret (.v (.s (.c 8 0)))))))))))))) (by kernel_rfl) (by kernel_rfl) (by kernel_rfl) (mD _ _ _ _ _) h ⟨dpl h, trivial⟩ ?_
  refine wRef hU (fun w b h => dden_any _ q k w ⟨_, _, _, rfl, h⟩) (fun x1 => ?_)
  refine wRef hU (fun w b _ => rnatOf_one w) (fun x2 => ?_)
  refine wVal (fun w b ⟨h2, h1, _⟩ => rcmpB _ _ q.den 1 k 1 w h1 h2 (by omega) (by decide)) rfl ?_
  refine wPr (prEq rfl rfl) rfl ?_
  refine wIf _ rfl (fun e => ?_) (fun e => ?_)
  · have e1 : q.den = 1 := by have := (cmpI_one _).symm.trans e; simpa using this
    refine wVal (fun w b ⟨_, _, h⟩ => ritext_any _ q.num k w h.1 (by omega)) rfl ?_
    exact wRet fun w b _ => ⟨by unfold ratS; rw [if_pos e1]; rfl, b⟩
  · have e1 : ¬ q.den = 1 := by have := (cmpI_one _).symm.trans e; simpa using this
    refine wVal (fun w b ⟨_, _, h⟩ => ritext_any _ q.num k w h.1 (by omega)) rfl ?_
    refine wPr (prSAdd rfl rfl (by show _ + 1 ≤ _; omega)) rfl ?_
    refine wVal (v := .string (intS q.den)) (fun w b ⟨_, _, _, ⟨n, hr, hn⟩, hlt⟩ => by
      rw [← hd]
      rcases hn with rfl | hn
      · exact rtextB _ _ k w ⟨hr, hlt⟩ (by omega)
      · exact absurd hn.2 e1) rfl ?_
    refine wPr (prSAdd rfl rfl (by rw [ByteArray.size_append]; show _ + 1 + _ ≤ _; omega)) rfl ?_
    exact wRet fun w b _ => ⟨by unfold ratS; rw [if_neg e1]; rfl, b⟩
theorem cutL_any (s : ByteArray) (w : World) (hs : s.size ≤ 9223372036854775807) :
    Calls Tryz.prog 150 #[.string s, .string ⟨#[47]⟩] w fun e w' => e = .returned (if 0 ≤ slashAt s then .tuple #[.string (nPart s), .string (dPart s), .bool true] else .tuple #[.string s, .string ⟨#[]⟩, .bool false]) ∧ Below w.heap.size w w' := by
  have hlt := slash_lt s
  refine go (fun _ => True) [[.string s], [.string ⟨#[47]⟩]] [none, none] (tr := (.em (.call 186 [.s (.c 0 0), .s (.c 1 0)] [none]) (.em (.pr (.binOp .geq 3 (.tmp 0) (.const (.int .i64 0)) 3) 4 [.s (.c 2 0), .s (.k (.int .i64 0))]) (.cond (.c 3 0) (.em (.pr (.slice 9 (.tmp 0) none (some (.tmp 1)) none) 9 [.s (.c 0 0), .s (.c 2 0)]) (.em (.pr (.call (.mk (.builtin .len) #[.tmp 0] #[9])) 3 [.s (.c 1 0)]) (.em (.pr (.binOp .add 3 (.tmp 0) (.tmp 1) 3) 3 [.s (.c 2 0), .s (.c 5 0)]) (.em (.pr (.slice 9 (.tmp 0) (some (.tmp 1)) none none) 9 [.s (.c 0 0), .s (.c 6 0)]) (.ret (.t [.s (.c 4 0), .s (.c 7 0), .s (.k (.bool true))])))))) (.ret (.t [.s (.c 0 0), .s (.k (.string ⟨#[]⟩)), .s (.k (.bool false))])))))) (by kernel_rfl) (by kernel_rfl) (by kernel_rfl) Mono.true trivial ⟨rfl, rfl, trivial⟩ ?_
  refine wVal (v := .int .i64 (slashAt s)) (fun w b _ => (Tryz.stringslite_Index_one s 47 w).mono fun e w' ⟨h1, h2⟩ => ⟨h1, by rw [h2]; exact Below.refl _ _⟩) rfl ?_
  refine wPr (prGe rfl rfl) rfl ?_
  refine wIf _ rfl (fun e => ?_) (fun e => ?_)
  · have h0 : 0 ≤ slashAt s := by simpa using e
    refine wPr (prSlH hStrT rfl rfl (by omega) (by omega)) rfl ?_
    refine wPr (prLenS hStrT rfl) rfl ?_
    refine wPr (prAdd rfl rfl) rfl ?_
    rw [show ((ByteArray.size ⟨#[47]⟩ : Nat) : Int) = 1 from rfl, wrap_small (by omega) (by omega)]
    refine wPr (prSlL hStrT rfl rfl (by omega) (by omega)) rfl ?_
    refine wRet fun w b _ => ⟨?_, b⟩
    rw [if_pos h0]
    unfold nPart dPart
    rw [show (slashAt s).toNat + 1 = (slashAt s + 1).toNat by omega]
    rfl
  · have h0 : ¬ 0 ≤ slashAt s := by simpa using e
    exact wRet fun w b _ => ⟨by rw [if_neg h0]; rfl, b⟩
theorem cut_any (s : ByteArray) (w : World) (hs : s.size ≤ 9223372036854775807) :
    Calls Tryz.prog 109 #[.string s, .string ⟨#[47]⟩] w fun e w' => e = .returned (if 0 ≤ slashAt s then .tuple #[.string (nPart s), .string (dPart s), .bool true] else .tuple #[.string s, .string ⟨#[]⟩, .bool false]) ∧ Below w.heap.size w w' := by
  refine go (fun _ => True) [[.string s], [.string ⟨#[47]⟩]] [none, none] (tr := (.em (.call 150 [.s (.c 0 0), .s (.c 1 0)] [none, none, none]) (.ret (.t [.s (.c 2 0), .s (.c 2 1), .s (.c 2 2)])))) (by kernel_rfl) (by kernel_rfl) (by kernel_rfl) Mono.true trivial ⟨rfl, rfl, trivial⟩ ?_
  by_cases h0 : 0 ≤ slashAt s
  · refine wKnown [.string (nPart s), .string (dPart s), .bool true] (fun w b _ => cutL_any s w hs) (by rw [if_pos h0]; rfl) rfl ?_
    exact wRet fun w b _ => ⟨by rw [if_pos h0]; rfl, b⟩
  · refine wKnown [.string s, .string ⟨#[]⟩, .bool false] (fun w b _ => cutL_any s w hs) (by rw [if_neg h0]; rfl) rfl ?_
    exact wRet fun w b _ => ⟨by rw [if_neg h0]; rfl, b⟩
theorem iparseY (s : ByteArray) (w : World) (h : IsInt s) : Calls Tryz.prog 110 #[.string s] w fun e w' => ∃ v, e = .returned (.tuple #[v, .int .i64 0]) ∧ IntB 190 w' v (intVal s) 500 ∧ Below w.heap.size w w' :=
  (iparse_any s w).mono fun e w' hp => by
    rcases hp with ⟨_, h⟩ | ⟨hn, _⟩
    · exact h
    · exact absurd h hn
theorem num_int {s : ByteArray} (h : IsNum (byts s)) : IsInt s ∧ intVal s = (decL (byts s) : Nat) := by
  have hn : negT s = false := by
    cases hneg : negT s with
    | false => rfl
    | true =>
      unfold negT at hneg
      simp only [Bool.and_eq_true, decide_eq_true_eq] at hneg
      have h1 := h.1
      have := h.2.2.2 (lim (byts s) 0) (by
        have hl : 0 < (byts s).length := by omega
        have := getElem?_lim (xs := byts s) hl
        exact List.mem_of_getElem? this)
      omega
  have hd : digT s = s := by unfold digT; rw [hn]; rfl
  refine ⟨⟨by rw [hd]; exact h, by rw [hn]; intro h; cases h⟩, ?_⟩
  unfold intVal
  rw [hn, hd]; rfl
theorem qparse_ok (s : ByteArray) (w : World) (hs : s.size ≤ 9223372036854775807) (h : RatOk s) :
    Calls Tryz.prog 64 #[.string s] w fun e w' => ∃ v', e = .returned (.tuple #[v', .int .i64 0]) ∧ RatB w' v' (ratVal s) 500 ∧ Below w.heap.size w w' := by
  refine go (fun _ => True) [[.string s]] [none] (tr := (.em (.call 109 [.s (.c 0 0), .s (.k (.string ⟨#[47]⟩))] [none, none, none]) (.em (.call 110 [.s (.c 1 0)] [some 2, none]) (.em (.pr (.binOp .neq 27 (.tmp 0) (.const (.int .i64 0)) 27) 4 [.s (.c 2 2), .s (.k (.int .i64 0))]) (.cond (.c 3 0) (.ret (.t [.g [.k (.bool false), .k (.slice none 0 0), .k (.bool false), .k (.slice none 0 0)], .s (.k (.int .i64 2))])) (.em (.pr (.unOp .not 4 (.tmp 0)) 4 [.s (.c 1 2)]) (.cond (.c 4 0) (.ret (.t [.g [.c 2 0, .c 2 1, .k (.bool false), .k (.slice none 0 0)], .s (.k (.int .i64 0))])) (.em (.call 110 [.s (.c 1 1)] [some 2, none]) (.em (.pr (.binOp .neq 27 (.tmp 0) (.const (.int .i64 0)) 27) 4 [.s (.c 5 2), .s (.k (.int .i64 0))]) (.cond (.c 6 0) (.ret (.t [.g [.k (.bool false), .k (.slice none 0 0), .k (.bool false), .k (.slice none 0 0)], .s (.k (.int .i64 2))])) (.em (.call 111 [.s (.k (.int .i64 1))] [some 2]) (.em (.call 72 [.g [.c 5 0, .c 5 1], .g [.c 7 0, .c 7 1]] [none]) (.em (.pr (.binOp .leq 3 (.tmp 0) (.const (.int .i64 0)) 3) 4 [.s (.c 8 0), .s (.k (.int .i64 0))]) (.cond (.c 9 0) (.ret (.t [.g [.k (.bool false), .k (.slice none 0 0), .k (.bool false), .k (.slice none 0 0)], .s (.k (.int .i64 2))])) (.em (.call 76 [.g [.c 2 0, .c 2 1], .g [.c 5 0, .c 5 1]] [some 2]) (.em (.call 112 [.g [.c 10 0, .c 10 1]] [none]) (.em (.pr (.unOp .not 4 (.tmp 0)) 4 [.s (.c 11 0)]) (.cond (.c 12 0) (.ret (.t [.g [.k (.bool false), .k (.slice none 0 0), .k (.bool false), .k (.slice none 0 0)], .s (.k (.int .i64 2))])) (.ret (.t [.g [.c 2 0, .c 2 1, .c 5 0, .c 5 1], .s (.k (.int .i64 0))])))))))))))))))))))) (by kernel_rfl) (by kernel_rfl) (by kernel_rfl) Mono.true trivial ⟨rfl, trivial⟩ ?_
  rcases h with ⟨hneg, hi⟩ | ⟨hpos, hi, hj, e1, e2⟩
  · refine wKnown [.string s, .string ⟨#[]⟩, .bool false] (fun w b _ => cut_any s w hs) (by rw [if_neg (by omega)]; rfl) rfl ?_
    refine wIntV hU (fun w b _ => iparseY s w hi) rfl (fun x1 y1 => ?_)
    refine wPr (prNe rfl rfl) rfl ?_
    refine wFalse rfl ?_
    refine wPr (prNot rfl) rfl ?_
    refine wTrue rfl ?_
    obtain ⟨q1, q2⟩ := ratVal_int hneg
    refine wRet fun w b ⟨h1, _⟩ => ⟨_, rfl, ⟨_, _, _, _, rfl, ?_, ?_, ?_⟩, b⟩
    · rw [q1]; exact h1
    · show IntB _ _ _ (denZ _) _
      unfold denZ
      rw [if_pos q2]; exact IntB.zero _ _ _
    · rw [q2]; exact one_lt 500 (by decide)
  · obtain ⟨hj1, hj2⟩ := num_int hj
    obtain ⟨q1, q2⟩ := ratVal_quo hpos e1 e2
    refine wKnown [.string (nPart s), .string (dPart s), .bool true] (fun w b _ => cut_any s w hs) (by rw [if_pos hpos]; rfl) rfl ?_
    refine wIntV hU (fun w b _ => iparseY _ w hi) rfl (fun x1 y1 => ?_)
    refine wPr (prNe rfl rfl) rfl ?_
    refine wFalse rfl ?_
    refine wPr (prNot rfl) rfl ?_
    refine wFalse rfl ?_
    refine wIntV hU (z := (decL (byts (dPart s)) : Nat)) (fun w b _ => by rw [← hj2]; exact iparseY _ w hj1) rfl (fun x2 y2 => ?_)
    refine wPr (prNe rfl rfl) rfl ?_
    refine wFalse rfl ?_
    refine wInt hU (fun w b _ => iof_any 1 w (by decide) (by decide)) (fun x3 y3 => ?_)
    refine wVal (v := .int .i64 1) (fun w b ⟨h3, h2, _⟩ => by
      have e : cmpZ ((decL (byts (dPart s)) : Nat) : Int) 1 = 1 := by unfold cmpZ; rw [if_neg (by omega), if_pos (by omega)]
      rw [← e]
      exact icmp_any _ _ _ 1 500 2 w h2 h3 (by decide) (by decide)) rfl ?_
    refine wPr (prLe rfl rfl) rfl ?_
    refine wFalse rfl ?_
    refine wInt hU (z := 1) (fun w b ⟨_, h2, h1, _⟩ => by
      have e : ((Nat.gcd (intVal (nPart s)).natAbs ((decL (byts (dPart s)) : Nat) : Int).natAbs : Nat) : Int) = 1 := by rw [Int.natAbs_natCast, Nat.gcd_comm, e2]; rfl
      rw [← e]
      exact qgcd_any _ _ _ _ 500 500 w h1 h2 (by decide) (by decide)) (fun x4 y4 => ?_)
    refine wVal (v := .bool true) (fun w b ⟨h4, _⟩ => isOne_any _ 1 _ w h4 (by decide)) rfl ?_
    refine wPr (prNot rfl) rfl ?_
    refine wFalse rfl ?_
    refine wRet fun w b ⟨_, _, h2, h1, _⟩ => ⟨_, rfl, ⟨_, _, _, _, rfl, ?_, ?_, ?_⟩, b⟩
    · rw [q1]; exact h1
    · show IntB _ _ _ (denZ _) _
      unfold denZ
      rw [if_neg (by omega), q2]; exact h2
    · rw [q2]; have := h2.2; rwa [Int.natAbs_natCast] at this
theorem is_any (v u : Value) (q : Rat) (k j : Nat) (w : World) (h : RatB w v q k) (h' : DRatB w u q j) (hk : k ≤ 200000) (hj : j ≤ 200000) (hT : TabsP w) :
    Calls Tryz.prog 23 #[v, u] w fun e w' => e = .returned (.bool true) ∧ Below w.heap.size w w' := by
  obtain ⟨a, b, c, d, rfl, h⟩ := h
  obtain ⟨a', b', d', rfl, h'⟩ := h'
  refine go (fun w => QB w a b c d q k ∧ DQ w a' b' d' q j) [[a, b, c, d], [a', b', d']] [some 4, some 3] (tr := (.em (.call 53 [.g [.c 0 0, .c 0 1, .c 0 2, .c 0 3]] [none]) (.em (.call 54 [.g [.c 1 0, .c 1 1, .c 1 2]] [none]) (.em (.pr (.binOp .eql 9 (.tmp 0) (.tmp 1) 9) 4 [.s (.c 2 0), .s (.c 3 0)]) (.ret (.v (.s (.c 4 0)))))))) (by kernel_rfl) (by kernel_rfl) (by kernel_rfl) ((mQ _ _ _ _ _ _).and (mD _ _ _ _ _)) ⟨h, h'⟩ ⟨qpl h, dpl h', trivial⟩ ?_
  refine wVal (fun w b ⟨h, _⟩ => qtext_any _ q k w ⟨_, _, _, _, rfl, h⟩ hk (hT.below b)) rfl ?_
  refine wVal (fun w b ⟨_, h'⟩ => dtext_any _ q j w ⟨_, _, _, rfl, h'⟩ hj) rfl ?_
  refine wPr (prSEq rfl rfl) rfl ?_
  exact wRet fun w b _ => ⟨by show Ending.returned (.bool _) = _; rw [beq_self_eq_true], b⟩
end Go.Proofs.YtkekgmdofgkbcaaGreatDoor

namespace Go.Proofs.YtkekgmdofgkbcaaGreatDoor
open Go.RowKit Cin
section rules
variable {w0 : World} {Post : Ending → World → Prop} {F : World → Prop} {L : LC} {E : Env} {tr : Tr} {f : FuncId} {ar : List V1} {args : Array Value}
theorem wRatV {D Z : TypeId → Bool} {q : Rat} {m : Nat} {c : Value}
    (hc : ∀ w, Below w0.heap.size w0 w → F w → Calls Tryz.prog f args w fun e w' => ∃ v, e = .returned (.tuple #[v, c]) ∧ RatB w' v q m ∧ Below w.heap.size w w') (hv : c.oneCell' = true)
    {E' : Value → Value → Value → Value → Env} (hk : ∀ a b c d, Wk Tryz.prog w0 D Z Post L (fun w => QB w a b c d q m ∧ F w) tr (E' a b c d)) (ha : (ar.map (V1.den [] E)).toArray = args := by rfl) (hE : ∀ a b c' d, E ++ [[a, b, c', d, c]] = E' a b c' d := by intros; (simp only [List.cons_append, List.nil_append]) <;> exact rfl) (hD : D 190 = true := by rfl) : Wk Tryz.prog w0 D Z Post L F (.em (.call f ar [some 4, none]) tr) E := by
  intro hm u hF w e b
  subst ha
  refine (hc w b (hm u.w w e.ext hF)).mono ?_
  rintro e1 w' ⟨v, rfl, ⟨a, b, c', d, rfl, h1⟩, h4⟩
  have p := qpl h1
  simp only [List.all_cons, List.all_nil, Bool.and_true, Bool.and_eq_true] at p
  exact ⟨[a, b, c', d, c], rfl, by simp only [List.all_cons, List.all_nil, Bool.and_true, Bool.and_eq_true]; exact ⟨p.1, p.2.1, p.2.2.1, p.2.2.2, hv⟩, h4, hE _ _ _ _ ▸ hk _ _ _ _ ((mQ _ _ _ _ _ _ hD).and hm) (u.more w w') ⟨h1, hm u.w w' (e.below h4).ext hF⟩⟩
theorem wDQV {D Z : TypeId → Bool} {q : Rat} {m : Nat} {c : Value}
    (hc : ∀ w, Below w0.heap.size w0 w → F w → Calls Tryz.prog f args w fun e w' => ∃ v, e = .returned (.tuple #[v, c]) ∧ DRatB w' v q m ∧ Below w.heap.size w w') (hv : c.oneCell' = true)
    {E' : Value → Value → Value → Env} (hk : ∀ a b d, Wk Tryz.prog w0 D Z Post L (fun w => DQ w a b d q m ∧ F w) tr (E' a b d)) (ha : (ar.map (V1.den [] E)).toArray = args := by rfl) (hE : ∀ a b d, E ++ [[a, b, d, c]] = E' a b d := by intros; (simp only [List.cons_append, List.nil_append]) <;> exact rfl) (hD : D 190 = true := by rfl) : Wk Tryz.prog w0 D Z Post L F (.em (.call f ar [some 3, none]) tr) E := by
  intro hm u hF w e b
  subst ha
  refine (hc w b (hm u.w w e.ext hF)).mono ?_
  rintro e1 w' ⟨v, rfl, ⟨a, b, d, rfl, h1⟩, h4⟩
  have p := dpl h1
  simp only [List.all_cons, List.all_nil, Bool.and_true, Bool.and_eq_true] at p
  exact ⟨[a, b, d, c], rfl, by simp only [List.all_cons, List.all_nil, Bool.and_true, Bool.and_eq_true]; exact ⟨p.1, p.2.1, p.2.2, hv⟩, h4, hE _ _ _ ▸ hk _ _ _ ((mD _ _ _ _ _ hD).and hm) (u.more w w') ⟨h1, hm u.w w' (e.below h4).ext hF⟩⟩
end rules
theorem dparseY (s : ByteArray) (w : World) (hs : s.size ≤ 9223372036854775807) (h : RatOk s) : Calls Tryz.prog 63 #[.string s] w fun e w' => ∃ v, e = .returned (.tuple #[v, .bool true]) ∧ DRatB w' v (ratVal s) 500 ∧ Below w.heap.size w w' :=
  (dparse_any s w hs).mono fun e w' hp => by
    rcases hp with ⟨_, h⟩ | ⟨hn, _⟩
    · exact h
    · exact absurd h hn
theorem QB.cut {w : World} {a b c d : Value} {q : Rat} {k j : Nat} (h : QB w a b c d q k) (hn : q.num.natAbs < pw j) (hd : q.den < pw j) : QB w a b c d q j :=
  ⟨⟨h.1.1, hn⟩, ⟨h.2.1.1, by unfold denZ; split <;> (first | exact pw_pos j | (rw [Int.natAbs_natCast]; exact hd))⟩, hd⟩
theorem DQ.cut {w : World} {a b d : Value} {q : Rat} {k j : Nat} (h : DQ w a b d q k) (hn : q.num.natAbs < pw j) (hd : q.den < pw j) : DQ w a b d q j := ⟨⟨h.1.1, hn⟩, h.2.1, hd⟩
theorem isNum_one {c : Nat} (h : 48 ≤ c ∧ c ≤ 57) : IsNum [c] := ⟨by simp, by simp, .inl rfl, fun x hx => by rw [List.mem_singleton.1 hx]; exact h⟩
end Go.Proofs.YtkekgmdofgkbcaaGreatDoor

namespace Go.Proofs.YtkekgmdofgkbcaaGreatDoor
open Go.RowKit Cin
theorem dcmp_any (v u : Value) (x y : Rat) (k j : Nat) (w : World) (h : DRatB w v x k) (h' : DRatB w u y j) (hk : k ≤ 3000) (hj : j ≤ 3000) :
    Calls Tryz.prog 45 #[v, u] w fun e w' => e = .returned (.int .i64 (cmpQ x y)) ∧ Below w.heap.size w w' := by
  obtain ⟨a, b, d, rfl, h⟩ := h
  obtain ⟨a', b', d', rfl, h'⟩ := h'
  refine go (fun w => DQ w a b d x k ∧ DQ w a' b' d' y j) [[a, b, d], [a', b', d']] [some 3, some 3] (tr := (.em (.call 85 [.g [.c 1 0, .c 1 1, .c 1 2]] [none]) (.em (.call 84 [.s (.c 2 0)] [some 2]) (.em (.call 83 [.g [.c 0 0, .c 0 1], .g [.c 3 0, .c 3 1]] [some 2]) (.em (.call 85 [.g [.c 0 0, .c 0 1, .c 0 2]] [none]) (.em (.call 84 [.s (.c 5 0)] [some 2]) (.em (.call 83 [.g [.c 1 0, .c 1 1], .g [.c 6 0, .c 6 1]] [some 2]) (.em (.call 82 [.g [.c 4 0, .c 4 1], .g [.c 7 0, .c 7 1]] [none]) (.ret (.v (.s (.c 8 0)))))))))))) (by kernel_rfl) (by kernel_rfl) (by kernel_rfl) ((mD _ _ _ _ _).and (mD _ _ _ _ _)) ⟨h, h'⟩ ⟨dpl h, dpl h', trivial⟩ ?_
  refine wRef hU (fun w b ⟨_, h'⟩ => dden_any _ y j w ⟨_, _, _, rfl, h'⟩) (fun x1 => ?_)
  refine wInt hU (fun w b ⟨h1, _⟩ => pos_any _ _ j w h1) (fun x2 y2 => ?_)
  refine wInt hU (fun w b ⟨h2, _, h, _⟩ => rimul_any _ _ _ _ k j w h.1 h2 (by omega) (by omega)) (fun x3 y3 => ?_)
  refine wRef hU (fun w b ⟨_, _, _, h, _⟩ => dden_any _ x k w ⟨_, _, _, rfl, h⟩) (fun x4 => ?_)
  refine wInt hU (fun w b ⟨h4, _⟩ => pos_any _ _ k w h4) (fun x5 y5 => ?_)
  refine wInt hU (fun w b ⟨h5, _, _, _, _, _, h'⟩ => rimul_any _ _ _ _ j k w h'.1 h5 (by omega) (by omega)) (fun x6 y6 => ?_)
  refine wVal (v := .int .i64 (cmpQ x y)) (fun w b ⟨h6, _, _, h3, _⟩ => by
    rw [← cmpQ_of]
    exact ricmp_any _ _ _ _ (k + j) (j + k) w h3 h6 (by omega) (by omega)) rfl ?_
  exact wRet fun w b _ => ⟨rfl, b⟩
end Go.Proofs.YtkekgmdofgkbcaaGreatDoor

namespace Go.Proofs.YtkekgmdofgkbcaaGreatDoor
open Go.RowKit Cin
section prims
variable {P : Program} {T T' ty : TypeId} {vs : List Value} {p q : Operand} {x y : Int}
theorem prMin (hp : pe vs p = .int .i64 x) (hq : pe vs q = .int .i64 y) : PrimOk P (.call { callee := .builtin .min, args := #[p, q], argTypes := #[T, T'] }) ty vs (.int .i64 (min x y)) := fun w => by
  have e : min x y = if y < x then y else x := by split <;> omega
  rw [e]
  simp [execOp, resolve, hp, hq, invoke, builtin, Builtin.min_, Builtin.min2]
end prims
end Go.Proofs.YtkekgmdofgkbcaaGreatDoor

namespace Go.Proofs.YtkekgmdofgkbcaaGreatDoor
open Go.RowKit Cin
theorem wrap64 {z : Int} (h0 : -9223372036854775808 ≤ z) (h1 : z ≤ 9223372036854775807) : IntKind.i64.wrap z = z := by
  unfold IntKind.wrap
  simp [IntKind.signed, IntKind.bits]
  omega
section prims
variable {P : Program} {t t2 ty : TypeId} {vs : List Value} {p q : Operand} {x y : Int}
theorem prAddI (hp : pe vs p = .int .i64 x) (hq : pe vs q = .int .i64 y) (h0 : -9223372036854775808 ≤ x + y) (h1 : x + y ≤ 9223372036854775807) : PrimOk P (.binOp .add t p q t2) ty vs (.int .i64 (x + y)) := by
  have h := prAdd (P := P) (t := t) (t2 := t2) (ty := ty) hp hq
  rwa [wrap64 h0 h1] at h
theorem prSubI (hp : pe vs p = .int .i64 x) (hq : pe vs q = .int .i64 y) (h0 : -9223372036854775808 ≤ x - y) (h1 : x - y ≤ 9223372036854775807) : PrimOk P (.binOp .sub t p q t2) ty vs (.int .i64 (x - y)) := fun w => by
  simp only [execOp, hp, hq]
  simp [eqGuard, binOp, Op.intArith, wrap64 h0 h1]
theorem prNegI (hp : pe vs p = .int .i64 x) (h0 : -9223372036854775807 ≤ x) (h1 : x ≤ 9223372036854775807) : PrimOk P (.unOp .neg t p) ty vs (.int .i64 (-x)) := fun w => by
  simp only [execOp, hp]
  have e : (0 : Int) - x = -x := by omega
  simp [Op.unary, Op.intArith, wrap64 (z := -x) (by omega) (by omega)]
theorem prMinE {T T' : TypeId} {z : Int} (hp : pe vs p = .int .i64 x) (hq : pe vs q = .int .i64 y) (h : min x y = z) : PrimOk P (.call { callee := .builtin .min, args := #[p, q], argTypes := #[T, T'] }) ty vs (.int .i64 z) := by subst h; exact prMin hp hq
end prims
abbrev NB (w : World) (x : Value) (n k : Nat) : Prop := NatB 190 w (.agg #[x]) n k
theorem nbc {w : World} {v : Value} {n k : Nat} (h : NatB 190 w v n k) : ∃ x, v = .agg #[x] ∧ NB w x n k := by
  obtain ⟨ad, len, cap, rfl⟩ := h.shape2
  exact ⟨_, rfl, h⟩
theorem npl {w : World} {x : Value} {n k : Nat} (h : NB w x n k) : [x].all Value.oneCell' = true := by
  obtain ⟨ad, len, cap, e⟩ := h.shape2
  cases e; rfl
theorem mN (x : Value) (n k : Nat) : Mono DD fun w => NB w x n k := monoNat hU _ _ _
theorem cut_eq {n : Int} (h0 : 0 ≤ n) (h1 : n ≤ 1048576) : cut n = n.toNat := by unfold cut; rw [if_neg (by omega), if_neg (by omega)]
theorem shrI (v : Value) (x : Nat) (n : Int) (k : Nat) (w : World) (h : NatB 190 w v x k) (hk : k ≤ 1000000) (h0 : 0 ≤ n) (h1 : n ≤ 1048576) :
    Calls Tryz.prog 228 #[v, .int .i64 n] w fun e w' => ∃ v', e = .returned v' ∧ NatB 190 w' v' (x / 2 ^ n.toNat) k ∧ Below w.heap.size w w' :=
  (shr_any v x n k w h.1 h.2 (by omega)).mono fun _ _ ⟨v', e, hn, hb⟩ => ⟨v', e, ⟨by rw [← cut_eq h0 h1]; exact hn, Nat.lt_of_le_of_lt (Nat.div_le_self _ _) h.2⟩, hb⟩
theorem bitsI (v : Value) (x k : Nat) (w : World) (h : NatB 190 w v x k) (hk : k ≤ 1000000) :
    Calls Tryz.prog 178 #[v] w fun e w' => e = .returned (.int .i64 (blOf x : Nat)) ∧ Below w.heap.size w w' :=
  (bits_any v x k w h.1 h.2 (by omega)).mono fun _ _ ⟨j, e, hn, hb⟩ => ⟨by rw [e, hn.unique (blOf_ok x)], hb⟩
theorem zerosI (v : Value) (x k : Nat) (w : World) (hT : Tabs w) (h : NatB 190 w v x k) (hk : k ≤ 1000000) :
    Calls Tryz.prog 177 #[v] w fun e w' => e = .returned (.int .i64 (tzOf x : Nat)) ∧ Below w.heap.size w w' :=
  (zeros_any v x k w hT h.1 h.2 (by omega)).mono fun _ _ ⟨j, e, hn, hb⟩ => ⟨by rw [e, hn.unique (tzOf_ok x)], hb⟩
theorem tz_pw {x k : Nat} (h : x < pw k) : tzOf x ≤ 32 * k := by rw [pw_two] at h; exact tzOf_le h
theorem bl_pw {x k : Nat} (h : x < pw k) : blOf x ≤ 32 * k := by rw [pw_two] at h; exact blOf_le h
def Zmu : List Value → Nat
  | .int _ i :: _ => i.toNat
  | _ => 0
def Zinv (n : Int) (x y k j : Nat) (cs : List Value) (w : World) : Prop := ∃ (m : Int) (a : Value), cs = [.int .i64 m, a] ∧ (m = n ∨ (m = n - 1048576 ∧ 0 < n)) ∧ NB w a (if m = n then x else y) (if m = n then k else j)
theorem Zinv.mono (n : Int) (x y k j : Nat) (cs : List Value) : Mono DD (Zinv n x y k j cs) := fun _ _ e ⟨m, a, h1, h2, h3⟩ => ⟨m, a, h1, h2, h3.ext e hU⟩
theorem Zinv.at {n m : Int} {x y k j : Nat} {a : Value} {w : World} (h : Zinv n x y k j [.int .i64 m, a] w) : NB w a (if m = n then x else y) (if m = n then k else j) := by
  obtain ⟨m', a', e, _, h⟩ := h
  injection e with e1 e2
  injection e2 with e2 _
  injection e1 with _ e1
  subst e1 e2
  exact h
theorem sdn_any (v : Value) (x : Nat) (n : Int) (k : Nat) (w : World) (h : NatB 190 w v x k) (hk : k ≤ 1000000) (h0 : -9000000000000000000 ≤ n) (h1 : n ≤ 1048576) :
    Calls Tryz.prog 213 #[v, .int .i64 n] w fun e w' => ∃ v', e = .returned v' ∧ NatB 190 w' v' (x / 2 ^ n.toNat) k ∧ Below w.heap.size w w' := by
  obtain ⟨a, rfl, h⟩ := nbc h
  refine go (fun w => NB w a x k) [[a], [.int .i64 n]] [some 1, none] (tr := (.loop 0 [.c 1 0, .c 0 0] (.em (.pr (.binOp .gtr 3 (.tmp 0) (.const (.int .i64 0)) 3) 4 [.s (.c 2 0), .s (.k (.int .i64 0))]) (.cond (.c 3 0) (.em (.pr (.call (.mk (.builtin .min) #[.tmp 0, .const (.int .i64 1048576)] #[3, 3])) 3 [.s (.c 2 0), .s (.k (.int .i64 1048576))]) (.em (.call 228 [.g [.c 2 1], .s (.c 4 0)] [some 1]) (.em (.pr (.binOp .sub 3 (.tmp 0) (.const (.int .i64 1048576)) 3) 3 [.s (.c 2 0), .s (.k (.int .i64 1048576))]) (.back 0 [.c 6 0, .c 5 0])))) (.ret (.v (.g [.c 2 1]))))))) (by kernel_rfl) (by kernel_rfl) (by kernel_rfl) (mN _ _ _) h ⟨npl h, rfl, trivial⟩ ?_
  refine wLoop (Zinv n x (x / 2 ^ n.toNat) k k) (Zinv.mono _ _ _ _ _) Zmu (fun w h => ⟨n, a, rfl, .inl rfl, by rw [if_pos rfl, if_pos rfl]; exact h⟩) (fun cs _ => ?_)
  intro hm u hF
  obtain ⟨⟨m, a1, rfl, hc, _⟩, _⟩ := id hF
  refine wMono (G := fun w => NB w a1 (if m = n then x else x / 2 ^ n.toNat) (if m = n then k else k)) (mN _ _ _) (fun w h => h.1.at) ?_ hm u hF
  clear hm hF
  refine wPr (prGt rfl rfl) rfl ?_
  rcases hc with rfl | ⟨rfl, hn⟩
  · refine wIf _ rfl (fun e => ?_) (fun e => ?_)
    · have hn : 0 < m := by simpa using e
      refine wPr (prMinE (z := m) rfl rfl (by show min m (1048576 : Int) = m; omega)) rfl ?_
      refine wNat hU (n := x / 2 ^ m.toNat) (m := k) (fun w b h => by
        rw [if_pos rfl, if_pos rfl] at h
        exact shrI _ x m k w h hk (by omega) h1) (fun x1 => ?_)
      refine wPr (prSubI rfl rfl (by show _ ≤ m - (1048576 : Int); omega) (by show m - (1048576 : Int) ≤ _; omega)) rfl ?_
      refine wBack fun w ⟨h1', _⟩ => ⟨⟨m - 1048576, x1, rfl, .inr ⟨rfl, hn⟩, by rw [if_neg (by omega), if_neg (by omega)]; exact h1'⟩, ?_⟩
      show (m - 1048576).toNat < m.toNat
      omega
    · have hn : ¬ 0 < m := by simpa using e
      refine wRet fun w b h => ⟨_, rfl, ?_, b⟩
      rw [if_pos rfl, if_pos rfl] at h
      rw [show m.toNat = 0 by omega, Nat.pow_zero, Nat.div_one]
      exact h
  · refine wFalse (by show Value.bool (decide (0 < n - 1048576)) = _; rw [decide_eq_false (by omega)]) ?_
    refine wRet fun w b h => ⟨_, rfl, ?_, b⟩
    rw [if_neg (by omega), if_neg (by omega)] at h
    exact h
def DyQ (w : World) (x y : Value) (q : Rat) (k K : Nat) : Prop := IB w x y (oddOf q) k ∧ Dy q ∧ -(K : Int) ≤ expOf q ∧ expOf q ≤ K
def DyB (w : World) (v : Value) (q : Rat) (k K : Nat) : Prop := ∃ x y, v = .agg #[x, y, .int .i64 (expOf q)] ∧ DyQ w x y q k K
theorem mY (x y : Value) (q : Rat) (k K : Nat) : Mono DD fun w => DyQ w x y q k K := fun _ _ e ⟨h1, h2⟩ => ⟨h1.ext e hU, h2⟩
theorem ypl {w : World} {x y : Value} {q : Rat} {k K : Nat} (h : DyQ w x y q k K) (c : Value) (hc : c.oneCell' = true) : [x, y, c].all Value.oneCell' = true := by
  have p := ipl h.1
  simp only [List.all_cons, List.all_nil, Bool.and_true, Bool.and_eq_true] at p ⊢
  exact ⟨p.1, p.2, hc⟩
theorem wDy {w0 : World} {Post : Ending → World → Prop} {F : World → Prop} {L : LC} {E : Env} {tr : Tr} {f : FuncId} {ar : List V1} {args : Array Value} {q : Rat} {k K : Nat}
    (hc : ∀ w, Below w0.heap.size w0 w → F w → Calls Tryz.prog f args w fun e w' => ∃ v, e = .returned v ∧ DyB w' v q k K ∧ Below w.heap.size w w')
    {E' : Value → Value → Env} (hk : ∀ a b, Wk Tryz.prog w0 DD DD Post L (fun w => DyQ w a b q k K ∧ F w) tr (E' a b)) (ha : (ar.map (V1.den [] E)).toArray = args := by rfl) (hE : ∀ a b, E ++ [[a, b, .int .i64 (expOf q)]] = E' a b := by intros; (simp only [List.cons_append, List.nil_append]) <;> exact rfl) : Wk Tryz.prog w0 DD DD Post L F (.em (.call f ar [some 3]) tr) E := by
  intro hm u hF w e b
  subst ha
  refine (hc w b (hm u.w w e.ext hF)).mono ?_
  rintro e1 w' ⟨v, rfl, ⟨a, b, rfl, hv⟩, h4⟩
  exact ⟨[a, b, .int .i64 (expOf q)], rfl, ypl hv _ rfl, h4, hE _ _ ▸ hk _ _ ((mY _ _ _ _ _).and hm) (u.more w w') ⟨hv, hm u.w w' (e.below h4).ext hF⟩⟩
theorem zeroDy (w : World) (k K : Nat) : DyB w (.agg #[.bool false, .slice none 0 0, .int .i64 0]) 0 k K := by
  refine ⟨.bool false, .slice none 0 0, by rw [exp_zero], ?_, dy_zero.dy, by rw [exp_zero]; omega, by rw [exp_zero]; omega⟩
  rw [odd_zero]; exact IntB.zero _ _ _
theorem strip_any (v : Value) (m e : Int) (k K : Nat) (w : World) (hT : Tabs w) (h : IntB 190 w v m k) (hk : k ≤ 32768) (h0 : -(K : Int) ≤ e) (h1 : e ≤ K) (hK : K ≤ 1000000000000) :
    Calls Tryz.prog 179 #[v, .int .i64 e] w fun e' w' => ∃ v', e' = .returned v' ∧ DyB w' v' ((m : Rat) * tp e) k (K + 32 * k) ∧ Below w.heap.size w w' := by
  obtain ⟨x, y, rfl, h⟩ := ibc h
  have htz := tz_pw h.2
  refine go (fun w => IB w x y m k) [[x, y], [.int .i64 e]] [some 2, none] (tr := (.em (.call 92 [.g [.c 0 0, .c 0 1]] [none]) (.em (.pr (.binOp .eql 3 (.tmp 0) (.const (.int .i64 0)) 3) 4 [.s (.c 2 0), .s (.k (.int .i64 0))]) (.cond (.c 3 0) (.ret (.v (.g [.k (.bool false), .k (.slice none 0 0), .k (.int .i64 0)]))) (.em (.call 130 [.g [.c 0 0, .c 0 1]] [some 1]) (.em (.call 177 [.g [.c 4 0]] [none]) (.em (.pr (.binOp .add 3 (.tmp 0) (.tmp 1) 3) 3 [.s (.c 1 0), .s (.c 5 0)]) (.em (.call 92 [.g [.c 0 0, .c 0 1]] [none]) (.em (.pr (.binOp .lss 3 (.tmp 0) (.const (.int .i64 0)) 3) 4 [.s (.c 7 0), .s (.k (.int .i64 0))]) (.em (.call 213 [.g [.c 4 0], .s (.c 5 0)] [some 1]) (.em (.call 128 [.s (.c 8 0), .g [.c 9 0]] [some 2]) (.ret (.v (.g [.c 10 0, .c 10 1, .c 6 0])))))))))))))) (by kernel_rfl) (by kernel_rfl) (by kernel_rfl) (mI _ _ _ _) h ⟨ipl h, rfl, trivial⟩ ?_
  refine wVal (fun w b h => sign_any _ m k w h (by omega)) rfl ?_
  refine wPr (prEq rfl rfl) rfl ?_
  refine wIf _ rfl (fun e1 => ?_) (fun e1 => ?_)
  · have e2 : m = 0 := by have := (sgn_zero m).symm.trans e1; simpa using this
    refine wRet fun w b _ => ⟨_, rfl, ?_, b⟩
    rw [(dv_sign m e).2.1 e2]
    exact zeroDy w _ _
  · have e2 : m ≠ 0 := by have := (sgn_zero m).symm.trans e1; simpa using this
    have hd := isDy_of (e := e) e2 (tzOf_ok m.natAbs) rfl
    refine wNat hU (fun w b h => abs_any _ m k w h (by omega)) (fun x1 => ?_)
    refine wVal (fun w b ⟨h1, _⟩ => zerosI _ m.natAbs k w (hT.below b) h1 (by omega)) rfl ?_
    refine wPr (prAddI rfl rfl (by omega) (by omega)) rfl ?_
    refine wVal (fun w b ⟨_, h⟩ => sign_any _ m k w h (by omega)) rfl ?_
    refine wPr (prLt rfl rfl) rfl ?_
    refine wNat hU (fun w b ⟨h1, _⟩ => sdn_any _ m.natAbs (tzOf m.natAbs : Nat) k w h1 (by omega) (by omega) (by omega)) (fun x2 => ?_)
    refine wInt hU (fun w b ⟨h2, _⟩ => from_any _ _ _ k w h2 (by omega)) (fun x3 y3 => ?_)
    refine wRet fun w b ⟨h3, _⟩ => ⟨_, rfl, ⟨x3, y3, by rw [hd.exp]; rfl, ?_, hd.dy, by rw [hd.exp]; omega, by rw [hd.exp]; omega⟩, b⟩
    rw [sgn_neg] at h3
    rw [hd.odd]
    by_cases hm : m < 0
    · rw [if_pos hm]; rw [decide_eq_true hm] at h3; exact h3
    · rw [if_neg hm]; rw [decide_eq_false hm] at h3; exact h3
theorem DyQ.neg {w : World} {x y x' y' : Value} {q : Rat} {k K : Nat} (h : DyQ w x y q k K) (h' : IB w x' y' (-oddOf q) k) : DyQ w x' y' (-q) k K := ⟨by rw [h.2.1.oddNeg]; exact h', h.2.1.neg, by rw [h.2.1.expNeg]; exact h.2.2.1, by rw [h.2.1.expNeg]; exact h.2.2.2⟩
end Go.Proofs.YtkekgmdofgkbcaaGreatDoor

namespace Go.Proofs.YtkekgmdofgkbcaaGreatDoor
open Go.RowKit Cin
theorem minus_tl {s : ByteArray} (h : negT s = true) : (⟨#[45]⟩ : ByteArray) ++ tl s = s := by
  obtain ⟨⟨l⟩⟩ := s
  cases l with
  | nil => unfold negT at h; simp [byts] at h; exact absurd h.2 (by decide)
  | cons x l =>
    have hx : lim (byts ⟨⟨x :: l⟩⟩) 0 = x.toNat := rfl
    unfold negT at h
    rw [hx] at h
    simp only [Bool.and_eq_true, decide_eq_true_eq] at h
    have e : x = 45 := UInt8.toNat_inj.1 h.2
    subst e
    apply ByteArray.ext
    apply Array.toList_inj.1
    simp [tl, ByteArray.data_extract]
    exact List.take_of_length_le (by show l.length ≤ l.length + 1 - 1; omega)
theorem intS_intVal {s : ByteArray} (h : IsInt s) : intS (intVal s) = s := by
  have hd := decS_decL h.1
  by_cases hn : negT s = true
  · have h0 := h.2 hn
    have hz : intVal s < 0 := by unfold intVal sg; rw [hn, if_pos rfl]; omega
    rw [intS_neg hz]
    have e : (intVal s).natAbs = decL (byts (digT s)) := by unfold intVal; rw [sg_natAbs]
    rw [e, hd]
    unfold digT
    rw [if_pos hn]
    exact minus_tl hn
  · have hn' : negT s = false := by simpa using hn
    have hz : ¬ intVal s < 0 := by unfold intVal sg; rw [hn', if_neg (by simp)]; omega
    rw [intS_pos hz]
    have e : (intVal s).natAbs = decL (byts (digT s)) := by unfold intVal; rw [sg_natAbs]
    rw [e, hd]
    unfold digT
    rw [if_neg hn]
end Go.Proofs.YtkekgmdofgkbcaaGreatDoor

namespace Go.Proofs.YtkekgmdofgkbcaaGreatDoor
open Go.RowKit Cin
theorem parts_join {s : ByteArray} (h : 0 ≤ slashAt s) : nPart s ++ (⟨#[47]⟩ : ByteArray) ++ dPart s = s := by
  obtain ⟨o, ho⟩ := Int.eq_ofNat_of_zero_le h
  have h1 := (Lib.indexByte_some (show Lib.indexByte s.data.toList 47 = (o : Int) from ho)).1
  have hlt := (List.getElem?_eq_some_iff.1 h1).1
  have hsz : s.data.toList.length = s.size := bytes_len s
  apply ByteArray.ext
  apply Array.toList_inj.1
  unfold nPart dPart
  rw [ho]
  simp only [Int.toNat_natCast, ByteArray.data_append, ByteArray.data_extract, Array.toList_append, Array.toList_extract, List.extract_eq_take_drop, List.drop_zero, Nat.sub_zero]
  have e0 : (s.data.toList.drop (o + 1)).take (s.size - (o + 1)) = s.data.toList.drop (o + 1) := List.take_of_length_le (by rw [List.length_drop]; omega)
  rw [e0]
  conv => rhs; rw [← List.take_append_drop o s.data.toList]
  rw [List.append_assoc]
  congr 1
  rw [List.drop_eq_getElem_cons hlt]
  have := (List.getElem?_eq_some_iff.1 h1).2
  rw [this]; rfl
theorem ratS_ratVal {s : ByteArray} (h : RatOk s) : ratS (ratVal s) = s := by
  rcases h with ⟨hneg, hi⟩ | ⟨hpos, hi, hj, e1, e2⟩
  · obtain ⟨q1, q2⟩ := ratVal_int hneg
    unfold ratS
    rw [if_pos q2, q1, intS_intVal hi]
  · obtain ⟨q1, q2⟩ := ratVal_quo hpos e1 e2
    unfold ratS
    rw [if_neg (by omega), q1, q2, intS_intVal hi, intS_pos (by omega), Int.natAbs_natCast, decS_decL hj]
    exact parts_join hpos
theorem iparseN (s : ByteArray) (w : World) (h : ¬ IsInt s) : Calls Tryz.prog 110 #[.string s] w fun e w' => e = .returned (.tuple #[.agg #[.bool false, .slice none 0 0], .int .i64 2]) ∧ Below w.heap.size w w' :=
  (iparse_any s w).mono fun e w' hp => by
    rcases hp with ⟨hn, _⟩ | ⟨_, h⟩
    · exact absurd hn h
    · exact h
theorem int_big {r : ByteArray} (h : IsInt r) (h1 : 1 < intVal r) : IsNum (byts r) ∧ intVal r = (decL (byts r) : Nat) := by
  have hn : negT r = false := by
    cases hneg : negT r with
    | false => rfl
    | true =>
      unfold intVal at h1
      rw [hneg] at h1
      unfold sg at h1
      simp at h1
      omega
  have hd : digT r = r := by unfold digT; rw [hn]; rfl
  have h2 := h.1
  rw [hd] at h2
  refine ⟨h2, ?_⟩
  unfold intVal
  rw [hn, hd]; rfl
set_option maxHeartbeats 1000000 in
theorem qparse_no (s : ByteArray) (w : World) (hs : s.size ≤ 9223372036854775807) (h : ¬ RatOk s) :
    Calls Tryz.prog 64 #[.string s] w fun e w' => e = .returned (.tuple #[.agg #[.bool false, .slice none 0 0, .bool false, .slice none 0 0], .int .i64 2]) ∧ Below w.heap.size w w' := by
  refine go (fun _ => True) [[.string s]] [none] (tr := (.em (.call 109 [.s (.c 0 0), .s (.k (.string ⟨#[47]⟩))] [none, none, none]) (.em (.call 110 [.s (.c 1 0)] [some 2, none]) (.em (.pr (.binOp .neq 27 (.tmp 0) (.const (.int .i64 0)) 27) 4 [.s (.c 2 2), .s (.k (.int .i64 0))]) (.cond (.c 3 0) (.ret (.t [.g [.k (.bool false), .k (.slice none 0 0), .k (.bool false), .k (.slice none 0 0)], .s (.k (.int .i64 2))])) (.em (.pr (.unOp .not 4 (.tmp 0)) 4 [.s (.c 1 2)]) (.cond (.c 4 0) (.ret (.t [.g [.c 2 0, .c 2 1, .k (.bool false), .k (.slice none 0 0)], .s (.k (.int .i64 0))])) (.em (.call 110 [.s (.c 1 1)] [some 2, none]) (.em (.pr (.binOp .neq 27 (.tmp 0) (.const (.int .i64 0)) 27) 4 [.s (.c 5 2), .s (.k (.int .i64 0))]) (.cond (.c 6 0) (.ret (.t [.g [.k (.bool false), .k (.slice none 0 0), .k (.bool false), .k (.slice none 0 0)], .s (.k (.int .i64 2))])) (.em (.call 111 [.s (.k (.int .i64 1))] [some 2]) (.em (.call 72 [.g [.c 5 0, .c 5 1], .g [.c 7 0, .c 7 1]] [none]) (.em (.pr (.binOp .leq 3 (.tmp 0) (.const (.int .i64 0)) 3) 4 [.s (.c 8 0), .s (.k (.int .i64 0))]) (.cond (.c 9 0) (.ret (.t [.g [.k (.bool false), .k (.slice none 0 0), .k (.bool false), .k (.slice none 0 0)], .s (.k (.int .i64 2))])) (.em (.call 76 [.g [.c 2 0, .c 2 1], .g [.c 5 0, .c 5 1]] [some 2]) (.em (.call 112 [.g [.c 10 0, .c 10 1]] [none]) (.em (.pr (.unOp .not 4 (.tmp 0)) 4 [.s (.c 11 0)]) (.cond (.c 12 0) (.ret (.t [.g [.k (.bool false), .k (.slice none 0 0), .k (.bool false), .k (.slice none 0 0)], .s (.k (.int .i64 2))])) (.ret (.t [.g [.c 2 0, .c 2 1, .c 5 0, .c 5 1], .s (.k (.int .i64 0))])))))))))))))))))))) (by kernel_rfl) (by kernel_rfl) (by kernel_rfl) Mono.true trivial ⟨rfl, trivial⟩ ?_
  by_cases hpos : 0 ≤ slashAt s
  · refine wKnown [.string (nPart s), .string (dPart s), .bool true] (fun w b _ => cut_any s w hs) (by rw [if_pos hpos]; rfl) rfl ?_
    by_cases hi : IsInt (nPart s)
    · refine wIntV hU (fun w b _ => iparseY _ w hi) rfl (fun x1 y1 => ?_)
      refine wPr (prNe rfl rfl) rfl ?_
      refine wFalse rfl ?_
      refine wPr (prNot rfl) rfl ?_
      refine wFalse rfl ?_
      by_cases hj : IsInt (dPart s)
      · refine wIntV hU (fun w b _ => iparseY _ w hj) rfl (fun x2 y2 => ?_)
        refine wPr (prNe rfl rfl) rfl ?_
        refine wFalse rfl ?_
        refine wInt hU (fun w b _ => iof_any 1 w (by decide) (by decide)) (fun x3 y3 => ?_)
        refine wVal (fun w b ⟨h3, h2, _⟩ => icmp_any _ _ (intVal (dPart s)) 1 500 2 w h2 h3 (by decide) (by decide)) rfl ?_
        refine wPr (prLe rfl rfl) rfl ?_
        by_cases h1 : 1 < intVal (dPart s)
        · obtain ⟨n1, n2⟩ := int_big hj h1
          have hg : Nat.gcd (intVal (nPart s)).natAbs (intVal (dPart s)).natAbs ≠ 1 := fun e => h (.inr ⟨hpos, hi, n1, by omega, by rw [n2, Int.natAbs_natCast, Nat.gcd_comm] at e; exact e⟩)
          refine wFalse (by show Value.bool (decide _) = _; rw [decide_eq_false (by unfold cmpZ; rw [if_neg (by omega), if_pos h1]; decide)]) ?_
          refine wInt hU (fun w b ⟨_, h2, h1, _⟩ => qgcd_any _ _ _ _ 500 500 w h1 h2 (by decide) (by decide)) (fun x4 y4 => ?_)
          refine wVal (v := .bool false) (fun w b ⟨h4, _⟩ => by
            have e : decide (((Nat.gcd (intVal (nPart s)).natAbs (intVal (dPart s)).natAbs : Nat) : Int) = 1) = false := decide_eq_false (by omega)
            rw [← e]
            exact isOne_any _ _ _ w h4 (by decide)) rfl ?_
          refine wPr (prNot rfl) rfl ?_
          refine wTrue rfl ?_
          exact wRet fun w b _ => ⟨rfl, b⟩
        · refine wTrue (by show Value.bool (decide _) = _; rw [decide_eq_true (by unfold cmpZ; rw [if_neg h1]; split <;> decide)]) ?_
          exact wRet fun w b _ => ⟨rfl, b⟩
      · refine wKnown [.bool false, .slice none 0 0, .int .i64 2] (fun w b _ => iparseN _ w hj) rfl rfl ?_
        refine wPr (prNe rfl rfl) rfl ?_
        refine wTrue rfl ?_
        exact wRet fun w b _ => ⟨rfl, b⟩
    · refine wKnown [.bool false, .slice none 0 0, .int .i64 2] (fun w b _ => iparseN _ w hi) rfl rfl ?_
      refine wPr (prNe rfl rfl) rfl ?_
      refine wTrue rfl ?_
      exact wRet fun w b _ => ⟨rfl, b⟩
  · have hi : ¬ IsInt s := fun hi => h (.inl ⟨by omega, hi⟩)
    refine wKnown [.string s, .string ⟨#[]⟩, .bool false] (fun w b _ => cut_any s w hs) (by rw [if_neg hpos]; rfl) rfl ?_
    refine wKnown [.bool false, .slice none 0 0, .int .i64 2] (fun w b _ => iparseN _ w hi) rfl rfl ?_
    refine wPr (prNe rfl rfl) rfl ?_
    refine wTrue rfl ?_
    exact wRet fun w b _ => ⟨rfl, b⟩
end Go.Proofs.YtkekgmdofgkbcaaGreatDoor
