/- The law NatTells. -/
import Derived.Test.YtpchnejdbmoicaaDoorNE
import Derived.Test.YtpchnejdbmoicaaDoorRL
import Derived.Test.YtpchnejdbmoicaaDoorRN
import Derived.Test.YtpchnejdbmoicaaDoorRZ
import Derived.Test.YtpchnejdbmoicaaDoorYe
import Derived.Test.YtpchnejdbmoicaaDoorYg
namespace Go.Proofs.YtpchnejdbmoicaaDoor
open Go.RowKit Cin

theorem isBl_ex (x : Nat) : ∃ k, IsBl x k := by
  by_cases h : x = 0
  · subst h; exact ⟨0, IsBl.zero⟩
  · exact ⟨x.log2 + 1, Nat.lt_log2_self, .inr (Nat.log2_self_le h)⟩
theorem isTz_ex (x : Nat) : ∃ k, IsTz x k := by
  induction x using Nat.strongRecOn with
  | ind x ih =>
    by_cases h0 : x = 0
    · exact ⟨0, .inl ⟨h0, rfl⟩⟩
    · by_cases h1 : x % 2 = 1
      · exact ⟨0, .inr ⟨x / 2, by rw [Nat.pow_zero]; omega⟩⟩
      · obtain ⟨k, hk⟩ := ih (x / 2) (by omega)
        rcases hk with ⟨h, _⟩ | ⟨m, hm⟩
        · omega
        · exact ⟨k + 1, .inr ⟨m, by rw [Nat.pow_succ, Nat.mul_assoc, Nat.mul_comm 2, ← Nat.mul_assoc, ← hm]; omega⟩⟩
theorem nparseY1 (s : ByteArray) (w : World) (h : IsNum (byts s)) : Calls Tryd.prog 11 #[.string s] w fun e w' => ∃ v, e = .returned (.tuple #[v, .bool true]) ∧ (RefV 68 w' v (decL (byts s)) ∧ decL (byts s) < pw 500) ∧ Below w.heap.size w w' :=
  (refParse_any s w).mono fun e w' hp => by
    rcases hp with ⟨hn, v, e1, h1, h2⟩ | ⟨hn, _⟩
    · exact ⟨v, e1, ⟨h1, isNum_lt hn⟩, h2⟩
    · exact absurd h hn
theorem nparseN1 (s : ByteArray) (w : World) (h : ¬ IsNum (byts s)) : Calls Tryd.prog 11 #[.string s] w fun e w' => e = .returned (.tuple #[.slice none 0 0, .bool false]) ∧ Below w.heap.size w w' :=
  (refParse_any s w).mono fun e w' hp => by
    rcases hp with ⟨hn, _⟩ | ⟨_, h⟩
    · exact absurd hn h
    · exact h
/-- What the search for the line keeps. -/
def Srch (s : ByteArray) (cs : List Value) : Prop := ∃ (p : Int) (i : Nat), cs = [.int .i64 p, .int .i64 i] ∧ i ≤ s.size ∧
  ((p = -1 ∧ ∀ k, k < i → s.data.toList[k]? ≠ some 47) ∨ (∃ o : Nat, p = o ∧ o < i ∧ s.data.toList[o]? = some 47 ∧ ∀ k, k < o → s.data.toList[k]? ≠ some 47))
theorem index_of {l : List UInt8} {c : UInt8} {o : Nat} (h : l[o]? = some c) (hn : ∀ k, k < o → l[k]? ≠ some c) : Lib.indexByte l c = o := by
  by_cases h0 : Lib.indexByte l c < 0
  · have := Lib.indexByte_ge l c
    exact absurd h (Lib.indexByte_none (show Lib.indexByte l c = -1 by omega) o)
  · obtain ⟨m, hm⟩ := Int.eq_ofNat_of_zero_le (Int.not_lt.1 h0)
    obtain ⟨h1, h2⟩ := Lib.indexByte_some hm
    rcases Nat.lt_trichotomy m o with h3 | h3 | h3
    · exact absurd h1 (hn m h3)
    · omega
    · exact absurd h (h2 o h3)
theorem index_no {l : List UInt8} {c : UInt8} (hn : ∀ k, k < l.length → l[k]? ≠ some c) : Lib.indexByte l c = -1 := by
  by_cases h0 : Lib.indexByte l c < 0
  · have := Lib.indexByte_ge l c; omega
  · obtain ⟨m, hm⟩ := Int.eq_ofNat_of_zero_le (Int.not_lt.1 h0)
    obtain ⟨h1, _⟩ := Lib.indexByte_some hm
    exact absurd h1 (hn m (List.getElem?_eq_some_iff.1 h1).1)
theorem bytes_len (s : ByteArray) : s.data.toList.length = s.size := by rw [Array.length_toList]; rfl
def Smu (s : ByteArray) : List Value → Nat
  | [_, .int _ i] => s.size - i.toNat
  | _ => 0
theorem wrap_small {z : Int} (h0 : 0 ≤ z) (h1 : z ≤ 9223372036854775807) : IntKind.i64.wrap z = z := by
  unfold IntKind.wrap
  simp [IntKind.signed, IntKind.bits]
  omega

set_option maxHeartbeats 4000000 in
/-- The law NatTells holds of every text. -/
theorem natTells_any (s : ByteArray) (w : World) (hT : Tabs w) :
    Calls Tryd.prog 3 #[.string s] w fun e w' => e = .returned (.bool true) ∧ Below w.heap.size w w' := by
  refine go1 (fun _ => True) [[.string s]] [none] (tr := (.em (.call 9 [] [none]) (.em (.pr (.unOp .not 4 (.tmp 0)) 4 [.s (.c 1 0)]) (.cond (.c 2 0) (.ret (.v (.s (.k (.bool false))))) (.em (.pr (.call (.mk (.builtin .len) #[.tmp 0] #[9])) 3 [.s (.c 0 0)]) (.em (.pr (.binOp .gtr 3 (.tmp 0) (.const (.int .i64 5000)) 3) 4 [.s (.c 3 0), .s (.k (.int .i64 5000))]) (.cond (.c 4 0) (.ret (.v (.s (.k (.bool true))))) (.em (.call 10 [.s (.c 0 0)] [some 1, none]) (.em (.call 11 [.s (.c 0 0)] [none, none]) (.em (.pr (.unOp .not 4 (.tmp 0)) 4 [.s (.c 6 1)]) (.cond (.c 7 0) (.em (.pr (.binOp .eql 26 (.tmp 0) (.const (.int .i64 2)) 26) 4 [.s (.c 5 1), .s (.k (.int .i64 2))]) (.cond (.c 8 0) (.em (.call 12 [.g [.c 5 0]] [none]) (.em (.pr (.binOp .eql 9 (.tmp 0) (.const (.string ⟨#[48]⟩)) 9) 4 [.s (.c 9 0), .s (.k (.string ⟨#[48]⟩))]) (.ret (.v (.s (.c 10 0)))))) (.ret (.v (.s (.k (.bool false))))))) (.em (.pr (.binOp .eql 26 (.tmp 0) (.const (.int .i64 0)) 26) 4 [.s (.c 5 1), .s (.k (.int .i64 0))]) (.cond (.c 8 0) (.em (.call 12 [.g [.c 5 0]] [none]) (.em (.pr (.binOp .eql 9 (.tmp 0) (.tmp 1) 9) 4 [.s (.c 9 0), .s (.c 0 0)]) (.cond (.c 10 0) (.em (.call 13 [.g [.c 5 0]] [none]) (.em (.call 14 [.s (.c 6 0)] [none]) (.em (.pr (.binOp .eql 9 (.tmp 0) (.tmp 1) 9) 4 [.s (.c 11 0), .s (.c 12 0)]) (.cond (.c 13 0) (.em (.call 15 [.g [.c 5 0]] [none]) (.em (.call 16 [.s (.c 6 0)] [none]) (.em (.pr (.binOp .eql 3 (.tmp 0) (.tmp 1) 3) 4 [.s (.c 14 0), .s (.c 15 0)]) (.cond (.c 16 0) (.em (.call 17 [.g [.c 5 0]] [none]) (.em (.call 18 [.s (.c 6 0)] [none]) (.em (.pr (.binOp .eql 3 (.tmp 0) (.tmp 1) 3) 4 [.s (.c 17 0), .s (.c 18 0)]) (.cond (.c 19 0) (.em (.call 19 [.g [.c 5 0]] [none]) (.em (.call 20 [.s (.c 6 0)] [none]) (.em (.pr (.binOp .eql 36 (.tmp 0) (.tmp 1) 36) 4 [.s (.c 20 0), .s (.c 21 0)]) (.ret (.v (.s (.c 22 0))))))) (.ret (.v (.s (.k (.bool false))))))))) (.ret (.v (.s (.k (.bool false))))))))) (.ret (.v (.s (.k (.bool false))))))))) (.ret (.v (.s (.k (.bool false)))))))) (.ret (.v (.s (.k (.bool false)))))))))))))))))) (by kernel_rfl) (by kernel_rfl) (by kernel_rfl) Mono.true trivial ⟨rfl, trivial⟩ ?_
  refine wVal (fun w b _ => alive_any w (hT.below b)) rfl ?_
  refine wPr (prNot rfl) rfl ?_
  refine wFalse rfl ?_
  refine wPr (prLenS h1Str rfl) rfl ?_
  refine wPr (prGt rfl rfl) rfl ?_
  refine wIf _ rfl (fun e => ?_) (fun e => ?_)
  · exact wRet fun w b _ => ⟨rfl, b⟩
  by_cases hi : IsNum (byts s)
  · have htx := decS_decL hi
    refine wNatV (n := decL (byts s)) (m := 500) (fun w b _ => (parse_yes s w hi).mono fun e w' ⟨v, h1, h2, h3⟩ => ⟨v, h1, ⟨h2, isNum_lt hi⟩, h3⟩) rfl (fun _ => ?_)
    refine wRefV h1U (fun w b _ => nparseY1 s w hi) rfl (fun _ => ?_)
    refine wPr (prNot rfl) rfl ?_
    refine wFalse rfl ?_
    refine wPr (prEq rfl rfl) rfl ?_
    refine wTrue rfl ?_
    generalize decL (byts s) = x at *
    obtain ⟨k, hk⟩ := isBl_ex x
    obtain ⟨c, hc⟩ := isTz_ex x
    refine wVal (fun w b ⟨_, h, _⟩ => text_any _ _ 500 w h (by decide) (hT.below b)) rfl ?_
    refine wPr (prSEq rfl rfl) rfl ?_
    refine wTrue (by show Value.bool (_ == _) = _; rw [htx, beq_self_eq_true]) ?_
    refine wVal (v := .string (byS x ((k + 7) / 8))) (fun w b ⟨_, h, _⟩ => (bytes_any _ x 500 w h.1 h.2 (by decide)).mono fun e w' ⟨k', h1, h2, h3⟩ => ⟨by rw [h1, h2.unique hk], h3⟩) rfl ?_
    refine wVal (v := .string (byS x ((k + 7) / 8))) (fun w b ⟨h, _⟩ => (rbytes_any _ x 500 w h (by decide)).mono fun e w' ⟨k', h1, h2, h3⟩ => ⟨by rw [h1, h2.unique hk], h3⟩) rfl ?_
    refine wPr (prSEq rfl rfl) rfl ?_
    refine wTrue (by show Value.bool (_ == _) = _; rw [beq_self_eq_true]) ?_
    refine wVal (v := .int .i64 k) (fun w b ⟨_, h, _⟩ => (bits_any _ x 500 w h.1 h.2 (by decide)).mono fun e w' ⟨k', h1, h2, h3⟩ => ⟨by rw [h1, h2.unique hk], h3⟩) rfl ?_
    refine wVal (v := .int .i64 k) (fun w b ⟨h, _⟩ => (rbits_any _ x 500 w h (by decide)).mono fun e w' ⟨k', h1, h2, _, h3⟩ => ⟨by rw [h1, h2.unique hk], by rw [h3]; exact Below.refl _ _⟩) rfl ?_
    refine wPr (prEq rfl rfl) rfl ?_
    refine wTrue (by show Value.bool (_ == _) = _; rw [beq_self_eq_true]) ?_
    refine wVal (v := .int .i64 c) (fun w b ⟨_, h, _⟩ => (zeros_any _ x 500 w (hT.below b) h.1 h.2 (by decide)).mono fun e w' ⟨k', h1, h2, h3⟩ => ⟨by rw [h1, h2.unique hc], h3⟩) rfl ?_
    refine wVal (v := .int .i64 c) (fun w b ⟨h, _⟩ => (rzeros_any _ x 500 w h (by decide)).mono fun e w' ⟨k', h1, h2, h3⟩ => ⟨by rw [h1, h2.unique hc], h3⟩) rfl ?_
    refine wPr (prEq rfl rfl) rfl ?_
    refine wTrue (by show Value.bool (_ == _) = _; rw [beq_self_eq_true]) ?_
    refine wVal (fun w b ⟨_, h, _⟩ => low_any _ x w h.1) rfl ?_
    refine wVal (v := .int .u64 (x % 18446744073709551616 : Nat)) (fun w b ⟨h, _⟩ => (rlow_any _ x w h.1).mono fun e w' ⟨h1, h2⟩ => ⟨h1, by rw [h2]; exact Below.refl _ _⟩) rfl ?_
    refine wPr (prEq rfl rfl) rfl ?_
    exact wRet fun w b _ => ⟨by show Ending.returned (.bool (_ == _)) = _; rw [beq_self_eq_true], b⟩
  · refine wKnown [.slice none 0 0, .int .i64 2] (fun w b _ => parse_no s w hi) rfl rfl ?_
    refine wKnown [.slice none 0 0, .bool false] (fun w b _ => nparseN1 s w hi) rfl rfl ?_
    refine wPr (prNot rfl) rfl ?_
    refine wTrue rfl ?_
    refine wPr (prEq rfl rfl) rfl ?_
    refine wTrue rfl ?_
    refine wVal (fun w b _ => text_any _ 0 0 w ⟨NatV.zero _ _, pw_pos 0⟩ (by decide) (hT.below b)) rfl ?_
    refine wPr (prSEq rfl rfl) rfl ?_
    exact wRet fun w b _ => ⟨by show Ending.returned (.bool (_ == _)) = _; rw [decS_zero, beq_self_eq_true], b⟩

end Go.Proofs.YtpchnejdbmoicaaDoor
