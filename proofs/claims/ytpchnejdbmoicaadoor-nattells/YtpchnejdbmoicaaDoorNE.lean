/- The law NatReads. -/
import Derived.Test.YtpchnejdbmoicaaDoorYt
import Derived.Test.YtpchnejdbmoicaaDoorRD
import Derived.Test.YtpchnejdbmoicaaDoorYk
import Derived.Test.YtpchnejdbmoicaaDoorYc
namespace Go.Proofs.YtpchnejdbmoicaaDoor
open Go.RowKit Cin

def D1 : TypeId → Bool := fun t => t == 68
theorem h1U : D1 68 = true := rfl
theorem h1Mix : Tryd.prog.follows .mixedOrders = true := by kernel_rfl
theorem h1Str : Tryd.prog.underlying 9 = some .string := by kernel_rfl
def AllPl1 : Env → Prop
  | [] => True
  | c :: E => c.all Value.oneCell' = true ∧ AllPl1 E
theorem allPl1 {E : Env} (h : AllPl1 E) : E.all (fun cs => cs.all Value.oneCell') = true := by
  induction E with
  | nil => rfl
  | cons c E ih => simp only [List.all_cons, Bool.and_eq_true]; exact ⟨h.1, ih h.2⟩
/-- The beginning of a walk along a row. -/
theorem go1 {f : FuncId} {tr : Tr} {args : List Value} {w : World} {Post : Ending → World → Prop} (F : World → Prop) (E : Env) (sh : List (Option Nat)) (hr : rowOf Tryd.prog D1 f = some tr)
    (hq : (eqsOf Tryd.prog D1 f).map (·.1) = (eqsOf Tryd.prog D1 f).map (·.2)) (hsh : ((Tryd.prog.funcs[f]?).map fun fn => fn.params.toList.mapM (shapeOf Tryd.prog)) = some (some sh))
    (hF : Mono D1 F) (h0 : F w) (hpl : AllPl1 E) (hk : Wk Tryd.prog w D1 Post (fun _ _ _ => False) F tr E) (hE : E.length = sh.length := by rfl) (hargs : args = sh.zipIdx.map (fun (s, i) => (v1of i 0 s).den [] E) := by rfl) : Calls Tryd.prog f args.toArray w Post :=
  rx h1Mix hr hq sh hsh hE hargs (allPl1 hpl) _ (hk hF w h0)
section rules
variable {w0 : World} {Post : Ending → World → Prop} {F : World → Prop} {L : LC} {E : Env} {tr : Tr} {f : FuncId} {ar : List V1} {args : Array Value}
theorem wNatV {n m : Nat} {c : Value}
    (hc : ∀ w, Below w0.heap.size w0 w → F w → Calls Tryd.prog f args w fun e w' => ∃ v, e = .returned (.tuple #[v, c]) ∧ NatB 68 w' v n m ∧ Below w.heap.size w w') (hv : c.oneCell' = true)
    {E' : Value → Env} (hk : ∀ x, Wk Tryd.prog w0 D1 Post L (fun w => NatB 68 w (.agg #[x]) n m ∧ F w) tr (E' x)) (ha : (ar.map (V1.den [] E)).toArray = args := by rfl) (hE : ∀ x, E ++ [[x, c]] = E' x := by intros; (simp only [List.cons_append, List.nil_append]) <;> exact rfl) : Wk Tryd.prog w0 D1 Post L F (.em (.call f ar [some 1, none]) tr) E := by
  intro hm u hF w e b
  subst ha
  refine (hc w b (hm u w e hF)).mono ?_
  rintro e1 w' ⟨v, rfl, h1, h4⟩
  obtain ⟨ad, len, cap, rfl⟩ := h1.shape2
  exact ⟨[.slice ad len cap, c], rfl, by simp only [List.all_cons, List.all_nil, hv, Bool.and_true]; rfl, h4, hE _ ▸ hk _ ((monoNat h1U _ _ _).and hm) w' ⟨h1, hm u w' (e.below h4) hF⟩⟩
end rules

theorem byts_lt (s : ByteArray) : ∀ b ∈ byts s, b < 256 := fun b hb => by
  unfold byts at hb
  obtain ⟨u, _, rfl⟩ := List.mem_map.1 hb
  exact u.toNat_lt
theorem byts_back (s : ByteArray) : strOfNums ((byts s).map fun x : Nat => (x : Int)) = s := by
  apply ByteArray.ext
  apply Array.toList_inj.1
  unfold strOfNums byts
  simp [Function.comp_def]
theorem pw_256 (k : Nat) : pw k = 256 ^ (4 * k) := by unfold pw; rw [Nat.pow_mul]
theorem bv_lt_pw {s : ByteArray} {k : Nat} (hs : s.size ≤ 4 * k) : bv (byts s) < pw k := by
  have h := bv_lt (byts_lt s) (byts s).length
  rw [List.take_length, byts_length] at h
  rw [pw_256]
  exact Nat.lt_of_lt_of_le h (Nat.pow_le_pow_right (by decide) hs)
theorem bv_pw {s : ByteArray} (hs : s.size ≤ 300) : bv (byts s) < pw 75 := bv_lt_pw (by omega)
theorem bytesB (v : Value) (s : ByteArray) (w : World) (h : NatB 68 w v (bv (byts s)) 75) (h0 : s.size = 0 ∨ lim (byts s) 0 ≠ 0) :
    Calls Tryd.prog 13 #[v] w fun e w' => e = .returned (.string s) ∧ Below w.heap.size w w' :=
  (bytes_any v _ 75 w h.1 h.2 (by decide)).mono fun e w' ⟨k, he, hk, hb⟩ => by
    have hl := bl_bytes (byts_lt s) (by
      rcases h0 with h | h
      · exact .inl (List.length_eq_zero_iff.1 (by rw [byts_length]; exact h))
      · exact .inr h) hk
    refine ⟨?_, hb⟩
    rw [he, hl]
    unfold byS
    rw [← byL_bv (byts_lt s), byts_back]

set_option maxHeartbeats 4000000 in
/-- The law NatReads holds of every text. -/
theorem natReads_any (s : ByteArray) (w : World) (hT : Tabs w) :
    Calls Tryd.prog 4 #[.string s] w fun e w' => e = .returned (.bool true) ∧ Below w.heap.size w w' := by
  refine go1 (fun _ => True) [[.string s]] [none] (tr := (.em (.call 9 [] [none]) (.em (.pr (.unOp .not 4 (.tmp 0)) 4 [.s (.c 1 0)]) (.cond (.c 2 0) (.ret (.v (.s (.k (.bool false))))) (.em (.pr (.call (.mk (.builtin .len) #[.tmp 0] #[9])) 3 [.s (.c 0 0)]) (.em (.pr (.binOp .gtr 3 (.tmp 0) (.const (.int .i64 300)) 3) 4 [.s (.c 3 0), .s (.k (.int .i64 300))]) (.cond (.c 4 0) (.ret (.v (.s (.k (.bool true))))) (.em (.call 21 [.s (.c 0 0)] [some 1, none]) (.em (.call 22 [.s (.c 0 0)] [none, none]) (.em (.pr (.unOp .not 4 (.tmp 0)) 4 [.s (.c 6 1)]) (.cond (.c 7 0) (.em (.pr (.binOp .eql 26 (.tmp 0) (.const (.int .i64 2)) 26) 4 [.s (.c 5 1), .s (.k (.int .i64 2))]) (.cond (.c 8 0) (.em (.call 12 [.g [.c 5 0]] [none]) (.em (.pr (.binOp .eql 9 (.tmp 0) (.const (.string ⟨#[48]⟩)) 9) 4 [.s (.c 9 0), .s (.k (.string ⟨#[48]⟩))]) (.ret (.v (.s (.c 10 0)))))) (.ret (.v (.s (.k (.bool false))))))) (.em (.pr (.binOp .eql 26 (.tmp 0) (.const (.int .i64 0)) 26) 4 [.s (.c 5 1), .s (.k (.int .i64 0))]) (.cond (.c 8 0) (.em (.call 13 [.g [.c 5 0]] [none]) (.em (.pr (.binOp .eql 9 (.tmp 0) (.tmp 1) 9) 4 [.s (.c 9 0), .s (.c 0 0)]) (.cond (.c 10 0) (.em (.call 12 [.g [.c 5 0]] [none]) (.em (.call 23 [.s (.c 6 0)] [none]) (.em (.pr (.binOp .eql 9 (.tmp 0) (.tmp 1) 9) 4 [.s (.c 11 0), .s (.c 12 0)]) (.ret (.v (.s (.c 13 0))))))) (.ret (.v (.s (.k (.bool false)))))))) (.ret (.v (.s (.k (.bool false)))))))))))))))))) (by kernel_rfl) (by kernel_rfl) (by kernel_rfl) Mono.true trivial ⟨rfl, trivial⟩ ?_
  refine wVal (fun w b _ => alive_any w (hT.below b)) rfl ?_
  refine wPr (prNot rfl) rfl ?_
  refine wFalse rfl ?_
  refine wPr (prLenS h1Str rfl) rfl ?_
  refine wPr (prGt rfl rfl) rfl ?_
  refine wIf _ rfl (fun e => ?_) (fun e => ?_)
  · exact wRet fun w b _ => ⟨rfl, b⟩
  have hs : s.size ≤ 300 := by have : ¬ (300 : Int) < s.size := by simpa using e
                               omega
  by_cases h0 : s.size = 0 ∨ lim (byts s) 0 ≠ 0
  · refine wNatV (n := bv (byts s)) (m := 75) (fun w b _ => (read_yes s w h0 hs).mono fun e w' ⟨v, h1, h2, h3⟩ => ⟨v, h1, ⟨h2, bv_pw hs⟩, h3⟩) rfl (fun _ => ?_)
    refine wRefV h1U (n := bv (byts s)) (m := 75) (fun w b _ => (rread_yes s w h0 hs).mono fun e w' ⟨v, h1, h2, h3⟩ => ⟨v, h1, ⟨h2, bv_pw hs⟩, h3⟩) rfl (fun _ => ?_)
    refine wPr (prNot rfl) rfl ?_
    refine wFalse rfl ?_
    refine wPr (prEq rfl rfl) rfl ?_
    refine wTrue rfl ?_
    refine wVal (fun w b ⟨_, h, _⟩ => bytesB _ s w h h0) rfl ?_
    refine wPr (prSEq rfl rfl) rfl ?_
    refine wTrue (by show Value.bool (_ == _) = _; rw [beq_self_eq_true]) ?_
    refine wVal (fun w b ⟨_, h, _⟩ => text_any _ _ 75 w h (by decide) (hT.below b)) rfl ?_
    refine wVal (fun w b ⟨h, _⟩ => rtextB _ _ 75 w h (by decide)) rfl ?_
    refine wPr (prSEq rfl rfl) rfl ?_
    exact wRet fun w b _ => ⟨by show Ending.returned (.bool (_ == _)) = _; rw [beq_self_eq_true], b⟩
  · have hp : 0 < s.size := by omega
    have hz : lim (byts s) 0 = 0 := by omega
    refine wKnown [.slice none 0 0, .int .i64 2] (fun w b _ => read_no s w hp hz hs) rfl rfl ?_
    refine wKnown [.slice none 0 0, .bool false] (fun w b _ => rread_no s w hp hz hs) rfl rfl ?_
    refine wPr (prNot rfl) rfl ?_
    refine wTrue rfl ?_
    refine wPr (prEq rfl rfl) rfl ?_
    refine wTrue rfl ?_
    refine wVal (fun w b _ => text_any _ 0 0 w ⟨NatV.zero _ _, pw_pos 0⟩ (by decide) (hT.below b)) rfl ?_
    refine wPr (prSEq rfl rfl) rfl ?_
    exact wRet fun w b _ => ⟨by show Ending.returned (.bool (_ == _)) = _; rw [decS_zero, beq_self_eq_true], b⟩

end Go.Proofs.YtpchnejdbmoicaaDoor
