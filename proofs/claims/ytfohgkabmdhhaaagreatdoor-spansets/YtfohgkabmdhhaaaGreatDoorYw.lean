/- Contracts of the document's intervals. -/
import Derived.Test.YtfohgkabmdhhaaaGreatDoorYv
import Derived.Laws.StructEq
import Derived.ChangeKeysEq
namespace Go.Proofs.YtfohgkabmdhhaaaGreatDoor
open Go.RowKit Cin
def D2 : TypeId → Bool := fun t => t == 146 || t == 41
theorem hU2 : D2 146 = true := rfl
theorem hR2 : D2 41 = true := rfl
theorem dd2 (t : TypeId) (h : DD t = true) : D2 t = true := by unfold DD at h; unfold D2; rw [h]; rfl
theorem go2 {f : FuncId} {tr : Tr} {args : List Value} {w : World} {Post : Ending → World → Prop} (Z : TypeId → Bool) (hZ : ∀ t, Z t = true → D2 t = true) (F : World → Prop) (E : Env) (sh : List (Option Nat)) (hr : rowOf Tryz.prog D2 f = some tr)
    (hq : (eqsOf Tryz.prog D2 f).map (·.1) = (eqsOf Tryz.prog D2 f).map (·.2)) (hsh : ((Tryz.prog.funcs[f]?).map fun fn => fn.params.toList.mapM (shapeOf Tryz.prog)) = some (some sh))
    (hF : Mono D2 F) (h0 : F w) (hpl : AllPl E) (hk : Wk Tryz.prog w D2 Z Post (fun _ _ _ => False) F tr E) (hE : E.length = sh.length := by rfl) (hargs : args = sh.zipIdx.map (fun (s, i) => (v1of i 0 s).den [] E) := by rfl) : Calls Tryz.prog f args.toArray w Post :=
  rx hZ hMix hr hq sh hsh hE hargs (allPl hpl) _ (hk hF w h0)
theorem info_rr : (Tryz.prog.info? 41).map (fun i => (i.zero, i.size, i.bytes)) = some (some (.agg #[.bool false, .slice none 0 0, .slice none 0 0]), 3, 56) := by kernel_rfl
theorem rr_info : ∃ ie, Tryz.prog.info? 41 = some ie ∧ ie.zero = some (.agg #[.bool false, .slice none 0 0, .slice none 0 0]) ∧ ie.size = 3 ∧ ie.bytes = 56 := by
  have h := info_rr
  cases hi : Tryz.prog.info? 41 with
  | none => rw [hi] at h; cases h
  | some ie =>
    rw [hi] at h
    simp only [Option.map_some, Option.some.injEq, Prod.mk.injEq] at h
    exact ⟨ie, rfl, h⟩
theorem hSlR : Tryz.prog.underlying 72 = some (.slice 41) := by kernel_rfl
theorem hRowR : (Tryz.prog.underlying 41).map TypeDesc.isRow = some true := by kernel_rfl
theorem rr_row : ∃ d, Tryz.prog.underlying 41 = some d ∧ d.isRow = true := by
  have h := hRowR
  cases hd : Tryz.prog.underlying 41 with
  | none => rw [hd] at h; cases h
  | some d => rw [hd] at h; exact ⟨d, rfl, by simpa using h⟩
theorem DQ.mono {w : World} {a b d : Value} {q : Rat} {k j : Nat} (h : DQ w a b d q k) (hj : k ≤ j) : DQ w a b d q j := ⟨h.1.mono hj, h.2.1, lt_pw_mono h.2.2 hj⟩
def ListD (w : World) (k : Nat) : List (List Value) → List Rat → Prop
  | [], [] => True
  | x :: xs, q :: qs => (∃ a b d, x = [a, b, d] ∧ DQ w a b d q k) ∧ ListD w k xs qs
  | _, _ => False
theorem ListD.len {w : World} {k : Nat} : ∀ {xs : List (List Value)} {qs : List Rat}, ListD w k xs qs → xs.length = qs.length
  | [], [], _ => rfl
  | _ :: _, _ :: _, h => by simp [h.2.len]
theorem ListD.at {w : World} {k : Nat} : ∀ {xs : List (List Value)} {qs : List Rat} {i : Nat}, ListD w k xs qs → i < qs.length → ∃ q a b d, qs[i]? = some q ∧ xs[i]? = some [a, b, d] ∧ DQ w a b d q k
  | [], [], _, _, hi => absurd hi (Nat.not_lt_zero _)
  | [], _ :: _, _, h, _ => h.elim
  | _ :: _, [], _, h, _ => h.elim
  | x :: xs, q :: qs, 0, h, _ => by obtain ⟨⟨a, b, d, rfl, hq⟩, _⟩ := h; exact ⟨q, a, b, d, rfl, rfl, hq⟩
  | x :: xs, q :: qs, i + 1, h, hi => by
    obtain ⟨q', a, b, d, h1, h2, h3⟩ := h.2.at (i := i) (by simpa using hi)
    exact ⟨q', a, b, d, by simpa using h1, by simpa using h2, h3⟩
theorem ListD.get {w : World} {k : Nat} {xs : List (List Value)} {qs : List Rat} {i : Nat} {q : Rat} {a b d : Value} (h : ListD w k xs qs) (h1 : qs[i]? = some q) (h2 : xs[i]? = some [a, b, d]) : DQ w a b d q k := by
  obtain ⟨q', a', b', d', e1, e2, e3⟩ := h.at (List.getElem?_eq_some_iff.1 h1).1
  rw [h1] at e1
  rw [h2] at e2
  injection e1 with e1
  injection e2 with e2
  injection e2 with e2 e4
  injection e4 with e4 e5
  injection e5 with e5 _
  subst e1 e2 e4 e5
  exact e3
theorem mList {D : TypeId → Bool} (k : Nat) (hD : D 146 = true := by rfl) : ∀ (xs : List (List Value)) (qs : List Rat), Mono D fun w => ListD w k xs qs
  | [], [], _, _, _, h => h
  | _ :: xs, _ :: qs, u, w, e, ⟨⟨a, b, d, h1, h2⟩, h3⟩ => ⟨⟨a, b, d, h1, mD _ _ _ _ _ hD u w e h2⟩, mList k hD xs qs u w e h3⟩
  | [], _ :: _, _, _, _, h => h
  | _ :: _, [], _, _, _, h => h
def Linv (k : Nat) (qs : List Rat) (cs : List Value) (w : World) : Prop := ∃ (i : Nat) (a b d a' b' d' : Value) (l h : Rat), cs = [.int .i64 i, a, b, d, a', b', d'] ∧ 1 ≤ i ∧ i ≤ qs.length ∧ DQ w a b d l k ∧ DQ w a' b' d' h k ∧ l ∈ qs ∧ h ∈ qs ∧ ∀ j q, j < i → qs[j]? = some q → l ≤ q ∧ q ≤ h
theorem mLinv {D : TypeId → Bool} (k : Nat) (qs : List Rat) (cs : List Value) (hD : D 146 = true := by rfl) : Mono D (Linv k qs cs) := fun u w e ⟨i, a, b, d, a', b', d', l, h, h1, h2, h3, h4, h5, h6⟩ => ⟨i, a, b, d, a', b', d', l, h, h1, h2, h3, mD _ _ _ _ _ hD u w e h4, mD _ _ _ _ _ hD u w e h5, h6⟩
def Lmu (n : Nat) : List Value → Nat
  | .int _ i :: _ => n - i.toNat
  | _ => 0
set_option maxHeartbeats 4000000 in
theorem least_any (v : Value) (xs : List (List Value)) (qs : List Rat) (lo hi : Rat) (k : Nat) (w : World) (hr : RowO 0 41 3 w v xs) (hq : ListD w k xs qs) (hk : k ≤ 3000) (hlen : qs.length ≤ 1000000) (h1 : ∀ q ∈ qs, lo ≤ q ∧ q ≤ hi) (h2 : lo ∈ qs) (h3 : hi ∈ qs) :
    Calls Tryz.prog 37 #[v] w fun e w' => ∃ v', e = .returned v' ∧ DsB w' v' lo hi k ∧ Below w.heap.size w w' := by
  have hl := hq.len
  have hpos : 0 < qs.length := List.length_pos_of_mem h2
  obtain ⟨g, cap, rfl⟩ := hr.shape (fun h => by rw [h] at hl; simp at hl; omega)
  obtain ⟨ie, hie, _, hsz, _⟩ := rr_info
  obtain ⟨dd, hd, hdr⟩ := rr_row
  obtain ⟨q0, a0, b0, d0, e1, e2, hq0⟩ := hq.at hpos
  have p0 := dpl hq0
  refine go2 D2 (fun _ h => h) (fun w => RowO 0 41 3 w (.slice (some ⟨g, 0, none⟩) xs.length cap) xs ∧ ListD w k xs qs) [[.slice (some ⟨g, 0, none⟩) xs.length cap]] [none] (tr := (.em (.pr (.indexAddr 72 (.tmp 0) (.const (.int .i64 0))) 0 [.s (.c 0 0), .s (.k (.int .i64 0))]) (.em (.pr (.indexAddr 72 (.tmp 0) (.const (.int .i64 0))) 0 [.s (.c 0 0), .s (.k (.int .i64 0))]) (.em (.ld (.load 41 (.tmp 0)) 41 [.s (.c 1 0)] (some 3)) (.em (.ld (.load 41 (.tmp 0)) 41 [.s (.c 2 0)] (some 3)) (.loop 0 [.k (.int .i64 1), .c 3 0, .c 3 1, .c 3 2, .c 4 0, .c 4 1, .c 4 2] (.em (.pr (.call (.mk (.builtin .len) #[.tmp 0] #[72])) 3 [.s (.c 0 0)]) (.em (.pr (.binOp .lss 3 (.tmp 0) (.tmp 1) 3) 4 [.s (.c 5 0), .s (.c 6 0)]) (.cond (.c 7 0) (.em (.pr (.indexAddr 72 (.tmp 0) (.tmp 1)) 0 [.s (.c 0 0), .s (.c 5 0)]) (.em (.ld (.load 41 (.tmp 0)) 41 [.s (.c 8 0)] (some 3)) (.em (.call 17 [.g [.c 9 0, .c 9 1, .c 9 2], .g [.c 5 1, .c 5 2, .c 5 3]] [none]) (.em (.pr (.binOp .lss 3 (.tmp 0) (.const (.int .i64 0)) 3) 4 [.s (.c 10 0), .s (.k (.int .i64 0))]) (.cond (.c 11 0) (.em (.pr (.indexAddr 72 (.tmp 0) (.tmp 1)) 0 [.s (.c 0 0), .s (.c 5 0)]) (.em (.ld (.load 41 (.tmp 0)) 41 [.s (.c 12 0)] (some 3)) (.em (.pr (.indexAddr 72 (.tmp 0) (.tmp 1)) 0 [.s (.c 0 0), .s (.c 5 0)]) (.em (.ld (.load 41 (.tmp 0)) 41 [.s (.c 14 0)] (some 3)) (.em (.call 17 [.g [.c 15 0, .c 15 1, .c 15 2], .g [.c 5 4, .c 5 5, .c 5 6]] [none]) (.em (.pr (.binOp .gtr 3 (.tmp 0) (.const (.int .i64 0)) 3) 4 [.s (.c 16 0), .s (.k (.int .i64 0))]) (.cond (.c 17 0) (.em (.pr (.indexAddr 72 (.tmp 0) (.tmp 1)) 0 [.s (.c 0 0), .s (.c 5 0)]) (.em (.ld (.load 41 (.tmp 0)) 41 [.s (.c 18 0)] (some 3)) (.em (.pr (.binOp .add 3 (.tmp 0) (.const (.int .i64 1)) 3) 3 [.s (.c 5 0), .s (.k (.int .i64 1))]) (.back 0 [.c 20 0, .c 13 0, .c 13 1, .c 13 2, .c 19 0, .c 19 1, .c 19 2])))) (.em (.pr (.binOp .add 3 (.tmp 0) (.const (.int .i64 1)) 3) 3 [.s (.c 5 0), .s (.k (.int .i64 1))]) (.back 0 [.c 18 0, .c 13 0, .c 13 1, .c 13 2, .c 5 4, .c 5 5, .c 5 6]))))))))) (.em (.pr (.indexAddr 72 (.tmp 0) (.tmp 1)) 0 [.s (.c 0 0), .s (.c 5 0)]) (.em (.ld (.load 41 (.tmp 0)) 41 [.s (.c 12 0)] (some 3)) (.em (.call 17 [.g [.c 13 0, .c 13 1, .c 13 2], .g [.c 5 4, .c 5 5, .c 5 6]] [none]) (.em (.pr (.binOp .gtr 3 (.tmp 0) (.const (.int .i64 0)) 3) 4 [.s (.c 14 0), .s (.k (.int .i64 0))]) (.cond (.c 15 0) (.em (.pr (.indexAddr 72 (.tmp 0) (.tmp 1)) 0 [.s (.c 0 0), .s (.c 5 0)]) (.em (.ld (.load 41 (.tmp 0)) 41 [.s (.c 16 0)] (some 3)) (.em (.pr (.binOp .add 3 (.tmp 0) (.const (.int .i64 1)) 3) 3 [.s (.c 5 0), .s (.k (.int .i64 1))]) (.back 0 [.c 18 0, .c 5 1, .c 5 2, .c 5 3, .c 17 0, .c 17 1, .c 17 2])))) (.em (.pr (.binOp .add 3 (.tmp 0) (.const (.int .i64 1)) 3) 3 [.s (.c 5 0), .s (.k (.int .i64 1))]) (.back 0 [.c 16 0, .c 5 1, .c 5 2, .c 5 3, .c 5 4, .c 5 5, .c 5 6])))))))))))) (.ret (.v (.g [.c 5 1, .c 5 2, .c 5 3, .c 5 4, .c 5 5, .c 5 6])))))))))))) (by kernel_rfl) (by kernel_rfl) (by kernel_rfl) ((monoRow hR2 _ _ _ _).and (mList _ hU2 _ _)) ⟨hr, hq⟩ ⟨rfl, trivial⟩ ?_
  refine wPr (prIdxA hSlR hie hsz rfl rfl (by omega) (by omega)) rfl ?_
  refine wPr (prIdxA hSlR hie hsz rfl rfl (by omega) (by omega)) rfl ?_
  refine wLd [a0, b0, d0] p0 (fun w b h => ldRow rfl (h.1.at e2) hd hdr (by rw [hie, Option.map_some, hsz]; rfl)) ?_
  refine wLd [a0, b0, d0] p0 (fun w b h => ldRow rfl (h.1.at e2) hd hdr (by rw [hie, Option.map_some, hsz]; rfl)) ?_
  have hb0 : ∀ j q, j < 1 → qs[j]? = some q → q0 ≤ q ∧ q ≤ q0 := by
    intro j q hj hq
    have hj0 : j = 0 := by omega
    subst hj0
    rw [e1] at hq
    cases hq
    exact ⟨Rat.le_refl, Rat.le_refl⟩
  refine wLoop (fun cs w => Linv k qs cs w) (fun cs => mLinv k qs cs hU2) (Lmu qs.length) (fun w h => ⟨1, a0, b0, d0, a0, b0, d0, q0, q0, rfl, Nat.le_refl _, hpos, h.2.get e1 e2, h.2.get e1 e2, List.mem_of_getElem? e1, List.mem_of_getElem? e1, hb0⟩) (fun cs _ => ?_)
  clear hq0 p0 hb0 e1 e2
  refine wEx fun u ⟨⟨i, a, b, d, a', b', d', l, h, he, hi1, hi2, hl1, hl2, hm1, hm2, hall⟩, hr1, hq1⟩ => ⟨fun w => DQ w a b d l k ∧ DQ w a' b' d' h k ∧ RowO 0 41 3 w (.slice (some ⟨g, 0, none⟩) xs.length cap) xs ∧ ListD w k xs qs, (mD _ _ _ _ _ hU2).and ((mD _ _ _ _ _ hU2).and ((monoRow hR2 _ _ _ _).and (mList _ hU2 _ _))), ⟨hl1, hl2, hr1, hq1⟩, ?_⟩
  subst he
  clear hl1 hl2 hr1 hq1
  refine wPr (prLen hSlR rfl) rfl ?_
  refine wPr (prLt rfl rfl) rfl ?_
  refine wIf _ rfl (fun e => ?_) (fun e => ?_)
  · skip
    obtain ⟨q, a2, b2, d2, e1, e2, hqi⟩ := hq.at (i := i) (by have : (i : Int) < (xs.length : Int) := (by simpa using e); omega)
    have pi := dpl hqi
    have hix : i < xs.length := (by have : (i : Int) < (xs.length : Int) := (by simpa using e); omega)
    refine wPr (prIdxA hSlR hie hsz rfl rfl (by omega) (by omega)) rfl ?_
    refine wLd [a2, b2, d2] pi (fun w b h => ldRow rfl (h.2.2.1.at e2) hd hdr (by rw [hie, Option.map_some, hsz]; rfl)) ?_
    refine wVal (fun w b h0 => dcmp_any _ _ q l k k w ⟨_, _, _, rfl, h0.2.2.2.get e1 e2⟩ ⟨_, _, _, rfl, h0.1⟩ (by omega) (by omega)) rfl ?_
    refine wPr (prLt rfl rfl) rfl ?_
    refine wIf _ rfl (fun f1 => ?_) (fun f1 => ?_)
    · skip
      have g1 := cT_lt f1
      refine wPr (prIdxA hSlR hie hsz rfl rfl (by omega) (by omega)) rfl ?_
      refine wLd [a2, b2, d2] pi (fun w b h => ldRow rfl (h.2.2.1.at e2) hd hdr (by rw [hie, Option.map_some, hsz]; rfl)) ?_
      refine wPr (prIdxA hSlR hie hsz rfl rfl (by omega) (by omega)) rfl ?_
      refine wLd [a2, b2, d2] pi (fun w b h => ldRow rfl (h.2.2.1.at e2) hd hdr (by rw [hie, Option.map_some, hsz]; rfl)) ?_
      refine wVal (fun w b h0 => dcmp_any _ _ q h k k w ⟨_, _, _, rfl, h0.2.2.2.get e1 e2⟩ ⟨_, _, _, rfl, h0.2.1⟩ (by omega) (by omega)) rfl ?_
      refine wPr (prGt rfl rfl) rfl ?_
      refine wIf _ rfl (fun f2 => ?_) (fun f2 => ?_)
      · skip
        have g2 := cT_gt f2
        refine wPr (prIdxA hSlR hie hsz rfl rfl (by omega) (by omega)) rfl ?_
        refine wLd [a2, b2, d2] pi (fun w b h => ldRow rfl (h.2.2.1.at e2) hd hdr (by rw [hie, Option.map_some, hsz]; rfl)) ?_
        refine wPr (prAdd rfl rfl) rfl ?_
        rw [wrap_small (by omega) (by omega)]
        refine wBack fun w h0 => ⟨⟨i + 1, a2, b2, d2, a2, b2, d2, q, q, rfl, by omega, by omega, h0.2.2.2.get e1 e2, h0.2.2.2.get e1 e2, List.mem_of_getElem? e1, List.mem_of_getElem? e1, ?_⟩, ?_⟩
        · intro j q1 hj hq1
          by_cases hji : j = i
          · subst hji; rw [e1] at hq1; cases hq1; grind
          · have := hall j q1 (by omega) hq1; grind
        · show qs.length - ((i : Int) + 1).toNat < qs.length - (i : Int).toNat
          omega
      · skip
        have g2 := cF_gt f2
        refine wPr (prAdd rfl rfl) rfl ?_
        rw [wrap_small (by omega) (by omega)]
        refine wBack fun w h0 => ⟨⟨i + 1, a2, b2, d2, a', b', d', q, h, rfl, by omega, by omega, h0.2.2.2.get e1 e2, h0.2.1, List.mem_of_getElem? e1, hm2, ?_⟩, ?_⟩
        · intro j q1 hj hq1
          by_cases hji : j = i
          · subst hji; rw [e1] at hq1; cases hq1; grind
          · have := hall j q1 (by omega) hq1; grind
        · show qs.length - ((i : Int) + 1).toNat < qs.length - (i : Int).toNat
          omega
    · skip
      have g1 := cF_lt f1
      refine wPr (prIdxA hSlR hie hsz rfl rfl (by omega) (by omega)) rfl ?_
      refine wLd [a2, b2, d2] pi (fun w b h => ldRow rfl (h.2.2.1.at e2) hd hdr (by rw [hie, Option.map_some, hsz]; rfl)) ?_
      refine wVal (fun w b h0 => dcmp_any _ _ q h k k w ⟨_, _, _, rfl, h0.2.2.2.get e1 e2⟩ ⟨_, _, _, rfl, h0.2.1⟩ (by omega) (by omega)) rfl ?_
      refine wPr (prGt rfl rfl) rfl ?_
      refine wIf _ rfl (fun f2 => ?_) (fun f2 => ?_)
      · skip
        have g2 := cT_gt f2
        refine wPr (prIdxA hSlR hie hsz rfl rfl (by omega) (by omega)) rfl ?_
        refine wLd [a2, b2, d2] pi (fun w b h => ldRow rfl (h.2.2.1.at e2) hd hdr (by rw [hie, Option.map_some, hsz]; rfl)) ?_
        refine wPr (prAdd rfl rfl) rfl ?_
        rw [wrap_small (by omega) (by omega)]
        refine wBack fun w h0 => ⟨⟨i + 1, a, b, d, a2, b2, d2, l, q, rfl, by omega, by omega, h0.1, h0.2.2.2.get e1 e2, hm1, List.mem_of_getElem? e1, ?_⟩, ?_⟩
        · intro j q1 hj hq1
          by_cases hji : j = i
          · subst hji; rw [e1] at hq1; cases hq1; grind
          · have := hall j q1 (by omega) hq1; grind
        · show qs.length - ((i : Int) + 1).toNat < qs.length - (i : Int).toNat
          omega
      · skip
        have g2 := cF_gt f2
        refine wPr (prAdd rfl rfl) rfl ?_
        rw [wrap_small (by omega) (by omega)]
        refine wBack fun w h0 => ⟨⟨i + 1, a, b, d, a', b', d', l, h, rfl, by omega, by omega, h0.1, h0.2.1, hm1, hm2, ?_⟩, ?_⟩
        · intro j q1 hj hq1
          by_cases hji : j = i
          · subst hji; rw [e1] at hq1; cases hq1; grind
          · have := hall j q1 (by omega) hq1; grind
        · show qs.length - ((i : Int) + 1).toNat < qs.length - (i : Int).toNat
          omega
  · have hge : i = qs.length := by have : ¬ (i : Int) < (xs.length : Int) := (by simpa using e); omega
    have el : l = lo := by
      have := (h1 l hm1).1
      obtain ⟨j, hj, hj2⟩ := List.getElem_of_mem h2
      have := (hall j lo (by omega) (by rw [List.getElem?_eq_getElem hj, hj2])).1
      grind
    have eh : h = hi := by
      have := (h1 h hm2).2
      obtain ⟨j, hj, hj2⟩ := List.getElem_of_mem h3
      have := (hall j hi (by omega) (by rw [List.getElem?_eq_getElem hj, hj2])).2
      grind
    subst el eh
    exact wRet fun w b ⟨h1, h2, _⟩ => ⟨_, rfl, ⟨_, _, _, _, _, _, rfl, h1, h2⟩, b⟩
end Go.Proofs.YtfohgkabmdhhaaaGreatDoor

namespace Go.Proofs.YtfohgkabmdhhaaaGreatDoor
open Go.RowKit Cin
theorem dswithin_any (v u : Value) (x y x' y' : Rat) (k j : Nat) (w : World) (h : DsB w v x y k) (h' : DsB w u x' y' j) (hk : k ≤ 3000) (hj : j ≤ 3000) :
    Calls Tryz.prog 41 #[v, u] w fun e w' => e = .returned (.bool (decide (x' ≤ x) && decide (y ≤ y'))) ∧ Below w.heap.size w w' := by
  obtain ⟨a, b, d, a', b', d', rfl, h⟩ := h
  obtain ⟨p, q, r, p', q', r', rfl, h'⟩ := h'
  refine go (fun w => DsQ w a b d a' b' d' x y k ∧ DsQ w p q r p' q' r' x' y' j) [[a, b, d, a', b', d'], [p, q, r, p', q', r']] [some 6, some 6] (tr := (.em (.call 17 [.g [.c 1 0, .c 1 1, .c 1 2], .g [.c 0 0, .c 0 1, .c 0 2]] [none]) (.em (.pr (.binOp .leq 3 (.tmp 0) (.const (.int .i64 0)) 3) 4 [.s (.c 2 0), .s (.k (.int .i64 0))]) (.cond (.c 3 0) (.em (.call 17 [.g [.c 0 3, .c 0 4, .c 0 5], .g [.c 1 3, .c 1 4, .c 1 5]] [none]) (.em (.pr (.binOp .leq 3 (.tmp 0) (.const (.int .i64 0)) 3) 4 [.s (.c 4 0), .s (.k (.int .i64 0))]) (.ret (.v (.s (.c 5 0)))))) (.ret (.v (.s (.k (.bool false))))))))) (by kernel_rfl) (by kernel_rfl) (by kernel_rfl) ((mDs _ _ _ _ _ _ _ _ _).and (mDs _ _ _ _ _ _ _ _ _)) ⟨h, h'⟩ ⟨dspl h, dspl h', trivial⟩ ?_
  refine wVal (fun w b ⟨h, h'⟩ => dcmp_any _ _ x' x j k w ⟨_, _, _, rfl, h'.1⟩ ⟨_, _, _, rfl, h.1⟩ hj hk) rfl ?_
  refine wPr (prLe rfl rfl) rfl ?_
  refine wIf _ rfl (fun e => ?_) (fun e => ?_)
  · refine wVal (fun w b ⟨h, h'⟩ => dcmp_any _ _ y y' k j w ⟨_, _, _, rfl, h.2⟩ ⟨_, _, _, rfl, h'.2⟩ hk hj) rfl ?_
    refine wPr (prLe rfl rfl) rfl ?_
    refine wRet fun w b _ => ⟨?_, b⟩
    rw [← v_le, ← v_le, e, Bool.true_and]; rfl
  · refine wRet fun w b _ => ⟨?_, b⟩
    rw [← v_le, ← v_le, e, Bool.false_and]; rfl
theorem dsinside_any (v u : Value) (x y x' y' : Rat) (k j : Nat) (w : World) (h : DsB w v x y k) (h' : DsB w u x' y' j) (hk : k ≤ 3000) (hj : j ≤ 3000) :
    Calls Tryz.prog 43 #[v, u] w fun e w' => e = .returned (.bool (decide (x' < x) && decide (y < y'))) ∧ Below w.heap.size w w' := by
  obtain ⟨a, b, d, a', b', d', rfl, h⟩ := h
  obtain ⟨p, q, r, p', q', r', rfl, h'⟩ := h'
  refine go (fun w => DsQ w a b d a' b' d' x y k ∧ DsQ w p q r p' q' r' x' y' j) [[a, b, d, a', b', d'], [p, q, r, p', q', r']] [some 6, some 6] (tr := (.em (.call 17 [.g [.c 1 0, .c 1 1, .c 1 2], .g [.c 0 0, .c 0 1, .c 0 2]] [none]) (.em (.pr (.binOp .lss 3 (.tmp 0) (.const (.int .i64 0)) 3) 4 [.s (.c 2 0), .s (.k (.int .i64 0))]) (.cond (.c 3 0) (.em (.call 17 [.g [.c 0 3, .c 0 4, .c 0 5], .g [.c 1 3, .c 1 4, .c 1 5]] [none]) (.em (.pr (.binOp .lss 3 (.tmp 0) (.const (.int .i64 0)) 3) 4 [.s (.c 4 0), .s (.k (.int .i64 0))]) (.ret (.v (.s (.c 5 0)))))) (.ret (.v (.s (.k (.bool false))))))))) (by kernel_rfl) (by kernel_rfl) (by kernel_rfl) ((mDs _ _ _ _ _ _ _ _ _).and (mDs _ _ _ _ _ _ _ _ _)) ⟨h, h'⟩ ⟨dspl h, dspl h', trivial⟩ ?_
  refine wVal (fun w b ⟨h, h'⟩ => dcmp_any _ _ x' x j k w ⟨_, _, _, rfl, h'.1⟩ ⟨_, _, _, rfl, h.1⟩ hj hk) rfl ?_
  refine wPr (prLt rfl rfl) rfl ?_
  refine wIf _ rfl (fun e => ?_) (fun e => ?_)
  · refine wVal (fun w b ⟨h, h'⟩ => dcmp_any _ _ y y' k j w ⟨_, _, _, rfl, h.2⟩ ⟨_, _, _, rfl, h'.2⟩ hk hj) rfl ?_
    refine wPr (prLt rfl rfl) rfl ?_
    refine wRet fun w b _ => ⟨?_, b⟩
    rw [← v_lt, ← v_lt, e, Bool.true_and]; rfl
  · refine wRet fun w b _ => ⟨?_, b⟩
    rw [← v_lt, ← v_lt, e, Bool.false_and]; rfl
theorem dshas_any (v u : Value) (x y z : Rat) (k j : Nat) (w : World) (h : DsB w v x y k) (h' : DRatB w u z j) (hk : k ≤ 3000) (hj : j ≤ 3000) :
    Calls Tryz.prog 39 #[v, u] w fun e w' => e = .returned (.bool (decide (x ≤ z) && decide (z ≤ y))) ∧ Below w.heap.size w w' := by
  obtain ⟨a, b, d, a', b', d', rfl, h⟩ := h
  obtain ⟨p, q, r, rfl, h'⟩ := h'
  refine go (fun w => DsQ w a b d a' b' d' x y k ∧ DQ w p q r z j) [[a, b, d, a', b', d'], [p, q, r]] [some 6, some 3] (tr := (.em (.call 17 [.g [.c 0 0, .c 0 1, .c 0 2], .g [.c 1 0, .c 1 1, .c 1 2]] [none]) (.em (.pr (.binOp .leq 3 (.tmp 0) (.const (.int .i64 0)) 3) 4 [.s (.c 2 0), .s (.k (.int .i64 0))]) (.cond (.c 3 0) (.em (.call 17 [.g [.c 1 0, .c 1 1, .c 1 2], .g [.c 0 3, .c 0 4, .c 0 5]] [none]) (.em (.pr (.binOp .leq 3 (.tmp 0) (.const (.int .i64 0)) 3) 4 [.s (.c 4 0), .s (.k (.int .i64 0))]) (.ret (.v (.s (.c 5 0)))))) (.ret (.v (.s (.k (.bool false))))))))) (by kernel_rfl) (by kernel_rfl) (by kernel_rfl) ((mDs _ _ _ _ _ _ _ _ _).and (mD _ _ _ _ _)) ⟨h, h'⟩ ⟨dspl h, dpl h', trivial⟩ ?_
  refine wVal (fun w b ⟨h, h'⟩ => dcmp_any _ _ x z k j w ⟨_, _, _, rfl, h.1⟩ ⟨_, _, _, rfl, h'⟩ hk hj) rfl ?_
  refine wPr (prLe rfl rfl) rfl ?_
  refine wIf _ rfl (fun e => ?_) (fun e => ?_)
  · refine wVal (fun w b ⟨h, h'⟩ => dcmp_any _ _ z y j k w ⟨_, _, _, rfl, h'⟩ ⟨_, _, _, rfl, h.2⟩ hj hk) rfl ?_
    refine wPr (prLe rfl rfl) rfl ?_
    refine wRet fun w b _ => ⟨?_, b⟩
    rw [← v_le, ← v_le, e, Bool.true_and]; rfl
  · refine wRet fun w b _ => ⟨?_, b⟩
    rw [← v_le, ← v_le, e, Bool.false_and]; rfl
theorem dssign_any (v : Value) (x y : Rat) (k : Nat) (w : World) (h : DsB w v x y k) :
    Calls Tryz.prog 51 #[v] w fun e w' => e = .returned (.int .i64 (sgS x y)) ∧ Below w.heap.size w w' := by
  obtain ⟨a, b, d, a', b', d', rfl, h⟩ := h
  refine go (fun w => DsQ w a b d a' b' d' x y k) [[a, b, d, a', b', d']] [some 6] (tr := (.em (.call 81 [.g [.c 0 0, .c 0 1]] [none]) (.em (.pr (.binOp .gtr 3 (.tmp 0) (.const (.int .i64 0)) 3) 4 [.s (.c 1 0), .s (.k (.int .i64 0))]) (.cond (.c 2 0) (.ret (.v (.s (.k (.int .i64 1))))) (.em (.call 81 [.g [.c 0 3, .c 0 4]] [none]) (.em (.pr (.binOp .lss 3 (.tmp 0) (.const (.int .i64 0)) 3) 4 [.s (.c 3 0), .s (.k (.int .i64 0))]) (.cond (.c 4 0) (.ret (.v (.s (.k (.int .i64 (Int.negSucc 0)))))) (.ret (.v (.s (.k (.int .i64 0)))))))))))) (by kernel_rfl) (by kernel_rfl) (by kernel_rfl) (mDs _ _ _ _ _ _ _ _ _) h ⟨dspl h, trivial⟩ ?_
  unfold sgS
  refine wVal (fun w b h => rsign_any _ x.num k w h.1.1) rfl ?_
  refine wPr (prGt rfl rfl) rfl ?_
  refine wIf _ rfl (fun e => ?_) (fun e => ?_)
  · rw [if_pos (sgT_gt e)]
    exact wRet fun w b _ => ⟨rfl, b⟩
  rw [if_neg (by have := sgF_gt e; grind)]
  refine wVal (fun w b h => rsign_any _ y.num k w h.2.1) rfl ?_
  refine wPr (prLt rfl rfl) rfl ?_
  refine wIf _ rfl (fun e => ?_) (fun e => ?_)
  · rw [if_pos (sgT_lt e)]
    exact wRet fun w b _ => ⟨rfl, b⟩
  · rw [if_neg (by have := sgF_lt e; grind)]
    exact wRet fun w b _ => ⟨rfl, b⟩
theorem dmid5_any (v : Value) (x y : Rat) (k : Nat) (w : World) (h : DsB w v x y k) (hk : k ≤ 200) :
    Calls Tryz.prog 47 #[v] w fun e w' => ∃ v', e = .returned v' ∧ DRatB w' v' ((x + y) / 2) (k + k + (k + k) + 1 + 1) ∧ Below w.heap.size w w' := by
  obtain ⟨a, b, d, a', b', d', rfl, h⟩ := h
  refine go (fun w => DsQ w a b d a' b' d' x y k) [[a, b, d, a', b', d']] [some 6] (tr := (.em (.call 72 [.g [.c 0 0, .c 0 1, .c 0 2], .g [.c 0 3, .c 0 4, .c 0 5]] [some 3]) (.em (.call 84 [.g [.c 1 0, .c 1 1, .c 1 2]] [some 3]) (.ret (.v (.g [.c 2 0, .c 2 1, .c 2 2])))))) (by kernel_rfl) (by kernel_rfl) (by kernel_rfl) (mDs _ _ _ _ _ _ _ _ _) h ⟨dspl h, trivial⟩ ?_
  refine wDQ (fun w b h => dadd_any _ _ x y k k w ⟨_, _, _, rfl, h.1⟩ ⟨_, _, _, rfl, h.2⟩ (by omega) (by omega)) (fun _ _ _ => ?_)
  refine wDQ (fun w b ⟨h, _⟩ => dhalf_any _ (x + y) _ w ⟨_, _, _, rfl, h⟩ (by omega) (by omega)) (fun _ _ _ => ?_)
  exact wRet fun w b ⟨h, _⟩ => ⟨_, rfl, ⟨_, _, _, rfl, h⟩, b⟩
theorem dwidth_any (v : Value) (x y : Rat) (k : Nat) (w : World) (h : DsB w v x y k) (hk : k ≤ 200) :
    Calls Tryz.prog 49 #[v] w fun e w' => ∃ v', e = .returned v' ∧ DRatB w' v' (y - x) (k + k + (k + k) + 1) ∧ Below w.heap.size w w' := by
  obtain ⟨a, b, d, a', b', d', rfl, h⟩ := h
  refine go (fun w => DsQ w a b d a' b' d' x y k) [[a, b, d, a', b', d']] [some 6] (tr := (.em (.call 73 [.g [.c 0 3, .c 0 4, .c 0 5], .g [.c 0 0, .c 0 1, .c 0 2]] [some 3]) (.ret (.v (.g [.c 1 0, .c 1 1, .c 1 2]))))) (by kernel_rfl) (by kernel_rfl) (by kernel_rfl) (mDs _ _ _ _ _ _ _ _ _) h ⟨dspl h, trivial⟩ ?_
  refine wDQ (fun w b h => dsub_any _ _ y x k k w ⟨_, _, _, rfl, h.2⟩ ⟨_, _, _, rfl, h.1⟩ (by omega) (by omega)) (fun _ _ _ => ?_)
  exact wRet fun w b ⟨h, _⟩ => ⟨_, rfl, ⟨_, _, _, rfl, h⟩, b⟩
theorem dmeet_any (v u : Value) (x y x' y' : Rat) (k : Nat) (w : World) (h : DsB w v x y k) (h' : DsB w u x' y' k) (hk : k ≤ 3000) :
    Calls Tryz.prog 36 #[v, u] w fun e w' => ∃ v', e = .returned (.tuple #[v', .bool (decide (mx x x' ≤ mn y y'))]) ∧ DsB w' v' (mx x x') (mn y y') k ∧ Below w.heap.size w w' := by
  obtain ⟨a, b, d, a', b', d', rfl, h⟩ := h
  obtain ⟨p, q, r, p', q', r', rfl, h'⟩ := h'
  refine go (fun w => DsQ w a b d a' b' d' x y k ∧ DsQ w p q r p' q' r' x' y' k) [[a, b, d, a', b', d'], [p, q, r, p', q', r']] [some 6, some 6] (tr := (.em (.call 17 [.g [.c 1 0, .c 1 1, .c 1 2], .g [.c 0 0, .c 0 1, .c 0 2]] [none]) (.em (.pr (.binOp .gtr 3 (.tmp 0) (.const (.int .i64 0)) 3) 4 [.s (.c 2 0), .s (.k (.int .i64 0))]) (.cond (.c 3 0) (.em (.call 17 [.g [.c 1 3, .c 1 4, .c 1 5], .g [.c 0 3, .c 0 4, .c 0 5]] [none]) (.em (.pr (.binOp .lss 3 (.tmp 0) (.const (.int .i64 0)) 3) 4 [.s (.c 4 0), .s (.k (.int .i64 0))]) (.cond (.c 5 0) (.em (.call 17 [.g [.c 1 0, .c 1 1, .c 1 2], .g [.c 1 3, .c 1 4, .c 1 5]] [none]) (.em (.pr (.binOp .leq 3 (.tmp 0) (.const (.int .i64 0)) 3) 4 [.s (.c 6 0), .s (.k (.int .i64 0))]) (.ret (.t [.g [.c 1 0, .c 1 1, .c 1 2, .c 1 3, .c 1 4, .c 1 5], .s (.c 7 0)])))) (.em (.call 17 [.g [.c 1 0, .c 1 1, .c 1 2], .g [.c 0 3, .c 0 4, .c 0 5]] [none]) (.em (.pr (.binOp .leq 3 (.tmp 0) (.const (.int .i64 0)) 3) 4 [.s (.c 6 0), .s (.k (.int .i64 0))]) (.ret (.t [.g [.c 1 0, .c 1 1, .c 1 2, .c 0 3, .c 0 4, .c 0 5], .s (.c 7 0)]))))))) (.em (.call 17 [.g [.c 1 3, .c 1 4, .c 1 5], .g [.c 0 3, .c 0 4, .c 0 5]] [none]) (.em (.pr (.binOp .lss 3 (.tmp 0) (.const (.int .i64 0)) 3) 4 [.s (.c 4 0), .s (.k (.int .i64 0))]) (.cond (.c 5 0) (.em (.call 17 [.g [.c 0 0, .c 0 1, .c 0 2], .g [.c 1 3, .c 1 4, .c 1 5]] [none]) (.em (.pr (.binOp .leq 3 (.tmp 0) (.const (.int .i64 0)) 3) 4 [.s (.c 6 0), .s (.k (.int .i64 0))]) (.ret (.t [.g [.c 0 0, .c 0 1, .c 0 2, .c 1 3, .c 1 4, .c 1 5], .s (.c 7 0)])))) (.em (.call 17 [.g [.c 0 0, .c 0 1, .c 0 2], .g [.c 0 3, .c 0 4, .c 0 5]] [none]) (.em (.pr (.binOp .leq 3 (.tmp 0) (.const (.int .i64 0)) 3) 4 [.s (.c 6 0), .s (.k (.int .i64 0))]) (.ret (.t [.g [.c 0 0, .c 0 1, .c 0 2, .c 0 3, .c 0 4, .c 0 5], .s (.c 7 0)]))))))))))) (by kernel_rfl) (by kernel_rfl) (by kernel_rfl) ((mDs _ _ _ _ _ _ _ _ _).and (mDs _ _ _ _ _ _ _ _ _)) ⟨h, h'⟩ ⟨dspl h, dspl h', trivial⟩ ?_
  refine wVal (fun w b ⟨h, h'⟩ => dcmp_any _ _ x' x k k w ⟨_, _, _, rfl, h'.1⟩ ⟨_, _, _, rfl, h.1⟩ hk hk) rfl ?_
  refine wPr (prGt rfl rfl) rfl ?_
  refine wIf _ rfl (fun e => ?_) (fun e => ?_)
  · skip
    have g1 : mx x x' = x' := mx_of (by have := cT_gt e; grind)
    rw [g1]
    refine wVal (fun w b ⟨h, h'⟩ => dcmp_any _ _ y' y k k w ⟨_, _, _, rfl, h'.2⟩ ⟨_, _, _, rfl, h.2⟩ hk hk) rfl ?_
    refine wPr (prLt rfl rfl) rfl ?_
    refine wIf _ rfl (fun e1 => ?_) (fun e1 => ?_)
    · skip
      have g2 : mn y y' = y' := mn_of' (by have := cT_lt e1; grind)
      rw [g2]
      refine wVal (fun w b ⟨h, h'⟩ => dcmp_any _ _ x' y' k k w ⟨_, _, _, rfl, h'.1⟩ ⟨_, _, _, rfl, h'.2⟩ hk hk) rfl ?_
      refine wPr (prLe rfl rfl) rfl ?_
      exact wRet fun w b ⟨h, h'⟩ => ⟨_, by rw [← v_le]; rfl, ⟨_, _, _, _, _, _, rfl, h'.1, h'.2⟩, b⟩
    · skip
      have g2 : mn y y' = y := mn_of (cF_lt e1)
      rw [g2]
      refine wVal (fun w b ⟨h, h'⟩ => dcmp_any _ _ x' y k k w ⟨_, _, _, rfl, h'.1⟩ ⟨_, _, _, rfl, h.2⟩ hk hk) rfl ?_
      refine wPr (prLe rfl rfl) rfl ?_
      exact wRet fun w b ⟨h, h'⟩ => ⟨_, by rw [← v_le]; rfl, ⟨_, _, _, _, _, _, rfl, h'.1, h.2⟩, b⟩
  · skip
    have g1 : mx x x' = x := mx_of' (cF_gt e)
    rw [g1]
    refine wVal (fun w b ⟨h, h'⟩ => dcmp_any _ _ y' y k k w ⟨_, _, _, rfl, h'.2⟩ ⟨_, _, _, rfl, h.2⟩ hk hk) rfl ?_
    refine wPr (prLt rfl rfl) rfl ?_
    refine wIf _ rfl (fun e1 => ?_) (fun e1 => ?_)
    · skip
      have g2 : mn y y' = y' := mn_of' (by have := cT_lt e1; grind)
      rw [g2]
      refine wVal (fun w b ⟨h, h'⟩ => dcmp_any _ _ x y' k k w ⟨_, _, _, rfl, h.1⟩ ⟨_, _, _, rfl, h'.2⟩ hk hk) rfl ?_
      refine wPr (prLe rfl rfl) rfl ?_
      exact wRet fun w b ⟨h, h'⟩ => ⟨_, by rw [← v_le]; rfl, ⟨_, _, _, _, _, _, rfl, h.1, h'.2⟩, b⟩
    · skip
      have g2 : mn y y' = y := mn_of (cF_lt e1)
      rw [g2]
      refine wVal (fun w b ⟨h, h'⟩ => dcmp_any _ _ x y k k w ⟨_, _, _, rfl, h.1⟩ ⟨_, _, _, rfl, h.2⟩ hk hk) rfl ?_
      refine wPr (prLe rfl rfl) rfl ?_
      exact wRet fun w b ⟨h, h'⟩ => ⟨_, by rw [← v_le]; rfl, ⟨_, _, _, _, _, _, rfl, h.1, h.2⟩, b⟩
theorem hull_list {x y x' y' : Rat} (l0 : x ≤ y) (l1 : x' ≤ y') : (∀ z ∈ [x, y, x', y'], mn x x' ≤ z ∧ z ≤ mx y y') ∧ mn x x' ∈ [x, y, x', y'] ∧ mx y y' ∈ [x, y, x', y'] := by
  have g1 := mn_l x x'
  have g2 := mn_r x x'
  have g3 := mx_l y y'
  have g4 := mx_r y y'
  have o1 := mn_or x x'
  have o2 := mx_or y y'
  refine ⟨?_, ?_, ?_⟩
  · intro z hz
    simp only [List.mem_cons, List.not_mem_nil, or_false] at hz
    rcases hz with rfl | rfl | rfl | rfl <;> grind
  · rcases o1 with o | o <;> rw [o] <;> simp
  · rcases o2 with o | o <;> rw [o] <;> simp
end Go.Proofs.YtfohgkabmdhhaaaGreatDoor

namespace Go.Proofs.YtfohgkabmdhhaaaGreatDoor
open Go.RowKit Cin
theorem pairT : Tryz.prog.underlying 23 = some (.struct (Tryz.prog.fieldsOf 23)) := by kernel_rfl
theorem pairF : (Tryz.prog.fieldsOf 23).toList.map (fun f => (f.name == "_", f.type, f.offset)) = [(false, 9, 0), (false, 9, 1)] := by kernel_rfl
theorem pairH : Tryz.prog.stoodInHeld 23 = false := by kernel_rfl
theorem pairG : Tryz.prog.eqGuardType Tryz.prog.depth 23 = false := by kernel_rfl
theorem eqPair (d : Nat) (w : World) (s r s' r' : ByteArray) : (Op.eqFields (d + 1) #[.string s, .string r] #[.string s', .string r'] (Tryz.prog.fieldsOf 23).toList).run Tryz.prog w = .ok (s.toList == s'.toList && r.toList == r'.toList) w := by
  have h := pairF
  generalize (Tryz.prog.fieldsOf 23).toList = l at h
  match l with
  | [] => simp at h
  | [_] => simp at h
  | _ :: _ :: _ :: _ => simp at h
  | [f, g] =>
    simp only [List.map_cons, List.map_nil, List.cons.injEq, Prod.mk.injEq, and_true] at h
    obtain ⟨⟨n1, t1, o1⟩, n2, t2, o2⟩ := h
    have n1' : f.name ≠ "_" := by simpa using n1
    have n2' : g.name ≠ "_" := by simpa using n2
    have p : ∀ (i : Nat) (v : Value) (xs : Array Value), xs[i]? = some v → (part 9 xs i).run Tryz.prog w = .ok v w := fun i v xs hx => run_part_plain w (by kernel_rfl) hx
    have p0 := p 0 (.string s) #[.string s, .string r] rfl
    have p1 := p 1 (.string r) #[.string s, .string r] rfl
    have p2 := p 0 (.string s') #[.string s', .string r'] rfl
    have p3 := p 1 (.string r') #[.string s', .string r'] rfl
    simp only [Op.eqFields, n1', n2', ne_eq, not_false_eq_true, if_true, t1, t2, o1, o2, Sem.run_bind, p0, p2, Result.andThen_ok, run_equalIn_string w d _ _ _ hStrT]
    generalize (s.toList == s'.toList) = c1
    cases c1
    · simp
    · simp only [Bool.not_true, Bool.false_eq_true, if_false, Sem.run_bind, p1, p3, Result.andThen_ok, run_equalIn_string w d _ _ _ hStrT]
      generalize (r.toList == r'.toList) = c2
      cases c2 <;> simp
theorem prPairEq {t2 ty : TypeId} {vs : List Value} {p q : Operand} {s r s' r' : ByteArray} (hp : pe vs p = .agg #[.string s, .string r]) (hq : pe vs q = .agg #[.string s', .string r']) :
    PrimOk Tryz.prog (.binOp .eql 23 p q t2) ty vs (.bool (s.toList == s'.toList && r.toList == r'.toList)) := fun w => by
  simp only [execOp, hp, hq]
  simp only [Sem.run_bind, run_eqGuard_agg w _ _ _ _ _ _ pairG, Result.andThen_ok, run_eql_struct, run_equalIn_agg w 9999 _ _ _ pairT pairH, eqPair 9998]
  simp
end Go.Proofs.YtfohgkabmdhhaaaGreatDoor
