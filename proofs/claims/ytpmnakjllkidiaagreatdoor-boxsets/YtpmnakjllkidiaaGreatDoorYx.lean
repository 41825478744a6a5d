/- Numbers as entries; contracts of rat, span, dyad and of the document's, as contracts over entries (written by mk_h6.py). -/
import Derived.Test.YtpmnakjllkidiaaGreatDoorYw
import Derived.Test.YtpmnakjllkidiaaGreatDoorYt
import Derived.Test.YtpmnakjllkidiaaGreatDoorYs
namespace Go.Proofs.YtpmnakjllkidiaaGreatDoor
open Go.RowKit Cin
def JT : Jd := ⟨Tabs, fun b h => h.below b⟩
def JP : Jd := ⟨TabsP, fun b h => h.below b⟩
def pQ (q : Rat) (k : Nat) : Pd := pdOf 161 4 (fun w cs => ∃ a b c d, cs = [a, b, c, d] ∧ QB w a b c d q k) (by rintro w cs ⟨a, b, c, d, rfl, _⟩; rfl) (by rintro w cs ⟨a, b, c, d, rfl, h⟩; exact qpl h)
  (by rintro u w cs he ⟨a, b, c, d, rfl, h⟩; exact ⟨a, b, c, d, rfl, mQ (D := fun t => t == 161) _ _ _ _ _ _ rfl u w he h⟩)
def pD (q : Rat) (k : Nat) : Pd := pdOf 161 3 (fun w cs => ∃ a b d, cs = [a, b, d] ∧ DQ w a b d q k) (by rintro w cs ⟨a, b, d, rfl, _⟩; rfl) (by rintro w cs ⟨a, b, d, rfl, h⟩; exact dpl h)
  (by rintro u w cs he ⟨a, b, d, rfl, h⟩; exact ⟨a, b, d, rfl, mD (D := fun t => t == 161) _ _ _ _ _ rfl u w he h⟩)
section cells
variable {l : Lm} {w : World} {cs : List Value} {x y : Rat} {k j : Nat} {v u : Value}
theorem rQ (h : RL l w [pQ x k] cs) : ∃ a b c d, cs = [a, b, c, d] ∧ QB w a b c d x k := by
  obtain ⟨c1, c2, rfl, ⟨a, b, c, d, rfl, h⟩, rfl⟩ := h
  exact ⟨a, b, c, d, rfl, h⟩
theorem rD (h : RL l w [pD x k] cs) : ∃ a b d, cs = [a, b, d] ∧ DQ w a b d x k := by
  obtain ⟨c1, c2, rfl, ⟨a, b, d, rfl, h⟩, rfl⟩ := h
  exact ⟨a, b, d, rfl, h⟩
theorem rS (h : RL l w [pQ x k, pQ y k] cs) : ∃ a b c d a' b' c' d', cs = [a, b, c, d, a', b', c', d'] ∧ SpQ w a b c d a' b' c' d' x y k := by
  obtain ⟨c1, c2, rfl, ⟨a, b, c, d, rfl, h⟩, c3, c4, rfl, ⟨a', b', c', d', rfl, h'⟩, rfl⟩ := h
  exact ⟨a, b, c, d, a', b', c', d', rfl, h, h'⟩
theorem rE (h : RL l w [pD x k, pD y k] cs) : ∃ a b d a' b' d', cs = [a, b, d, a', b', d'] ∧ DsQ w a b d a' b' d' x y k := by
  obtain ⟨c1, c2, rfl, ⟨a, b, d, rfl, h⟩, c3, c4, rfl, ⟨a', b', d', rfl, h'⟩, rfl⟩ := h
  exact ⟨a, b, d, a', b', d', rfl, h, h'⟩
theorem rV (h : RL l w [pV v] cs) : cs = [v] := by
  obtain ⟨c1, c2, rfl, ⟨rfl, _⟩, rfl⟩ := h
  rfl
theorem rP (h : RL l w [pV v, pV u] cs) : cs = [v, u] := by
  obtain ⟨c1, c2, rfl, ⟨rfl, _⟩, c3, c4, rfl, ⟨rfl, _⟩, rfl⟩ := h
  rfl
end cells
section told
variable {w : W0} {w' : World} {e : Ending} {v c : Value} {x y q : Rat} {k j : Nat} {B : Bd}
theorem sV (hv : v.oneCell' = true) : RepS B w' [.ro false (pV v)] [v] [] := RepS.one_of ⟨⟨rfl, hv⟩, rfl⟩
theorem sQ {a b c d : Value} (h : QB w' a b c d q k) : RepS B w' [.ro false (pQ q k)] [a, b, c, d] [] := RepS.one_of ⟨⟨a, b, c, d, rfl, h⟩, rfl⟩
theorem sD {a b d : Value} (h : DQ w' a b d q k) : RepS B w' [.ro false (pD q k)] [a, b, d] [] := RepS.one_of ⟨⟨a, b, d, rfl, h⟩, rfl⟩
theorem tV (h : e = .returned v ∧ Below w.w.heap.size w.w w') (hv : v.oneCell' = true) : TellsA w [none] (fun _ => [.ro false (pV v)]) e w' := by
  obtain ⟨rfl, hb⟩ := h
  exact ⟨[v], [], fun _ => 0, rfl, List.nodup_nil, sV hv, hb⟩
theorem tQ (h : ∃ v, e = .returned v ∧ RatB w' v q k ∧ Below w.w.heap.size w.w w') : TellsA w [some 4] (fun _ => [.ro false (pQ q k)]) e w' := by
  obtain ⟨v, rfl, ⟨a, b, c, d, rfl, h⟩, hb⟩ := h
  exact ⟨[a, b, c, d], [], fun _ => 0, rfl, List.nodup_nil, sQ h, hb⟩
theorem tS (h : ∃ v, e = .returned v ∧ SpB w' v x y k ∧ Below w.w.heap.size w.w w') : TellsA w [some 8] (fun _ => [.ro false (pQ x k), .ro false (pQ y k)]) e w' := by
  obtain ⟨v, rfl, ⟨a, b, c, d, a', b', c', d', rfl, h⟩, hb⟩ := h
  exact ⟨[a, b, c, d, a', b', c', d'], [], fun _ => 0, rfl, List.nodup_nil, (sQ h.1).app (sQ h.2), hb⟩
theorem tSV (h : ∃ v, e = .returned (.tuple #[v, c]) ∧ SpB w' v x y k ∧ Below w.w.heap.size w.w w') (hv : c.oneCell' = true) : TellsA w [some 8, none] (fun _ => [.ro false (pQ x k), .ro false (pQ y k), .ro false (pV c)]) e w' := by
  obtain ⟨v, rfl, ⟨a, b, c1, d, a', b', c', d', rfl, h⟩, hb⟩ := h
  exact ⟨[a, b, c1, d, a', b', c', d', c], [], fun _ => 0, rfl, List.nodup_nil, (sQ h.1).app ((sQ h.2).app (sV hv)), hb⟩
theorem tSEV (h : ∃ v u, e = .returned (.tuple #[v, u, c]) ∧ SpB w' v x y k ∧ DsB w' u x y j ∧ Below w.w.heap.size w.w w') (hv : c.oneCell' = true) : TellsA w [some 8, some 6, none] (fun _ => [.ro false (pQ x k), .ro false (pQ y k), .ro false (pD x j), .ro false (pD y j), .ro false (pV c)]) e w' := by
  obtain ⟨v, u, rfl, ⟨a, b, c1, d, a', b', c', d', rfl, h⟩, ⟨s, t, r, s', t', r', rfl, h'⟩, hb⟩ := h
  exact ⟨[a, b, c1, d, a', b', c', d', s, t, r, s', t', r', c], [], fun _ => 0, rfl, List.nodup_nil, (sQ h.1).app ((sQ h.2).app ((sD h'.1).app ((sD h'.2).app (sV hv)))), hb⟩
theorem tQDV (h : ∃ v u, e = .returned (.tuple #[v, u, c]) ∧ RatB w' v q k ∧ DRatB w' u q j ∧ Below w.w.heap.size w.w w') (hv : c.oneCell' = true) : TellsA w [some 4, some 3, none] (fun _ => [.ro false (pQ q k), .ro false (pD q j), .ro false (pV c)]) e w' := by
  obtain ⟨v, u, rfl, ⟨a, b, c1, d, rfl, h⟩, ⟨s, t, r, rfl, h'⟩, hb⟩ := h
  exact ⟨[a, b, c1, d, s, t, r, c], [], fun _ => 0, rfl, List.nodup_nil, (sQ h).app ((sD h').app (sV hv)), hb⟩
theorem sK : ∀ {cs : List Value}, cs.all Value.oneCell' = true → RepS B w' (cs.map fun v => .ro false (pV v)) cs []
  | [], _ => ⟨rfl, rfl⟩
  | v :: cs, h => by
    simp only [List.all_cons, Bool.and_eq_true] at h
    exact (sV (B := B) (w' := w') h.1).app (sK h.2)
theorem tK {V : Value} {sh : List (Option Nat)} (cs : List Value) (h : e = .returned V ∧ Below w.w.heap.size w.w w') (hV : (mkSV sh 0).den [] [cs] = V) (hc : cs.all Value.oneCell' = true) : TellsA w sh (fun _ => cs.map fun v => .ro false (pV v)) e w' := by
  obtain ⟨rfl, hb⟩ := h
  exact ⟨cs, [], fun _ => 0, by rw [hV], List.nodup_nil, sK hc, hb⟩
end told
theorem qcmp_ct (x y : Rat) (k j : Nat) (hk0 : k ≤ 1000000 := by omega) (hk1 : j ≤ 1000000 := by omega) : Ct Tryz.prog JT 51 [some 4, some 4] [[pQ (x) (k)], [pQ (y) (j)]] [none] (fun _ => [.ro false (pV (.int .i64 (cmpQ x y)))]) := by
  intro w0 E hJ hA
  obtain ⟨c1, E1, rfl, _, h1, c2, E2, rfl, _, h2, hE⟩ := hA
  obtain ⟨a1, b1, c1, d1, rfl, q1⟩ := rQ h1
  obtain ⟨a2, b2, c2, d2, rfl, q2⟩ := rQ h2
  subst hE
  exact (qcmp_any _ _ x y k j w0.w ⟨_, _, _, _, rfl, q1⟩ ⟨_, _, _, _, rfl, q2⟩ hk0 hk1).mono fun e w1 h => tV h rfl
theorem within5_ct (x y x' y' : Rat) (k j : Nat) (hk0 : k ≤ 1000000 := by omega) (hk1 : j ≤ 1000000 := by omega) : Ct Tryz.prog JT 32 [some 8, some 8] [[pQ (x) (k), pQ (y) (k)], [pQ (x') (j), pQ (y') (j)]] [none] (fun _ => [.ro false (pV (.bool (decide (x' ≤ x) && decide (y ≤ y'))))]) := by
  intro w0 E hJ hA
  obtain ⟨c1, E1, rfl, _, h1, c2, E2, rfl, _, h2, hE⟩ := hA
  obtain ⟨a1, b1, c1, d1, e1, f1, g1, i1, rfl, q1⟩ := rS h1
  obtain ⟨a2, b2, c2, d2, e2, f2, g2, i2, rfl, q2⟩ := rS h2
  subst hE
  exact (within5_any _ _ x y x' y' k j w0.w ⟨_, _, _, _, _, _, _, _, rfl, q1⟩ ⟨_, _, _, _, _, _, _, _, rfl, q2⟩ hk0 hk1).mono fun e w1 h => tV h rfl
theorem has5_ct (x y z : Rat) (k j : Nat) (hk0 : k ≤ 1000000 := by omega) (hk1 : j ≤ 1000000 := by omega) : Ct Tryz.prog JT 37 [some 8, some 4] [[pQ (x) (k), pQ (y) (k)], [pQ (z) (j)]] [none] (fun _ => [.ro false (pV (.bool (decide (x ≤ z) && decide (z ≤ y))))]) := by
  intro w0 E hJ hA
  obtain ⟨c1, E1, rfl, _, h1, c2, E2, rfl, _, h2, hE⟩ := hA
  obtain ⟨a1, b1, c1, d1, e1, f1, g1, i1, rfl, q1⟩ := rS h1
  obtain ⟨a2, b2, c2, d2, rfl, q2⟩ := rQ h2
  subst hE
  exact (has5_any _ _ x y z k j w0.w ⟨_, _, _, _, _, _, _, _, rfl, q1⟩ ⟨_, _, _, _, rfl, q2⟩ hk0 hk1).mono fun e w1 h => tV h rfl
theorem hull5_ct (x y x' y' : Rat) (k : Nat) (hk0 : k ≤ 1000000 := by omega) : Ct Tryz.prog JT 29 [some 8, some 8] [[pQ (x) (k), pQ (y) (k)], [pQ (x') (k), pQ (y') (k)]] [some 8] (fun _ => [.ro false (pQ (mn x x') (k)), .ro false (pQ (mx y y') (k))]) := by
  intro w0 E hJ hA
  obtain ⟨c1, E1, rfl, _, h1, c2, E2, rfl, _, h2, hE⟩ := hA
  obtain ⟨a1, b1, c1, d1, e1, f1, g1, i1, rfl, q1⟩ := rS h1
  obtain ⟨a2, b2, c2, d2, e2, f2, g2, i2, rfl, q2⟩ := rS h2
  subst hE
  exact (hull_any _ _ x y x' y' k k w0.w ⟨_, _, _, _, _, _, _, _, rfl, q1⟩ ⟨_, _, _, _, _, _, _, _, rfl, q2⟩ hk0 rfl).mono fun e w1 h => tS h
theorem width5_ct (x y : Rat) (k : Nat) (hk0 : k ≤ 90000 := by omega) : Ct Tryz.prog JT 52 [some 8] [[pQ (x) (k), pQ (y) (k)]] [some 4] (fun _ => [.ro false (pQ (y - x) (k + k + 1))]) := by
  intro w0 E hJ hA
  obtain ⟨c1, E1, rfl, _, h1, hE⟩ := hA
  obtain ⟨a1, b1, c1, d1, e1, f1, g1, i1, rfl, q1⟩ := rS h1
  subst hE
  exact (width_any _ x y k w0.w ⟨_, _, _, _, _, _, _, _, rfl, q1⟩ hk0).mono fun e w1 h => tQ h
theorem sparse_ct (s r : ByteArray) (hs : s.size ≤ 9223372036854775807) (hr : r.size ≤ 9223372036854775807) (h : SpOk s r) : Ct Tryz.prog JT 54 [some 2] [[pV (.string s), pV (.string r)]] [some 8, none] (fun _ => [.ro false (pQ (ratVal s) (500)), .ro false (pQ (ratVal r) (500)), .ro false (pV (.int .i64 0))]) := by
  intro w0 E hJ hA
  obtain ⟨c1, E1, rfl, _, h1, hE⟩ := hA
  obtain rfl := rP h1
  subst hE
  exact (sparseY s r w0.w hs hr h).mono fun e w1 h => tSV h rfl
theorem of5_ct (s r : ByteArray) (hs : s.size ≤ 9223372036854775807) (hr : r.size ≤ 9223372036854775807) (h : OfOk s r) : Ct Tryz.prog JT 27 [some 2] [[pV (.string s), pV (.string r)]] [some 8, some 6, none] (fun _ => [.ro false (pQ (ratVal s) (21)), .ro false (pQ (ratVal r) (21)), .ro false (pD (ratVal s) (21)), .ro false (pD (ratVal r) (21)), .ro false (pV (.bool true))]) := by
  intro w0 E hJ hA
  obtain ⟨c1, E1, rfl, _, h1, hE⟩ := hA
  obtain rfl := rP h1
  subst hE
  exact (ofY s r w0.w hs hr h).mono fun e w1 h => tSEV h rfl
theorem ofN5_ct (s r : ByteArray) (hs : s.size ≤ 9223372036854775807) (hr : r.size ≤ 9223372036854775807) (h : ¬ OfOk s r) : Ct Tryz.prog JT 27 [some 2] [[pV (.string s), pV (.string r)]] [some 8, some 6, none] (fun _ => [.ro false (pV (.bool false)), .ro false (pV (.slice none 0 0)), .ro false (pV (.bool false)), .ro false (pV (.slice none 0 0)), .ro false (pV (.bool false)), .ro false (pV (.slice none 0 0)), .ro false (pV (.bool false)), .ro false (pV (.slice none 0 0)), .ro false (pV (.bool false)), .ro false (pV (.slice none 0 0)), .ro false (pV (.slice none 0 0)), .ro false (pV (.bool false)), .ro false (pV (.slice none 0 0)), .ro false (pV (.slice none 0 0)), .ro false (pV (.bool false))]) := by
  intro w0 E hJ hA
  obtain ⟨c1, E1, rfl, _, h1, hE⟩ := hA
  obtain rfl := rP h1
  subst hE
  exact (ofN s r w0.w hs hr h).mono fun e w1 h => tK [.bool false, .slice none 0 0, .bool false, .slice none 0 0, .bool false, .slice none 0 0, .bool false, .slice none 0 0, .bool false, .slice none 0 0, .slice none 0 0, .bool false, .slice none 0 0, .slice none 0 0, .bool false] h rfl rfl
theorem num_ct (s : ByteArray) (hs : s.size ≤ 9223372036854775807) (h : NumQ s) : Ct Tryz.prog JT 14 [none] [[pV (.string s)]] [some 4, some 3, none] (fun _ => [.ro false (pQ (ratVal s) (21)), .ro false (pD (ratVal s) (21)), .ro false (pV (.bool true))]) := by
  intro w0 E hJ hA
  obtain ⟨c1, E1, rfl, _, h1, hE⟩ := hA
  obtain rfl := rV h1
  subst hE
  exact (numY s w0.w hs h).mono fun e w1 h => tQDV h rfl
theorem numN_ct (s : ByteArray) (hs : s.size ≤ 9223372036854775807) (h : ¬ NumQ s) : Ct Tryz.prog JT 14 [none] [[pV (.string s)]] [some 4, some 3, none] (fun _ => [.ro false (pV (.bool false)), .ro false (pV (.slice none 0 0)), .ro false (pV (.bool false)), .ro false (pV (.slice none 0 0)), .ro false (pV (.bool false)), .ro false (pV (.slice none 0 0)), .ro false (pV (.slice none 0 0)), .ro false (pV (.bool false))]) := by
  intro w0 E hJ hA
  obtain ⟨c1, E1, rfl, _, h1, hE⟩ := hA
  obtain rfl := rV h1
  subst hE
  exact (numN s w0.w hs h).mono fun e w1 h => tK [.bool false, .slice none 0 0, .bool false, .slice none 0 0, .bool false, .slice none 0 0, .slice none 0 0, .bool false] h rfl rfl
theorem dcmp_ct (x y : Rat) (k j : Nat) (hk0 : k ≤ 3000 := by omega) (hk1 : j ≤ 3000 := by omega) : Ct Tryz.prog JT 30 [some 3, some 3] [[pD (x) (k)], [pD (y) (j)]] [none] (fun _ => [.ro false (pV (.int .i64 (cmpQ x y)))]) := by
  intro w0 E hJ hA
  obtain ⟨c1, E1, rfl, _, h1, c2, E2, rfl, _, h2, hE⟩ := hA
  obtain ⟨a1, b1, d1, rfl, q1⟩ := rD h1
  obtain ⟨a2, b2, d2, rfl, q2⟩ := rD h2
  subst hE
  exact (dcmp_any _ _ x y k j w0.w ⟨_, _, _, rfl, q1⟩ ⟨_, _, _, rfl, q2⟩ hk0 hk1).mono fun e w1 h => tV h rfl
theorem dswithin_ct (x y x' y' : Rat) (k j : Nat) (hk0 : k ≤ 3000 := by omega) (hk1 : j ≤ 3000 := by omega) : Ct Tryz.prog JT 33 [some 6, some 6] [[pD (x) (k), pD (y) (k)], [pD (x') (j), pD (y') (j)]] [none] (fun _ => [.ro false (pV (.bool (decide (x' ≤ x) && decide (y ≤ y'))))]) := by
  intro w0 E hJ hA
  obtain ⟨c1, E1, rfl, _, h1, c2, E2, rfl, _, h2, hE⟩ := hA
  obtain ⟨a1, b1, c1, d1, e1, f1, rfl, q1⟩ := rE h1
  obtain ⟨a2, b2, c2, d2, e2, f2, rfl, q2⟩ := rE h2
  subst hE
  exact (dswithin_any _ _ x y x' y' k j w0.w ⟨_, _, _, _, _, _, rfl, q1⟩ ⟨_, _, _, _, _, _, rfl, q2⟩ hk0 hk1).mono fun e w1 h => tV h rfl
theorem dshas_ct (x y z : Rat) (k j : Nat) (hk0 : k ≤ 3000 := by omega) (hk1 : j ≤ 3000 := by omega) : Ct Tryz.prog JT 38 [some 6, some 3] [[pD (x) (k), pD (y) (k)], [pD (z) (j)]] [none] (fun _ => [.ro false (pV (.bool (decide (x ≤ z) && decide (z ≤ y))))]) := by
  intro w0 E hJ hA
  obtain ⟨c1, E1, rfl, _, h1, c2, E2, rfl, _, h2, hE⟩ := hA
  obtain ⟨a1, b1, c1, d1, e1, f1, rfl, q1⟩ := rE h1
  obtain ⟨a2, b2, d2, rfl, q2⟩ := rD h2
  subst hE
  exact (dshas_any _ _ x y z k j w0.w ⟨_, _, _, _, _, _, rfl, q1⟩ ⟨_, _, _, rfl, q2⟩ hk0 hk1).mono fun e w1 h => tV h rfl
theorem is5_ct (x y : Rat) (k j : Nat) (hk0 : k ≤ 200000 := by omega) (hk1 : j ≤ 200000 := by omega) : Ct Tryz.prog JP 39 [some 8, some 6] [[pQ (x) (k), pQ (y) (k)], [pD (x) (j), pD (y) (j)]] [none] (fun _ => [.ro false (pV (.bool true))]) := by
  intro w0 E hJ hA
  obtain ⟨c1, E1, rfl, _, h1, c2, E2, rfl, _, h2, hE⟩ := hA
  obtain ⟨a1, b1, c1, d1, e1, f1, g1, i1, rfl, q1⟩ := rS h1
  obtain ⟨a2, b2, c2, d2, e2, f2, rfl, q2⟩ := rE h2
  subst hE
  exact (is5_any _ _ x y k j w0.w ⟨_, _, _, _, _, _, _, _, rfl, q1⟩ ⟨_, _, _, _, _, _, rfl, q2⟩ hk0 hk1 hJ).mono fun e w1 h => tV h rfl
end Go.Proofs.YtpmnakjllkidiaaGreatDoor

namespace Go.Proofs.YtpmnakjllkidiaaGreatDoor
open Go.RowKit Cin
def spanR : Rty := ⟨78, 8, [161], []⟩
abbrev pBox (ss : List (Rat × Rat)) (k : Nat) : Pd := pRows spanR (ss.map fun s => [pQ s.1 k, pQ s.2 k])
def rightB (ss : List (Rat × Rat)) : Bool := decide (1 ≤ ss.length) && decide (ss.length ≤ 3) && ss.all fun s => decide (s.1 < s.2)
theorem at_some {α : Type} {l : List α} {i : Nat} (h : i < l.length) : ∃ x, l[i]? = some x := ⟨l[i], by simp [h]⟩
theorem row_at {ss : List (Rat × Rat)} {i k : Nat} {s : Rat × Rat} (h : ss[i]? = some s) : (ss.map fun s => [pQ s.1 k, pQ s.2 k])[i]? = some [pQ s.1 k, pQ s.2 k] := by simp [h]
theorem right_ct (ss : List (Rat × Rat)) (k : Nat) (hk : k ≤ 1000000 := by omega) : Ct Tryz.prog JT 25 [none] [[pBox ss k]] [none] (fun _ => [.ro false (pV (.bool (rightB ss)))]) := by
  refine aCt (D := DD) hMix (tr := (.em (.pr (.call (.mk (.builtin .len) #[.tmp 0] #[26])) 3 [.s (.c 0 0)]) (.em (.pr (.binOp .lss 3 (.tmp 0) (.const (.int .i64 1)) 3) 4 [.s (.c 1 0), .s (.k (.int .i64 1))]) (.cond (.c 2 0) (.ret (.v (.s (.k (.bool false))))) (.em (.pr (.call (.mk (.builtin .len) #[.tmp 0] #[26])) 3 [.s (.c 0 0)]) (.em (.pr (.binOp .gtr 3 (.tmp 0) (.const (.int .i64 3)) 3) 4 [.s (.c 3 0), .s (.k (.int .i64 3))]) (.cond (.c 4 0) (.ret (.v (.s (.k (.bool false))))) (.em (.pr (.call (.mk (.builtin .len) #[.tmp 0] #[26])) 3 [.s (.c 0 0)]) (.loop 0 [.k (.bool false), .k (.int .i64 0)] (.em (.pr (.binOp .lss 3 (.tmp 0) (.tmp 1) 3) 0 [.s (.c 6 1), .s (.c 5 0)]) (.cond (.c 7 0) (.em (.pr (.indexAddr 26 (.tmp 0) (.tmp 1)) 0 [.s (.c 0 0), .s (.c 6 1)]) (.em (.ld (.load 78 (.tmp 0)) 78 [.s (.c 8 0)] (some 8)) (.em (.call 51 [.g [.c 9 0, .c 9 1, .c 9 2, .c 9 3], .g [.c 9 4, .c 9 5, .c 9 6, .c 9 7]] [none]) (.em (.pr (.binOp .geq 3 (.tmp 0) (.const (.int .i64 0)) 3) 4 [.s (.c 10 0), .s (.k (.int .i64 0))]) (.cond (.c 11 0) (.ret (.v (.s (.k (.bool false))))) (.em (.pr (.binOp .add 3 (.tmp 0) (.const (.int .i64 1)) 3) 3 [.s (.c 6 1), .s (.k (.int .i64 1))]) (.back 0 [.c 6 0, .c 12 0]))))))) (.ret (.v (.s (.k (.bool true)))))))))))))))) (by kernel_rfl) (by kernel_rfl) (by kernel_rfl) rfl (fun w0 => ?_)
  refine aLen rfl (List.length_map _) ?_
  refine aPr rfl (prLt rfl rfl) rfl ?_
  refine aIf rfl (fun h => ?_) (fun h => ?_)
  · have e : rightB ss = false := by simp at h; simp [rightB]; omega
    exact aRet (fun _ => 0) rfl rfl (by rw [e]; rfl)
  refine aLen rfl (List.length_map _) ?_
  refine aPr rfl (prGt rfl rfl) rfl ?_
  refine aIf rfl (fun h1 => ?_) (fun h1 => ?_)
  · have e : rightB ss = false := by simp at h1; simp [rightB]; omega
    exact aRet (fun _ => 0) rfl rfl (by rw [e]; rfl)
  refine aLen rfl (List.length_map _) ?_
  refine aLoop (fun i : Nat => [.ro true (pV (.bool false)), .ro true (pV (.int .i64 i))]) (fun i => i ≤ ss.length ∧ ∀ j s, j < i → ss[j]? = some s → s.1 < s.2) (fun i => ss.length - i) 0 rfl ⟨Nat.zero_le _, fun j s hj => by omega⟩ (fun i ⟨hi, hs⟩ => ?_)
  refine aPr rfl (prLt rfl rfl) rfl ?_
  refine aIf rfl (fun h2 => ?_) (fun h2 => ?_)
  · have hlt : i < ss.length := by simpa using h2
    obtain ⟨s, he⟩ := at_some hlt
    refine aIdx rfl rfl (fun _ => rfl) (by omega) (row_at he) ?_
    refine aLd rfl rfl rfl ?_
    refine aCall rfl (qcmp_ct _ _ _ _) (fun γ => ?_)
    refine aPr rfl (prGe rfl rfl) rfl ?_
    refine aIf rfl (fun h3 => ?_) (fun h3 => ?_)
    · have e : rightB ss = false := by
        have := cT_ge h3
        simp only [rightB, Bool.and_eq_false_iff, List.all_eq_false]
        exact .inr ⟨s, List.mem_of_getElem? he, by simp; grind⟩
      exact aRet (fun _ => 0) rfl rfl (by rw [e]; rfl)
    · have hc := cF_ge h3
      refine aPr rfl (prAddI rfl rfl (by simp at h h1; omega) (by simp at h h1; omega)) rfl ?_
      refine aBack rfl rfl ⟨i + 1, rfl, rfl, ⟨hlt, fun j s' hj hs' => ?_⟩, by omega⟩
      by_cases hji : j = i
      · subst hji; rw [he] at hs'; cases hs'; exact hc
      · exact hs j s' (by omega) hs'
  · have e : rightB ss = true := by
      have : i = ss.length := by have : ¬ i < ss.length := (by simpa using h2); omega
      simp at h h1
      simp only [rightB, Bool.and_eq_true, decide_eq_true_eq, List.all_eq_true]
      refine ⟨⟨by omega, by omega⟩, fun s hm => ?_⟩
      obtain ⟨j, hj, rfl⟩ := List.getElem_of_mem hm
      exact hs j _ (by omega) (List.getElem?_eq_getElem hj)
    exact aRet (fun _ => 0) rfl rfl (by rw [e]; rfl)
end Go.Proofs.YtpmnakjllkidiaaGreatDoor

namespace Go.Proofs.YtpmnakjllkidiaaGreatDoor
open Go.RowKit Cin
def filled (xs : List (List Pd)) (z : List Pd) (i : Nat) : List (List Pd) := xs.take i ++ List.replicate (xs.length - i) z
theorem filled_zero (xs : List (List Pd)) (z : List Pd) : List.replicate xs.length z = filled xs z 0 := by simp [filled]
theorem filled_len (xs : List (List Pd)) (z : List Pd) {i : Nat} (h : i ≤ xs.length) : (filled xs z i).length = xs.length := by simp [filled]; omega
theorem filled_at (xs : List (List Pd)) (z : List Pd) {i : Nat} (h : i < xs.length) : (filled xs z i)[i]? = some z := by
  unfold filled
  rw [List.getElem?_append_right (by simp; omega), List.length_take, Nat.min_eq_left (by omega), Nat.sub_self, List.getElem?_replicate, if_pos (by omega)]
theorem filled_set (xs : List (List Pd)) (z : List Pd) {i : Nat} {row : List Pd} (h : xs[i]? = some row) : (filled xs z i).set i row = filled xs z (i + 1) := by
  have hlt := (List.getElem?_eq_some_iff.1 h).1
  refine List.ext_getElem? fun j => ?_
  unfold filled
  rw [List.getElem?_set]
  by_cases e : i = j
  · subst e
    rw [if_pos rfl, if_pos (by simp; omega), List.getElem?_append_left (by simp; omega), List.getElem?_take, if_pos (by omega), h]
  · rw [if_neg e]
    by_cases hj : j < i
    · rw [List.getElem?_append_left (by simp; omega), List.getElem?_append_left (by simp; omega), List.getElem?_take, List.getElem?_take, if_pos hj, if_pos (by omega)]
    · rw [List.getElem?_append_right (by simp; omega), List.getElem?_append_right (by simp; omega), List.getElem?_replicate, List.getElem?_replicate]
      simp only [List.length_take]
      by_cases hl : j < xs.length
      · rw [if_pos (by omega), if_pos (by omega)]
      · rw [if_neg (by omega), if_neg (by omega)]
theorem filled_all (xs : List (List Pd)) (z : List Pd) : filled xs z xs.length = xs := by simp [filled]
def DS : TypeId → Bool := fun t => t == 161 || t == 78
def zSpan : List Pd := [pV (.bool false), pV (.slice none 0 0), pV (.bool false), pV (.slice none 0 0), pV (.bool false), pV (.slice none 0 0), pV (.bool false), pV (.slice none 0 0)]
abbrev rowsB (ss : List (Rat × Rat)) (k : Nat) : List (List Pd) := ss.map fun s => [pQ s.1 k, pQ s.2 k]
end Go.Proofs.YtpmnakjllkidiaaGreatDoor

namespace Go.Proofs.YtpmnakjllkidiaaGreatDoor
open Go.RowKit Cin
def wAt (ss : List (Rat × Rat)) (i : Nat) : Rat := (ss.getD i (0, 0)).2 - (ss.getD i (0, 0)).1
theorem wAt_of {ss : List (Rat × Rat)} {i : Nat} {s : Rat × Rat} (h : ss[i]? = some s) : s.2 - s.1 = wAt ss i := by simp [wAt, h]
def IsFM (f : Nat → Rat) (n m : Nat) : Prop := m < n ∧ (∀ j, j < n → f j ≤ f m) ∧ ∀ j, j < m → f j < f m
theorem IsFM.unique {f : Nat → Rat} {n m m' : Nat} (h : IsFM f n m) (h' : IsFM f n m') : m = m' := by
  rcases Nat.lt_trichotomy m m' with e | e | e
  · have h1 := h'.2.2 m e; have h2 := h.2.1 m' h'.1; grind
  · exact e
  · have h1 := h.2.2 m' e; have h2 := h'.2.1 m h.1; grind
theorem IsFM.one (f : Nat → Rat) : IsFM f 1 0 := ⟨by omega, fun j hj => by have : j = 0 := by omega
                                                                           subst this; exact Rat.le_refl, fun j hj => by omega⟩
theorem IsFM.new {f : Nat → Rat} {n m : Nat} (h : IsFM f n m) (hg : f m < f n) : IsFM f (n + 1) n :=
  ⟨by omega, fun j hj => by
    by_cases e : j = n
    · subst e; exact Rat.le_refl
    · have := h.2.1 j (by omega); grind, fun j hj => by have := h.2.1 j hj; grind⟩
theorem IsFM.old {f : Nat → Rat} {n m : Nat} (h : IsFM f n m) (hg : f n ≤ f m) : IsFM f (n + 1) m :=
  ⟨by have := h.1; omega, fun j hj => by
    by_cases e : j = n
    · subst e; exact hg
    · exact h.2.1 j (by omega), h.2.2⟩
theorem IsFM.ex (f : Nat → Rat) : ∀ n, 0 < n → ∃ m, IsFM f n m
  | 1, _ => ⟨0, .one f⟩
  | n + 2, _ => by
    obtain ⟨m, h⟩ := IsFM.ex f (n + 1) (by omega)
    by_cases e : f m < f (n + 1)
    · exact ⟨_, h.new e⟩
    · exact ⟨_, h.old (by grind)⟩
def IsWd (ss : List (Rat × Rat)) (z : Int) : Prop := (rightB ss = true ∧ ∃ m : Nat, z = m ∧ IsFM (wAt ss) ss.length m) ∨ (rightB ss = false ∧ z = -1)
theorem right_pos {ss : List (Rat × Rat)} (h : rightB ss = true) : 0 < ss.length ∧ ss.length ≤ 3 := by
  simp only [rightB, Bool.and_eq_true, decide_eq_true_eq] at h
  exact ⟨by omega, h.1.2⟩
theorem not_eq {b : Bool} (h : (!b) = true) : b = false := by cases b <;> simp_all
theorem not_eq' {b : Bool} (h : (!b) = false) : b = true := by cases b <;> simp_all
theorem widest_ct (ss : List (Rat × Rat)) (k : Nat) (z : Int) (hz : IsWd ss z) (hk : k ≤ 90000 := by omega) : Ct Tryz.prog JT 26 [none] [[pBox ss k]] [none] (fun _ => [.ro false (pV (.int .i64 z))]) := by
  refine aCt (D := DD) hMix (tr := (.em (.call 25 [.s (.c 0 0)] [none]) (.em (.pr (.unOp .not 4 (.tmp 0)) 4 [.s (.c 1 0)]) (.cond (.c 2 0) (.ret (.v (.s (.k (.int .i64 (Int.negSucc 0)))))) (.em (.pr (.indexAddr 26 (.tmp 0) (.const (.int .i64 0))) 0 [.s (.c 0 0), .s (.k (.int .i64 0))]) (.em (.ld (.load 78 (.tmp 0)) 78 [.s (.c 3 0)] (some 8)) (.em (.call 52 [.g [.c 4 0, .c 4 1, .c 4 2, .c 4 3, .c 4 4, .c 4 5, .c 4 6, .c 4 7]] [some 4]) (.em (.pr (.call (.mk (.builtin .len) #[.tmp 0] #[26])) 3 [.s (.c 0 0)]) (.loop 0 [.k (.int .i64 0), .k (.int .i64 0), .c 5 0, .c 5 1, .c 5 2, .c 5 3] (.em (.pr (.binOp .lss 3 (.tmp 0) (.tmp 1) 3) 0 [.s (.c 7 1), .s (.c 6 0)]) (.cond (.c 8 0) (.em (.pr (.indexAddr 26 (.tmp 0) (.tmp 1)) 0 [.s (.c 0 0), .s (.c 7 1)]) (.em (.ld (.load 78 (.tmp 0)) 78 [.s (.c 9 0)] (some 8)) (.em (.call 52 [.g [.c 10 0, .c 10 1, .c 10 2, .c 10 3, .c 10 4, .c 10 5, .c 10 6, .c 10 7]] [some 4]) (.em (.call 51 [.g [.c 11 0, .c 11 1, .c 11 2, .c 11 3], .g [.c 7 2, .c 7 3, .c 7 4, .c 7 5]] [none]) (.em (.pr (.binOp .gtr 3 (.tmp 0) (.const (.int .i64 0)) 3) 4 [.s (.c 12 0), .s (.k (.int .i64 0))]) (.cond (.c 13 0) (.em (.pr (.binOp .add 3 (.tmp 0) (.const (.int .i64 1)) 3) 3 [.s (.c 7 1), .s (.k (.int .i64 1))]) (.back 0 [.c 7 1, .c 14 0, .c 11 0, .c 11 1, .c 11 2, .c 11 3])) (.em (.pr (.binOp .add 3 (.tmp 0) (.const (.int .i64 1)) 3) 3 [.s (.c 7 1), .s (.k (.int .i64 1))]) (.back 0 [.c 7 0, .c 14 0, .c 7 2, .c 7 3, .c 7 4, .c 7 5])))))))) (.ret (.v (.s (.c 7 0))))))))))))))) (by kernel_rfl) (by kernel_rfl) (by kernel_rfl) rfl (fun w0 => ?_)
  refine aCall rfl (right_ct _ _) (fun γ => ?_)
  refine aPr rfl (prNot rfl) rfl ?_
  refine aIf rfl (fun h1 => ?_) (fun h1 => ?_)
  · have hz1 : z = -1 := by
      rcases hz with ⟨h, _⟩ | ⟨_, h⟩
      · rw [not_eq h1] at h; cases h
      · exact h
    subst hz1
    exact aRet (fun _ => 0) rfl rfl rfl
  · have hr := not_eq' h1
    obtain ⟨hp, hp3⟩ := right_pos hr
    obtain ⟨m, rfl, hm⟩ : ∃ m : Nat, z = m ∧ IsFM (wAt ss) ss.length m := by
      rcases hz with ⟨_, h⟩ | ⟨h, _⟩
      · exact h
      · rw [hr] at h; cases h
    obtain ⟨s, he⟩ := at_some hp
    refine aIdx rfl rfl (fun _ => rfl) (by omega) (row_at he) ?_
    refine aLd rfl rfl rfl ?_
    refine aCall rfl (width5_ct _ _ _) (fun γ => ?_)
    rw [wAt_of he]
    refine aLen rfl (List.length_map _) ?_
    refine aLoop (fun s : Nat × Nat => [.ro true (pV (.int .i64 s.1)), .ro true (pV (.int .i64 s.2)), .ro false (pQ (wAt ss s.1) (k + k + 1))]) (fun s => s.2 ≤ ss.length ∧ IsFM (wAt ss) (max s.2 1) s.1) (fun s => ss.length - s.2) (0, 0) rfl ⟨Nat.zero_le _, .one _⟩ (fun s ⟨hi, hf⟩ => ?_)
    obtain ⟨b, i⟩ := s
    simp only at hi hf ⊢
    refine aPr rfl (prLt rfl rfl) rfl ?_
    refine aIf rfl (fun h2 => ?_) (fun h2 => ?_)
    · have hlt : i < ss.length := by simpa using h2
      obtain ⟨s, he⟩ := at_some hlt
      refine aIdx rfl rfl (fun _ => rfl) (by omega) (row_at he) ?_
      refine aLd rfl rfl rfl ?_
      refine aCall rfl (width5_ct _ _ _) (fun γ => ?_)
      rw [wAt_of he]
      refine aCall rfl (qcmp_ct _ _ _ _) (fun γ => ?_)
      refine aPr rfl (prGt rfl rfl) rfl ?_
      refine aIf rfl (fun h3 => ?_) (fun h3 => ?_)
      · have hg := cT_gt h3
        have hi1 : 1 ≤ i := by
          rcases Nat.eq_zero_or_pos i with h | h
          · subst h
            have : b = 0 := by have := hf.1; simp at this; exact this
            subst this; grind
          · exact h
        rw [Nat.max_eq_left hi1] at hf
        refine aPr rfl (prAddI rfl rfl (by omega) (by omega)) rfl ?_
        exact aBack rfl rfl ⟨(i, i + 1), rfl, rfl, ⟨hlt, by rw [Nat.max_eq_left (by omega)]; exact hf.new hg⟩, by show ss.length - (i + 1) < ss.length - i; omega⟩
      · have hg := cF_gt h3
        refine aPr rfl (prAddI rfl rfl (by omega) (by omega)) rfl ?_
        refine aBack rfl rfl ⟨(b, i + 1), rfl, rfl, ⟨hlt, ?_⟩, by show ss.length - (i + 1) < ss.length - i; omega⟩
        show IsFM _ (max (i + 1) 1) b
        rw [Nat.max_eq_left (by omega)]
        rcases Nat.eq_zero_or_pos i with h | h
        · subst h
          simpa using hf
        · rw [Nat.max_eq_left h] at hf; exact hf.old hg
    · have hi2 : i = ss.length := by have : ¬ i < ss.length := (by simpa using h2); omega
      rw [hi2, Nat.max_eq_left hp] at hf
      have := hf.unique hm
      subst this
      exact aRet (fun _ => 0) rfl rfl rfl
def ratR : Rty := ⟨43, 4, [161], []⟩
def pairR : Rty := ⟨74, 2, [], []⟩
abbrev rowsQ (xs : List Rat) (k : Nat) : List (List Pd) := xs.map fun x => [pQ x k]
abbrev rowsT (xs : List (ByteArray × ByteArray)) : List (List Pd) := xs.map fun x => [pV (.string x.1), pV (.string x.2)]
theorem map_at {α : Type} {f : α → List Pd} {xs : List α} {i : Nat} {x : α} (h : xs[i]? = some x) : (xs.map f)[i]? = some (f x) := by simp [h]
theorem alike_ct (ss ts : List (Rat × Rat)) (k : Nat) (hk : k ≤ 1000000 := by omega) : Ct Tryz.prog JT 28 [none, none] [[pBox ss k], [pBox ts k]] [none] (fun _ => [.ro false (pV (.bool (decide (ss.length = ts.length) && rightB ss && rightB ts)))]) := by
  refine aCt (D := DD) hMix (tr := (.em (.pr (.call (.mk (.builtin .len) #[.tmp 0] #[26])) 3 [.s (.c 0 0)]) (.em (.pr (.call (.mk (.builtin .len) #[.tmp 0] #[26])) 3 [.s (.c 1 0)]) (.em (.pr (.binOp .eql 3 (.tmp 0) (.tmp 1) 3) 4 [.s (.c 2 0), .s (.c 3 0)]) (.cond (.c 4 0) (.em (.call 25 [.s (.c 0 0)] [none]) (.cond (.c 5 0) (.em (.call 25 [.s (.c 1 0)] [none]) (.ret (.v (.s (.c 6 0))))) (.ret (.v (.s (.k (.bool false))))))) (.ret (.v (.s (.k (.bool false)))))))))) (by kernel_rfl) (by kernel_rfl) (by kernel_rfl) rfl (fun w0 => ?_)
  refine aLen rfl (List.length_map _) ?_
  refine aLen rfl (List.length_map _) ?_
  refine aPr rfl (prEq rfl rfl) rfl ?_
  refine aIf rfl (fun h1 => ?_) (fun h1 => ?_)
  · have e : decide (ss.length = ts.length) = true := by simp at h1; simp; omega
    refine aCall rfl (right_ct _ _) (fun γ => ?_)
    refine aIf rfl (fun h2 => ?_) (fun h2 => ?_)
    · refine aCall rfl (right_ct _ _) (fun γ => ?_)
      exact aRet (fun _ => 0) rfl rfl (by rw [e, h2]; rfl)
    · exact aRet (fun _ => 0) rfl rfl (by rw [e, h2]; rfl)
  · have e : decide (ss.length = ts.length) = false := by simp at h1; simp; omega
    exact aRet (fun _ => 0) rfl rfl (by rw [e]; rfl)
def hullB (ss ts : List (Rat × Rat)) : List (Rat × Rat) := List.zipWith (fun a b => (mn a.1 b.1, mx a.2 b.2)) ss ts
theorem hull_at {ss ts : List (Rat × Rat)} {i : Nat} {s t : Rat × Rat} (h : ss[i]? = some s) (h' : ts[i]? = some t) : (hullB ss ts)[i]? = some (mn s.1 t.1, mx s.2 t.2) := by simp [hullB, List.getElem?_zipWith, h, h']
theorem hullN_ct (ss ts : List (Rat × Rat)) (k : Nat) (h : (decide (ss.length = ts.length) && rightB ss && rightB ts) = false) (hk : k ≤ 1000000 := by omega) : Ct Tryz.prog JT 8 [none, none] [[pBox ss k], [pBox ts k]] [none, none] (fun _ => [.ro false (pV (.slice none 0 0)), .ro false (pV (.bool false))]) := by
  refine aCt (D := DS) hMix (tr := (.em (.call 28 [.s (.c 0 0), .s (.c 1 0)] [none]) (.em (.pr (.unOp .not 4 (.tmp 0)) 4 [.s (.c 2 0)]) (.cond (.c 3 0) (.ret (.t [.s (.k (.slice none 0 0)), .s (.k (.bool false))])) (.em (.pr (.call (.mk (.builtin .len) #[.tmp 0] #[26])) 3 [.s (.c 0 0)]) (.em (.wx (.makeSlice 26 (.tmp 0) (.tmp 1)) 26 [.s (.c 4 0), .s (.c 4 0)] (some none)) (.em (.pr (.call (.mk (.builtin .len) #[.tmp 0] #[26])) 3 [.s (.c 0 0)]) (.loop 0 [.k (.int .i64 0)] (.em (.pr (.binOp .lss 3 (.tmp 0) (.tmp 1) 3) 0 [.s (.c 7 0), .s (.c 6 0)]) (.cond (.c 8 0) (.em (.pr (.indexAddr 26 (.tmp 0) (.tmp 1)) 0 [.s (.c 0 0), .s (.c 7 0)]) (.em (.pr (.indexAddr 26 (.tmp 0) (.tmp 1)) 0 [.s (.c 1 0), .s (.c 7 0)]) (.em (.ld (.load 78 (.tmp 0)) 78 [.s (.c 9 0)] (some 8)) (.em (.ld (.load 78 (.tmp 0)) 78 [.s (.c 10 0)] (some 8)) (.em (.call 29 [.g [.c 11 0, .c 11 1, .c 11 2, .c 11 3, .c 11 4, .c 11 5, .c 11 6, .c 11 7], .g [.c 12 0, .c 12 1, .c 12 2, .c 12 3, .c 12 4, .c 12 5, .c 12 6, .c 12 7]] [some 8]) (.em (.pr (.indexAddr 26 (.tmp 0) (.tmp 1)) 0 [.s (.c 5 0), .s (.c 7 0)]) (.em (.wx (.store 78 (.tmp 0) (.tmp 1)) 0 [.s (.c 14 0), .g [.c 13 0, .c 13 1, .c 13 2, .c 13 3, .c 13 4, .c 13 5, .c 13 6, .c 13 7]] none) (.em (.pr (.binOp .add 3 (.tmp 0) (.const (.int .i64 1)) 3) 3 [.s (.c 7 0), .s (.k (.int .i64 1))]) (.back 0 [.c 16 0]))))))))) (.ret (.t [.s (.c 5 0), .s (.k (.bool true))])))))))))))) (by kernel_rfl) (by kernel_rfl) (by kernel_rfl) rfl (fun w0 => ?_)
  refine aCall rfl (alike_ct _ _ _) (fun γ => ?_)
  rw [h]
  refine aPr rfl (prNot rfl) rfl ?_
  refine aTrue rfl ?_
  exact aRet (fun _ => 0) rfl rfl rfl
theorem hull_ct (ss ts : List (Rat × Rat)) (k : Nat) (h : (decide (ss.length = ts.length) && rightB ss && rightB ts) = true) (hk : k ≤ 1000000 := by omega) : Ct Tryz.prog JT 8 [none, none] [[pBox ss k], [pBox ts k]] [none, none] (fun γ => [.own (γ 0) spanR (rowsB (hullB ss ts) k), .ro false (pV (.bool true))]) := by
  have h0 := h
  simp only [Bool.and_eq_true, decide_eq_true_eq] at h0
  have hl := right_pos h0.1.2
  have hll : (hullB ss ts).length = ss.length := by simp [hullB]; omega
  refine aCt (D := DS) hMix (tr := (.em (.call 28 [.s (.c 0 0), .s (.c 1 0)] [none]) (.em (.pr (.unOp .not 4 (.tmp 0)) 4 [.s (.c 2 0)]) (.cond (.c 3 0) (.ret (.t [.s (.k (.slice none 0 0)), .s (.k (.bool false))])) (.em (.pr (.call (.mk (.builtin .len) #[.tmp 0] #[26])) 3 [.s (.c 0 0)]) (.em (.wx (.makeSlice 26 (.tmp 0) (.tmp 1)) 26 [.s (.c 4 0), .s (.c 4 0)] (some none)) (.em (.pr (.call (.mk (.builtin .len) #[.tmp 0] #[26])) 3 [.s (.c 0 0)]) (.loop 0 [.k (.int .i64 0)] (.em (.pr (.binOp .lss 3 (.tmp 0) (.tmp 1) 3) 0 [.s (.c 7 0), .s (.c 6 0)]) (.cond (.c 8 0) (.em (.pr (.indexAddr 26 (.tmp 0) (.tmp 1)) 0 [.s (.c 0 0), .s (.c 7 0)]) (.em (.pr (.indexAddr 26 (.tmp 0) (.tmp 1)) 0 [.s (.c 1 0), .s (.c 7 0)]) (.em (.ld (.load 78 (.tmp 0)) 78 [.s (.c 9 0)] (some 8)) (.em (.ld (.load 78 (.tmp 0)) 78 [.s (.c 10 0)] (some 8)) (.em (.call 29 [.g [.c 11 0, .c 11 1, .c 11 2, .c 11 3, .c 11 4, .c 11 5, .c 11 6, .c 11 7], .g [.c 12 0, .c 12 1, .c 12 2, .c 12 3, .c 12 4, .c 12 5, .c 12 6, .c 12 7]] [some 8]) (.em (.pr (.indexAddr 26 (.tmp 0) (.tmp 1)) 0 [.s (.c 5 0), .s (.c 7 0)]) (.em (.wx (.store 78 (.tmp 0) (.tmp 1)) 0 [.s (.c 14 0), .g [.c 13 0, .c 13 1, .c 13 2, .c 13 3, .c 13 4, .c 13 5, .c 13 6, .c 13 7]] none) (.em (.pr (.binOp .add 3 (.tmp 0) (.const (.int .i64 1)) 3) 3 [.s (.c 7 0), .s (.k (.int .i64 1))]) (.back 0 [.c 16 0]))))))))) (.ret (.t [.s (.c 5 0), .s (.k (.bool true))])))))))))))) (by kernel_rfl) (by kernel_rfl) (by kernel_rfl) rfl (fun w0 => ?_)
  refine aCall rfl (alike_ct _ _ _) (fun γ => ?_)
  rw [h]
  refine aPr rfl (prNot rfl) rfl ?_
  refine aFalse rfl ?_
  refine aLen rfl (List.length_map _) ?_
  refine aMake ss.length spanR (zs := ZeroS) (zrow := zSpan) rfl rfl rfl rfl (fun g5 => ?_) (by show _ * 8 ≤ _; omega)
  refine aLen rfl (List.length_map _) ?_
  have e0 : List.replicate ss.length zSpan = filled (rowsB (hullB ss ts) k) zSpan 0 := by have := filled_zero (rowsB (hullB ss ts) k) zSpan; rwa [List.length_map, hll] at this
  rw [e0]
  refine aLoopU [(5, 0, fun i : Nat => .own g5 spanR (filled (rowsB (hullB ss ts) k) zSpan i))] (fun i : Nat => [.ro true (pV (.int .i64 i))]) (fun i => i ≤ ss.length) (fun i => ss.length - i) 0 (Nat.zero_le _) (fun i hi => ?_)
  refine aPr rfl (prLt rfl rfl) rfl ?_
  refine aIf rfl (fun h2 => ?_) (fun h2 => ?_)
  · have hlt : i < ss.length := by simpa using h2
    obtain ⟨s, he⟩ := at_some hlt
    obtain ⟨t, he'⟩ := at_some (show i < ts.length by omega)
    refine aIdx rfl rfl (fun _ => rfl) (by omega) (row_at he) ?_
    refine aIdx rfl rfl (fun _ => rfl) (by omega) (row_at he') ?_
    refine aLd rfl rfl rfl ?_
    refine aLd rfl rfl rfl ?_
    refine aCall rfl (hull5_ct _ _ _ _ _) (fun γ => ?_)
    refine aIdxO rfl rfl (fun _ => rfl) (by omega) (by rw [filled_len _ _ (by simp [hll]; omega)]; simp [hll]; omega) ?_
    refine aStore 5 0 i 0 rfl rfl rfl rfl (filled_at _ _ (by simpa [hll] using hlt)) (by show _ = i * 8 + 0; rfl) rfl rfl ?_
    rw [filled_set _ _ (row_at (hull_at he he'))]
    refine aPr rfl (prAddI rfl rfl (by omega) (by omega)) rfl ?_
    exact aBack rfl rfl ⟨i + 1, rfl, rfl, hlt, by omega⟩
  · have hi2 : i = ss.length := by have : ¬ i < ss.length := (by simpa using h2); omega
    subst hi2
    refine aRet (fun _ => g5) rfl rfl ?_
    have := filled_all (rowsB (hullB ss ts) k) zSpan
    rw [List.length_map, hll] at this
    rw [this]; rfl
def hasB (ss : List (Rat × Rat)) (xs : List Rat) : Bool := rightB ss && decide (ss.length = xs.length) && (ss.zip xs).all fun p => decide (p.1.1 ≤ p.2) && decide (p.2 ≤ p.1.2)
abbrev pRats (xs : List Rat) (k : Nat) : Pd := pRows ratR (rowsQ xs k)
theorem zip_at {α β : Type} {ss : List α} {ts : List β} {i : Nat} {s : α} {t : β} (h : ss[i]? = some s) (h' : ts[i]? = some t) : (ss.zip ts)[i]? = some (s, t) := by simp [List.zip, List.getElem?_zipWith, h, h']
theorem all_of {α : Type} {l : List α} {p : α → Bool} (h : ∀ (j : Nat) (x : α), l[j]? = some x → p x = true) : l.all p = true := by
  rw [List.all_eq_true]
  intro x hx
  obtain ⟨j, hj, rfl⟩ := List.getElem_of_mem hx
  exact h j _ (List.getElem?_eq_getElem hj)
theorem all_no {α : Type} {l : List α} {p : α → Bool} {j : Nat} {x : α} (h : l[j]? = some x) (hp : p x = false) : l.all p = false := by
  rw [List.all_eq_false]; exact ⟨x, List.mem_of_getElem? h, by rw [hp]; simp⟩
theorem bhas_ct (ss : List (Rat × Rat)) (xs : List Rat) (k j : Nat) (hk : k ≤ 1000000 := by omega) (hj : j ≤ 1000000 := by omega) : Ct Tryz.prog JT 15 [none, none] [[pBox ss k], [pRats xs j]] [none] (fun _ => [.ro false (pV (.bool (hasB ss xs)))]) := by
  refine aCt (D := DD) hMix (tr := (.em (.call 25 [.s (.c 0 0)] [none]) (.em (.pr (.unOp .not 4 (.tmp 0)) 4 [.s (.c 2 0)]) (.cond (.c 3 0) (.ret (.v (.s (.k (.bool false))))) (.em (.pr (.call (.mk (.builtin .len) #[.tmp 0] #[26])) 3 [.s (.c 0 0)]) (.em (.pr (.call (.mk (.builtin .len) #[.tmp 0] #[35])) 3 [.s (.c 1 0)]) (.em (.pr (.binOp .neq 3 (.tmp 0) (.tmp 1) 3) 4 [.s (.c 4 0), .s (.c 5 0)]) (.cond (.c 6 0) (.ret (.v (.s (.k (.bool false))))) (.em (.pr (.call (.mk (.builtin .len) #[.tmp 0] #[26])) 3 [.s (.c 0 0)]) (.loop 0 [.k (.bool false), .k (.int .i64 0)] (.em (.pr (.binOp .lss 3 (.tmp 0) (.tmp 1) 3) 0 [.s (.c 8 1), .s (.c 7 0)]) (.cond (.c 9 0) (.em (.pr (.indexAddr 26 (.tmp 0) (.tmp 1)) 0 [.s (.c 0 0), .s (.c 8 1)]) (.em (.ld (.load 78 (.tmp 0)) 78 [.s (.c 10 0)] (some 8)) (.em (.pr (.indexAddr 35 (.tmp 0) (.tmp 1)) 0 [.s (.c 1 0), .s (.c 8 1)]) (.em (.ld (.load 43 (.tmp 0)) 43 [.s (.c 12 0)] (some 4)) (.em (.call 37 [.g [.c 11 0, .c 11 1, .c 11 2, .c 11 3, .c 11 4, .c 11 5, .c 11 6, .c 11 7], .g [.c 13 0, .c 13 1, .c 13 2, .c 13 3]] [none]) (.em (.pr (.unOp .not 4 (.tmp 0)) 4 [.s (.c 14 0)]) (.cond (.c 15 0) (.ret (.v (.s (.k (.bool false))))) (.em (.pr (.binOp .add 3 (.tmp 0) (.const (.int .i64 1)) 3) 3 [.s (.c 8 1), .s (.k (.int .i64 1))]) (.back 0 [.c 8 0, .c 16 0]))))))))) (.ret (.v (.s (.k (.bool true))))))))))))))))) (by kernel_rfl) (by kernel_rfl) (by kernel_rfl) rfl (fun w0 => ?_)
  refine aCall rfl (right_ct _ _) (fun γ => ?_)
  refine aPr rfl (prNot rfl) rfl ?_
  refine aIf rfl (fun h1 => ?_) (fun h1 => ?_)
  · have e := not_eq h1
    exact aRet (fun _ => 0) rfl rfl (by rw [hasB, e]; rfl)
  · have hr := not_eq' h1
    have hp := right_pos hr
    refine aLen rfl (List.length_map _) ?_
    refine aLen rfl (List.length_map _) ?_
    refine aPr rfl (prNe rfl rfl) rfl ?_
    refine aIf rfl (fun h2 => ?_) (fun h2 => ?_)
    · have e : decide (ss.length = xs.length) = false := by simp at h2; simp; omega
      exact aRet (fun _ => 0) rfl rfl (by rw [hasB, e, Bool.and_false]; rfl)
    · have hl : ss.length = xs.length := by simp at h2; omega
      have e : decide (ss.length = xs.length) = true := by simp [hl]
      refine aLen rfl (List.length_map _) ?_
      refine aLoop (fun i : Nat => [.ro true (pV (.bool false)), .ro true (pV (.int .i64 i))]) (fun i => i ≤ ss.length ∧ ∀ (j : Nat) (s : Rat × Rat) (x : Rat), j < i → ss[j]? = some s → xs[j]? = some x → (decide (s.1 ≤ x) && decide (x ≤ s.2)) = true) (fun i => ss.length - i) 0 rfl ⟨Nat.zero_le _, fun j s x hj => by omega⟩ (fun i ⟨hi, hs⟩ => ?_)
      refine aPr rfl (prLt rfl rfl) rfl ?_
      refine aIf rfl (fun h3 => ?_) (fun h3 => ?_)
      · have hlt : i < ss.length := by simpa using h3
        obtain ⟨s, he⟩ := at_some hlt
        obtain ⟨x, hx⟩ := at_some (show i < xs.length by omega)
        refine aIdx rfl rfl (fun _ => rfl) (by omega) (row_at he) ?_
        refine aLd rfl rfl rfl ?_
        refine aIdx rfl rfl (fun _ => rfl) (by omega) (map_at (f := fun x => [pQ x j]) hx) ?_
        refine aLd rfl rfl rfl ?_
        refine aCall rfl (has5_ct _ _ _ _ _) (fun γ => ?_)
        refine aPr rfl (prNot rfl) rfl ?_
        refine aIf rfl (fun h4 => ?_) (fun h4 => ?_)
        · have h5 := not_eq h4
          have h6 := all_no (p := fun p : (Rat × Rat) × Rat => decide (p.1.1 ≤ p.2) && decide (p.2 ≤ p.1.2)) (zip_at he hx) h5
          exact aRet (fun _ => 0) rfl rfl (by rw [hasB, h6, Bool.and_false]; rfl)
        · have h5 := not_eq' h4
          refine aPr rfl (prAddI rfl rfl (by omega) (by omega)) rfl ?_
          refine aBack rfl rfl ⟨i + 1, rfl, rfl, ⟨hlt, fun j s' x' hj hs' hx' => ?_⟩, by omega⟩
          by_cases hji : j = i
          · subst hji; rw [he] at hs'; rw [hx] at hx'; cases hs'; cases hx'; exact h5
          · exact hs j s' x' (by omega) hs' hx'
      · have hi2 : i = ss.length := by have : ¬ i < ss.length := (by simpa using h3); omega
        have h6 : ((ss.zip xs).all fun p => decide (p.1.1 ≤ p.2) && decide (p.2 ≤ p.1.2)) = true := all_of fun j p hp => by
          obtain ⟨s, x⟩ := p
          have hjl := (List.getElem?_eq_some_iff.1 hp).1
          rw [List.length_zip] at hjl
          obtain ⟨s', h1⟩ := at_some (show j < ss.length by omega)
          obtain ⟨x', h2⟩ := at_some (show j < xs.length by omega)
          rw [zip_at h1 h2] at hp
          cases hp
          exact hs j s x (by omega) h1 h2
        exact aRet (fun _ => 0) rfl rfl (by rw [hasB, h6, hr, e]; rfl)
end Go.Proofs.YtpmnakjllkidiaaGreatDoor

namespace Go.Proofs.YtpmnakjllkidiaaGreatDoor
open Go.RowKit Cin
theorem isDyadic_ct (x : Rat) (k : Nat) (hk : k ≤ 8000 := by omega) : Ct Tryz.prog JT 93 [some 4] [[pQ x k]] [none] (fun _ => [.ro false (pV (.bool (decide (DyOk x))))]) := by
  have hof : Ct Tryz.prog JT 130 [some 4] [[pQ x k]] [some 3, none] (fun _ => [.junk 3, .ro false (pV (.bool (decide (DyOk x))))]) := by
    intro w0 E hJ hA
    obtain ⟨c1, E1, rfl, _, h1, hE⟩ := hA
    obtain ⟨a1, b1, c1, d1, rfl, q1⟩ := rQ h1
    subst hE
    by_cases hq : DyOk x
    · rw [decide_eq_true hq]
      refine (yof_yes _ x k w0.w hJ ⟨_, _, _, _, rfl, q1⟩ hk hq).mono ?_
      rintro e w' ⟨v, rfl, ⟨a, b, rfl, h⟩, hb⟩
      exact ⟨[a, b, .int .i64 (expOf x), .bool true], [], fun _ => 0, rfl, List.nodup_nil, (RepS.one_of (a := .junk 3) (o := []) (c := [a, b, .int .i64 (expOf x)]) ⟨rfl, ypl h _ rfl, rfl⟩).app (sV rfl), hb⟩
    · rw [decide_eq_false hq]
      refine (yof_no _ x k w0.w hJ ⟨_, _, _, _, rfl, q1⟩ hk hq).mono ?_
      rintro e w' ⟨rfl, hb⟩
      exact ⟨[.bool false, .slice none 0 0, .int .i64 0, .bool false], [], fun _ => 0, rfl, List.nodup_nil, (RepS.one_of (a := .junk 3) (o := []) (c := [.bool false, .slice none 0 0, .int .i64 0]) ⟨rfl, rfl, rfl⟩).app (sV rfl), hb⟩
  refine aCt (D := DD) hMix (tr := (.em (.call 130 [.g [.c 0 0, .c 0 1, .c 0 2, .c 0 3]] [some 3, none]) (.ret (.v (.s (.c 1 3)))))) (by kernel_rfl) (by kernel_rfl) (by kernel_rfl) rfl (fun w0 => ?_)
  refine aCall rfl hof (fun γ => ?_)
  exact aRet (fun _ => 0) rfl rfl rfl
open Classical in
noncomputable def sideC (t : ByteArray × ByteArray) : Int := if SpOk t.1 t.2 then (if ratVal t.2 ≤ ratVal t.1 then 1 else if DyOk (ratVal t.1) then (if DyOk (ratVal t.2) then 0 else 2) else 2) else spCode t.1 t.2
theorem spCode_ne {s r : ByteArray} (h : ¬ SpOk s r) : spCode s r ≠ 0 := by
  unfold spCode
  unfold SpOk at h
  split
  · rename_i h1
    split
    · rename_i h2; exact absurd ⟨h1.1, h1.2, h2⟩ h
    · decide
  · decide
theorem sideC_ok {t : ByteArray × ByteArray} (h : sideC t = 0) : SpOk t.1 t.2 ∧ ratVal t.1 < ratVal t.2 ∧ DyOk (ratVal t.1) ∧ DyOk (ratVal t.2) := by
  unfold sideC at h
  split at h
  · rename_i h1
    split at h
    · cases h
    · rename_i h2
      split at h
      · rename_i h3
        split at h
        · rename_i h4; exact ⟨h1, by grind, h3, h4⟩
        · cases h
      · cases h
  · rename_i h1; exact absurd h (spCode_ne h1)
theorem pside_ct (s r : ByteArray) (hs : s.size ≤ 9223372036854775807) (hr : r.size ≤ 9223372036854775807) (h : sideC (s, r) = 0) : Ct Tryz.prog JT 50 [some 2] [[pV (.string s), pV (.string r)]] [some 8, none] (fun _ => [.ro false (pQ (ratVal s) 500), .ro false (pQ (ratVal r) 500), .ro false (pV (.int .i64 0))]) := by
  obtain ⟨hsp, hlt, d1, d2⟩ := sideC_ok h
  simp only at hsp hlt d1 d2
  refine aCt (D := DD) hMix (tr := (.em (.call 54 [.g [.c 0 0, .c 0 1]] [some 8, none]) (.em (.pr (.binOp .neq 70 (.tmp 0) (.const (.int .i64 0)) 70) 4 [.s (.c 1 8), .s (.k (.int .i64 0))]) (.cond (.c 2 0) (.ret (.t [.g [.k (.bool false), .k (.slice none 0 0), .k (.bool false), .k (.slice none 0 0), .k (.bool false), .k (.slice none 0 0), .k (.bool false), .k (.slice none 0 0)], .s (.c 1 8)])) (.em (.call 51 [.g [.c 1 0, .c 1 1, .c 1 2, .c 1 3], .g [.c 1 4, .c 1 5, .c 1 6, .c 1 7]] [none]) (.em (.pr (.binOp .geq 3 (.tmp 0) (.const (.int .i64 0)) 3) 4 [.s (.c 3 0), .s (.k (.int .i64 0))]) (.cond (.c 4 0) (.ret (.t [.g [.k (.bool false), .k (.slice none 0 0), .k (.bool false), .k (.slice none 0 0), .k (.bool false), .k (.slice none 0 0), .k (.bool false), .k (.slice none 0 0)], .s (.k (.int .i64 1))])) (.em (.call 93 [.g [.c 1 0, .c 1 1, .c 1 2, .c 1 3]] [none]) (.em (.pr (.unOp .not 4 (.tmp 0)) 4 [.s (.c 5 0)]) (.cond (.c 6 0) (.ret (.t [.g [.k (.bool false), .k (.slice none 0 0), .k (.bool false), .k (.slice none 0 0), .k (.bool false), .k (.slice none 0 0), .k (.bool false), .k (.slice none 0 0)], .s (.k (.int .i64 2))])) (.em (.call 93 [.g [.c 1 4, .c 1 5, .c 1 6, .c 1 7]] [none]) (.em (.pr (.unOp .not 4 (.tmp 0)) 4 [.s (.c 7 0)]) (.cond (.c 8 0) (.ret (.t [.g [.k (.bool false), .k (.slice none 0 0), .k (.bool false), .k (.slice none 0 0), .k (.bool false), .k (.slice none 0 0), .k (.bool false), .k (.slice none 0 0)], .s (.k (.int .i64 2))])) (.ret (.t [.g [.c 1 0, .c 1 1, .c 1 2, .c 1 3, .c 1 4, .c 1 5, .c 1 6, .c 1 7], .s (.k (.int .i64 0))]))))))))))))))) (by kernel_rfl) (by kernel_rfl) (by kernel_rfl) rfl (fun w0 => ?_)
  refine aCall rfl (sparse_ct s r hs hr hsp) (fun γ => ?_)
  refine aPr rfl (prNe rfl rfl) rfl ?_
  refine aFalse rfl ?_
  refine aCall rfl (qcmp_ct _ _ _ _) (fun γ => ?_)
  refine aPrE rfl (prGe rfl rfl) (by rw [v_ge]) rfl ?_
  rw [decide_eq_false (by grind)]
  refine aFalse rfl ?_
  refine aCall rfl (isDyadic_ct _ _) (fun γ => ?_)
  rw [decide_eq_true d1]
  refine aPr rfl (prNot rfl) rfl ?_
  refine aFalse rfl ?_
  refine aCall rfl (isDyadic_ct _ _) (fun γ => ?_)
  rw [decide_eq_true d2]
  refine aPr rfl (prNot rfl) rfl ?_
  refine aFalse rfl ?_
  exact aRet (fun _ => 0) rfl rfl rfl
noncomputable def firstC : List (ByteArray × ByteArray) → Int
  | [] => 0
  | t :: r => if sideC t = 0 then firstC r else sideC t
theorem firstC_zero : ∀ {ts : List (ByteArray × ByteArray)}, firstC ts = 0 ↔ ∀ t ∈ ts, sideC t = 0
  | [] => by simp [firstC]
  | a :: ts => by
    rw [firstC]
    split
    · rename_i h; rw [firstC_zero]; simp [h]
    · rename_i h; simp [h]
noncomputable def boxC (ts : List (ByteArray × ByteArray)) : Int := if ts.length < 1 ∨ 3 < ts.length then 1 else firstC ts
theorem boxC_ok {ts : List (ByteArray × ByteArray)} (h : boxC ts = 0) : 1 ≤ ts.length ∧ ts.length ≤ 3 ∧ ∀ t ∈ ts, sideC t = 0 := by
  unfold boxC at h
  split at h
  · cases h
  · rename_i h1; exact ⟨by omega, by omega, firstC_zero.1 h⟩
noncomputable def valsB (ts : List (ByteArray × ByteArray)) : List (Rat × Rat) := ts.map fun t => (ratVal t.1, ratVal t.2)
theorem vals_at {ts : List (ByteArray × ByteArray)} {i : Nat} {t : ByteArray × ByteArray} (h : ts[i]? = some t) : (valsB ts)[i]? = some (ratVal t.1, ratVal t.2) := by simp [valsB, h]
theorem vals_right {ts : List (ByteArray × ByteArray)} (h : boxC ts = 0) : rightB (valsB ts) = true := by
  obtain ⟨h1, h2, h3⟩ := boxC_ok h
  simp only [rightB, Bool.and_eq_true, decide_eq_true_eq, List.all_eq_true]
  refine ⟨⟨by simpa [valsB] using h1, by simpa [valsB] using h2⟩, fun s hs => ?_⟩
  obtain ⟨t, ht, rfl⟩ := List.mem_map.1 hs
  exact (sideC_ok (h3 t ht)).2.1
abbrev pTexts (ts : List (ByteArray × ByteArray)) : Pd := pRows pairR (rowsT ts)
def Fits (ts : List (ByteArray × ByteArray)) : Prop := ∀ t ∈ ts, t.1.size ≤ 9223372036854775807 ∧ t.2.size ≤ 9223372036854775807
theorem parse_ct (ts : List (ByteArray × ByteArray)) (hf : Fits ts) (h : boxC ts = 0) : Ct Tryz.prog JT 24 [none] [[pTexts ts]] [none, none] (fun γ => [.own (γ 0) spanR (rowsB (valsB ts) 500), .ro false (pV (.int .i64 0))]) := by
  obtain ⟨hl1, hl3, hall⟩ := boxC_ok h
  have hml : (valsB ts).length = ts.length := by simp [valsB]
  refine aCt (D := DS) hMix (tr := (.em (.pr (.call (.mk (.builtin .len) #[.tmp 0] #[22])) 3 [.s (.c 0 0)]) (.em (.pr (.binOp .lss 3 (.tmp 0) (.const (.int .i64 1)) 3) 4 [.s (.c 1 0), .s (.k (.int .i64 1))]) (.cond (.c 2 0) (.ret (.t [.s (.k (.slice none 0 0)), .s (.k (.int .i64 1))])) (.em (.pr (.call (.mk (.builtin .len) #[.tmp 0] #[22])) 3 [.s (.c 0 0)]) (.em (.pr (.binOp .gtr 3 (.tmp 0) (.const (.int .i64 3)) 3) 4 [.s (.c 3 0), .s (.k (.int .i64 3))]) (.cond (.c 4 0) (.ret (.t [.s (.k (.slice none 0 0)), .s (.k (.int .i64 1))])) (.em (.pr (.call (.mk (.builtin .len) #[.tmp 0] #[22])) 3 [.s (.c 0 0)]) (.em (.wx (.makeSlice 26 (.tmp 0) (.tmp 1)) 26 [.s (.c 5 0), .s (.c 5 0)] (some none)) (.em (.pr (.call (.mk (.builtin .len) #[.tmp 0] #[22])) 3 [.s (.c 0 0)]) (.loop 0 [.k (.slice none 0 0), .k (.int .i64 0), .k (.int .i64 0)] (.em (.pr (.binOp .lss 3 (.tmp 0) (.tmp 1) 3) 0 [.s (.c 8 2), .s (.c 7 0)]) (.cond (.c 9 0) (.em (.pr (.indexAddr 22 (.tmp 0) (.tmp 1)) 0 [.s (.c 0 0), .s (.c 8 2)]) (.em (.ld (.load 74 (.tmp 0)) 74 [.s (.c 10 0)] (some 2)) (.em (.call 50 [.g [.c 11 0, .c 11 1]] [some 8, none]) (.em (.wx (.alloc 78) 0 [] (some none)) (.em (.wx (.store 78 (.tmp 0) (.tmp 1)) 0 [.s (.c 13 0), .g [.c 12 0, .c 12 1, .c 12 2, .c 12 3, .c 12 4, .c 12 5, .c 12 6, .c 12 7]] none) (.em (.pr (.binOp .neq 70 (.tmp 0) (.const (.int .i64 0)) 70) 4 [.s (.c 12 8), .s (.k (.int .i64 0))]) (.cond (.c 15 0) (.ret (.t [.s (.k (.slice none 0 0)), .s (.c 12 8)])) (.em (.ld (.load 78 (.tmp 0)) 78 [.s (.c 13 0)] (some 8)) (.em (.pr (.indexAddr 26 (.tmp 0) (.tmp 1)) 0 [.s (.c 6 0), .s (.c 8 2)]) (.em (.wx (.store 78 (.tmp 0) (.tmp 1)) 0 [.s (.c 17 0), .g [.c 16 0, .c 16 1, .c 16 2, .c 16 3, .c 16 4, .c 16 5, .c 16 6, .c 16 7]] none) (.em (.pr (.binOp .add 3 (.tmp 0) (.const (.int .i64 1)) 3) 3 [.s (.c 8 2), .s (.k (.int .i64 1))]) (.back 0 [.c 8 0, .c 8 1, .c 19 0])))))))))))) (.ret (.t [.s (.c 6 0), .s (.k (.int .i64 0))]))))))))))))))) (by kernel_rfl) (by kernel_rfl) (by kernel_rfl) rfl (fun w0 => ?_)
  refine aLen rfl (List.length_map _) ?_
  refine aPr rfl (prLt rfl rfl) rfl ?_
  rw [decide_eq_false (by omega)]
  refine aFalse rfl ?_
  refine aLen rfl (List.length_map _) ?_
  refine aPr rfl (prGt rfl rfl) rfl ?_
  rw [decide_eq_false (by omega)]
  refine aFalse rfl ?_
  refine aLen rfl (List.length_map _) ?_
  refine aMake ts.length spanR (zs := ZeroS) (zrow := zSpan) rfl rfl rfl rfl (fun g6 => ?_) (by show _ * 8 ≤ _; omega)
  refine aLen rfl (List.length_map _) ?_
  have e0 : List.replicate ts.length zSpan = filled (rowsB (valsB ts) 500) zSpan 0 := by have := filled_zero (rowsB (valsB ts) 500) zSpan; rwa [List.length_map, hml] at this
  rw [e0]
  refine aLoopU [(6, 0, fun i : Nat => .own g6 spanR (filled (rowsB (valsB ts) 500) zSpan i))] (fun i : Nat => [.ro true (pV (.slice none 0 0)), .ro true (pV (.int .i64 0)), .ro true (pV (.int .i64 i))]) (fun i => i ≤ ts.length) (fun i => ts.length - i) 0 (Nat.zero_le _) (fun i hi => ?_)
  refine aPr rfl (prLt rfl rfl) rfl ?_
  refine aIf rfl (fun h3 => ?_) (fun h3 => ?_)
  · have hlt : i < ts.length := by simpa using h3
    obtain ⟨t, he⟩ := at_some hlt
    have hm := List.mem_of_getElem? he
    refine aIdx rfl rfl (fun _ => rfl) (by omega) (map_at (f := fun x : ByteArray × ByteArray => [pV (.string x.1), pV (.string x.2)]) he) ?_
    refine aLd rfl rfl rfl ?_
    refine aCall rfl (pside_ct t.1 t.2 (hf t hm).1 (hf t hm).2 (hall t hm)) (fun γ => ?_)
    refine aAlloc spanR (zs := ZeroS) (row := zSpan) rfl (fun g13 => ?_)
    refine aStore 13 0 0 0 rfl rfl rfl rfl rfl rfl rfl rfl ?_
    refine aPr rfl (prNe rfl rfl) rfl ?_
    refine aFalse rfl ?_
    refine aLdK 13 0 0 0 rfl rfl rfl rfl rfl rfl ?_
    refine aIdxO rfl rfl (fun _ => rfl) (by omega) (by rw [filled_len _ _ (by simp [hml]; omega)]; simp [hml]; omega) ?_
    refine aStore 6 0 i 0 rfl rfl rfl rfl (filled_at _ _ (by simpa [hml] using hlt)) (by show _ = i * 8 + 0; rfl) rfl rfl ?_
    rw [filled_set _ _ (row_at (vals_at he))]
    refine aPr rfl (prAddI rfl rfl (by omega) (by omega)) rfl ?_
    exact aBack rfl rfl ⟨i + 1, rfl, rfl, hlt, by omega⟩
  · have hi2 : i = ts.length := by have : ¬ i < ts.length := (by simpa using h3); omega
    subst hi2
    refine aRet (fun _ => g6) rfl rfl ?_
    have := filled_all (rowsB (valsB ts) 500) zSpan
    rw [List.length_map, hml] at this
    rw [this]; rfl
end Go.Proofs.YtpmnakjllkidiaaGreatDoor
