/- What the laws ask of texts and of the document's numbers, with how great they are. -/
import Derived.Test.YtpchnejdbmoicaaDoorT5
import Derived.Test.YtpchnejdbmoicaaDoorRA
import Derived.Test.YtpchnejdbmoicaaDoorRC
import Derived.Test.YtpchnejdbmoicaaDoorRS
import Derived.Test.YtpchnejdbmoicaaDoorRM
import Derived.Test.YtpchnejdbmoicaaDoorI1
namespace Go.Proofs.YtpchnejdbmoicaaDoor
open Go.RowKit Cin

/-- The document's number n, and how great it is. -/
def RefB (w : World) (v : Value) (n k : Nat) : Prop := RefV 68 w v n ∧ n < pw k
theorem RefB.below {w w' : World} {v : Value} {n k : Nat} (h : RefB w v n k) (hb : Below w.heap.size w w') : RefB w' v n k := ⟨h.1.below hb, h.2⟩
theorem drewN_below (w : World) (n : Nat) : Below w.heap.size w (w.drewN n) := bel_drewN (Below.refl _ _) n

theorem raddB (v u : Value) (x y a b : Nat) (w : World) (h : RefB w v x a) (h' : RefB w u y b) (ha : a ≤ 10000000) (hb : b ≤ 10000000) :
    Calls Tryd.prog 71 #[v, u] w fun e w' => ∃ v', e = .returned v' ∧ RefB w' v' (x + y) (a + b + 1) ∧ Below w.heap.size w w' :=
  (refAdd_any v u x y (a + b) w h.1 h'.1 (lt_pw_mono h.2 (by omega)) (lt_pw_mono h'.2 (by omega)) (by omega)).mono fun _ _ ⟨v', e, hn, hw⟩ => ⟨v', e, ⟨hn, by have := pw_big a b; have := h.2; have := h'.2; omega⟩, hw⟩

theorem rsubB (v u : Value) (x y a b : Nat) (w : World) (h : RefB w v x a) (h' : RefB w u y b) (ha : a ≤ 10000000) (hb : b ≤ 10000000) (hle : y ≤ x) :
    Calls Tryd.prog 70 #[v, u] w fun e w' => ∃ v', e = .returned v' ∧ RefB w' v' (x - y) a ∧ Below w.heap.size w w' :=
  (refSub_any v u x y (a + b) w h.1 h'.1 (lt_pw_mono h.2 (by omega)) (by omega) hle).mono fun _ _ ⟨v', e, hn, hw⟩ => ⟨v', e, ⟨hn, by have := h.2; omega⟩, hw⟩

theorem rcmpB (v u : Value) (x y a b : Nat) (w : World) (h : RefB w v x a) (h' : RefB w u y b) (ha : a ≤ 10000000) (hb : b ≤ 10000000) :
    Calls Tryd.prog 69 #[v, u] w fun e w' => e = .returned (.int .i64 (cmpI x y)) ∧ Below w.heap.size w w' :=
  (refCmp_any v u x y (a + b) w h.1 h'.1 (lt_pw_mono h.2 (by omega)) (lt_pw_mono h'.2 (by omega)) (by omega)).mono fun _ _ ⟨e, n, hw⟩ => ⟨e, by rw [hw]; exact drewN_below _ _⟩

theorem rtextB (v : Value) (n k : Nat) (w : World) (h : RefB w v n k) (hk : k ≤ 1000000) :
    Calls Tryd.prog 23 #[v] w fun e w' => e = .returned (.string (decS n)) ∧ Below w.heap.size w w' := refText_any v n k w h.1 h.2 hk

theorem decS_zero : decS 0 = ⟨#[48]⟩ := by unfold decS; rw [dec_small (by decide)]; rfl

end Go.Proofs.YtpchnejdbmoicaaDoor
