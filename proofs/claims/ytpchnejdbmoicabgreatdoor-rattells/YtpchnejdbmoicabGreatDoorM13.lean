/- The law WholeTells. -/
import Derived.Test.YtpchnejdbmoicabGreatDoorYg
import Derived.Test.YtpchnejdbmoicabGreatDoorYh
import Derived.Test.YtpchnejdbmoicabGreatDoorYk
namespace Go.Proofs.YtpchnejdbmoicabGreatDoor
open Go.RowKit Cin

theorem minus_tl {s : ByteArray} (h : negT s = true) : (⟨#[45]⟩ : ByteArray) ++ tl s = s := by
  obtain ⟨⟨l⟩⟩ := s
  cases l with
  | nil => unfold negT at h; simp [byts] at h; exact absurd h.2 (by decide)
  | cons x l =>
    have hx : lim (byts ⟨⟨x :: l⟩⟩) 0 = x.toNat := rfl
    unfold negT at h
    rw [hx] at h
    simp only [Bool.and_eq_true, decide_eq_true_eq] at h
    have e : x = 45 := UInt8.toNat_inj.1 h.2
    subst e
    apply ByteArray.ext
    apply Array.toList_inj.1
    simp [tl, ByteArray.data_extract]
    exact List.take_of_length_le (by show l.length ≤ l.length + 1 - 1; omega)
/-- A whole number's text is the text that it was read from. -/
theorem intS_intVal {s : ByteArray} (h : IsInt s) : intS (intVal s) = s := by
  have hd := decS_decL h.1
  by_cases hn : negT s = true
  · have h0 := h.2 hn
    have hz : intVal s < 0 := by unfold intVal sg; rw [hn, if_pos rfl]; omega
    rw [intS_neg hz]
    have e : (intVal s).natAbs = decL (byts (digT s)) := by unfold intVal; rw [sg_natAbs]
    rw [e, hd]
    unfold digT
    rw [if_pos hn]
    exact minus_tl hn
  · have hn' : negT s = false := by simpa using hn
    have hz : ¬ intVal s < 0 := by unfold intVal sg; rw [hn', if_neg (by simp)]; omega
    rw [intS_pos hz]
    have e : (intVal s).natAbs = decL (byts (digT s)) := by unfold intVal; rw [sg_natAbs]
    rw [e, hd]
    unfold digT
    rw [if_neg hn]

end Go.Proofs.YtpchnejdbmoicabGreatDoor
