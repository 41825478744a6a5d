/-
  DERIVED. GIVEN WITH THE SEED: THE CARDS: each row of YtpmnakjllkidiaaGreatDoorRows.lean that lists a variable, with what it lists TIED to the program's text (the seventh form; the later family's looks); each row that meets fmt, with fmt's text TOLD by the authors' own Lean function (tested against real Go, not proved from fmt's source: count such statements apart). THE CARD IS WHAT COUNTS. Prove the row's statement (the work); the ties are given (YtpmnakjllkidiaaGreatDoorTie.lean); close each card by the builder's one call (the guide's Derived/Test/ToyasCard.lean, 'card_holds'). Laid BY PROGRAM, IN A SANDBOX (cutbox-door.mjs). By AI agents, Wed Nov 11 2026. No macro, syntax, notation, axiom, sorry.
-/
import Derived.Test.YtpmnakjllkidiaaGreatDoorRows
import GoSem.ClaimSeven
namespace Go.Proofs.YtpmnakjllkidiaaGreatDoor
namespace Rows

/-- THE TIED CARD OF 'cincturelaw6.BoxSets'. -/
def boxSetsCard : Claim7 := { stood := { row := boxSetsRow, standIns := [], harness := (true, "45d2c5df3aa62d44301e6ca3c95ee21db63f625005c8ed58230f466c6bd25a6f"), looks := false }, kinds := [], alts := [], laidByText := true, laidKinds := [.data, .data, .data], laidTests := true, laidLooks := .later }
def BoxSetsCardSaid : Prop := Claim7.holds Tryz.pinned (.plain (OpenSpec.ofChange boxSetsSpec)) boxSetsCard

/-- THE TIED CARD OF 'cincturelaw6.BoxCovers'. -/
def boxCoversCard : Claim7 := { stood := { row := boxCoversRow, standIns := [], harness := (true, "45d2c5df3aa62d44301e6ca3c95ee21db63f625005c8ed58230f466c6bd25a6f"), looks := false }, kinds := [], alts := [], laidByText := true, laidKinds := [.data], laidTests := true, laidLooks := .later }
def BoxCoversCardSaid : Prop := Claim7.holds Tryz.pinned (.plain (OpenSpec.ofChange boxCoversSpec)) boxCoversCard

/-- THE TIED CARD OF 'cincturelaw6.BoxParts'. -/
def boxPartsCard : Claim7 := { stood := { row := boxPartsRow, standIns := [], harness := (true, "45d2c5df3aa62d44301e6ca3c95ee21db63f625005c8ed58230f466c6bd25a6f"), looks := false }, kinds := [], alts := [], laidByText := true, laidKinds := [.data], laidTests := true, laidLooks := .later }
def BoxPartsCardSaid : Prop := Claim7.holds Tryz.pinned (.plain (OpenSpec.ofChange boxPartsSpec)) boxPartsCard

/-- THE SECOND FORM's CARD OF 'cincturelaw6.BoxSets'. -/
def boxSetsUptoCard : Claim7 := { stood := { row := boxSetsUptoRow, standIns := [], harness := (true, "45d2c5df3aa62d44301e6ca3c95ee21db63f625005c8ed58230f466c6bd25a6f"), looks := false }, kinds := [], alts := [], laidByText := true, laidKinds := [.data, .data, .data], laidTests := true, laidLooks := .later }
def BoxSetsUptoCardSaid : Prop := Claim7.holds Tryz.pinned (.plain (OpenSpec.upto boxSetsSpec)) boxSetsUptoCard

/-- THE SECOND FORM's CARD OF 'cincturelaw6.BoxCovers'. -/
def boxCoversUptoCard : Claim7 := { stood := { row := boxCoversUptoRow, standIns := [], harness := (true, "45d2c5df3aa62d44301e6ca3c95ee21db63f625005c8ed58230f466c6bd25a6f"), looks := false }, kinds := [], alts := [], laidByText := true, laidKinds := [.data], laidTests := true, laidLooks := .later }
def BoxCoversUptoCardSaid : Prop := Claim7.holds Tryz.pinned (.plain (OpenSpec.upto boxCoversSpec)) boxCoversUptoCard

/-- THE SECOND FORM's CARD OF 'cincturelaw6.BoxParts'. -/
def boxPartsUptoCard : Claim7 := { stood := { row := boxPartsUptoRow, standIns := [], harness := (true, "45d2c5df3aa62d44301e6ca3c95ee21db63f625005c8ed58230f466c6bd25a6f"), looks := false }, kinds := [], alts := [], laidByText := true, laidKinds := [.data], laidTests := true, laidLooks := .later }
def BoxPartsUptoCardSaid : Prop := Claim7.holds Tryz.pinned (.plain (OpenSpec.upto boxPartsSpec)) boxPartsUptoCard
end Rows
end Go.Proofs.YtpmnakjllkidiaaGreatDoor
