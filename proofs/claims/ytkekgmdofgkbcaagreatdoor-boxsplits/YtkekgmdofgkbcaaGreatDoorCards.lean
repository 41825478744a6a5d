/-
  DERIVED. GIVEN WITH THE SEED: THE CARDS: each row of YtkekgmdofgkbcaaGreatDoorRows.lean that lists a variable, with what it lists TIED to the program's text (the seventh form; the later family's looks); each row that meets fmt, with fmt's text TOLD by the authors' own Lean function (tested against real Go, not proved from fmt's source: count such statements apart). THE CARD IS WHAT COUNTS. Prove the row's statement (the work); the ties are given (YtkekgmdofgkbcaaGreatDoorTie.lean); close each card by the builder's one call (the guide's Derived/Test/ToyasCard.lean, 'card_holds'). Laid BY PROGRAM, IN A SANDBOX (cutbox-door.mjs). By AI agents, Wed Nov 11 2026. No macro, syntax, notation, axiom, sorry.
-/
import Derived.Test.YtkekgmdofgkbcaaGreatDoorRows
import GoSem.ClaimSeven
namespace Go.Proofs.YtkekgmdofgkbcaaGreatDoor
namespace Rows

/-- THE TIED CARD OF 'cincturelaw6.BoxTells'. -/
def boxTellsCard : Claim7 := { stood := { row := boxTellsRow, standIns := [], harness := (true, "c029f7fa000baade2408af0792208a220fe928e03f62d9f5a3ed00c96d1b076e"), looks := false }, kinds := [], alts := [], laidByText := true, laidKinds := [.data, .data, .data], laidTests := true, laidLooks := .later }
def BoxTellsCardSaid : Prop := Claim7.holds Tryz.pinned (.plain (OpenSpec.ofChange boxTellsSpec)) boxTellsCard

/-- THE TIED CARD OF 'cincturelaw6.BoxSplits'. -/
def boxSplitsCard : Claim7 := { stood := { row := boxSplitsRow, standIns := [], harness := (true, "c029f7fa000baade2408af0792208a220fe928e03f62d9f5a3ed00c96d1b076e"), looks := false }, kinds := [], alts := [], laidByText := true, laidKinds := [.data, .data, .data], laidTests := true, laidLooks := .later }
def BoxSplitsCardSaid : Prop := Claim7.holds Tryz.pinned (.plain (OpenSpec.ofChange boxSplitsSpec)) boxSplitsCard

/-- THE TIED CARD OF 'cincturelaw6.BoxSets'. -/
def boxSetsCard : Claim7 := { stood := { row := boxSetsRow, standIns := [], harness := (true, "c029f7fa000baade2408af0792208a220fe928e03f62d9f5a3ed00c96d1b076e"), looks := false }, kinds := [], alts := [], laidByText := true, laidKinds := [.data, .data, .data], laidTests := true, laidLooks := .later }
def BoxSetsCardSaid : Prop := Claim7.holds Tryz.pinned (.plain (OpenSpec.ofChange boxSetsSpec)) boxSetsCard

/-- THE TIED CARD OF 'cincturelaw6.BoxCovers'. -/
def boxCoversCard : Claim7 := { stood := { row := boxCoversRow, standIns := [], harness := (true, "c029f7fa000baade2408af0792208a220fe928e03f62d9f5a3ed00c96d1b076e"), looks := false }, kinds := [], alts := [], laidByText := true, laidKinds := [.data], laidTests := true, laidLooks := .later }
def BoxCoversCardSaid : Prop := Claim7.holds Tryz.pinned (.plain (OpenSpec.ofChange boxCoversSpec)) boxCoversCard

/-- THE TIED CARD OF 'cincturelaw6.BoxParts'. -/
def boxPartsCard : Claim7 := { stood := { row := boxPartsRow, standIns := [], harness := (true, "c029f7fa000baade2408af0792208a220fe928e03f62d9f5a3ed00c96d1b076e"), looks := false }, kinds := [], alts := [], laidByText := true, laidKinds := [.data], laidTests := true, laidLooks := .later }
def BoxPartsCardSaid : Prop := Claim7.holds Tryz.pinned (.plain (OpenSpec.ofChange boxPartsSpec)) boxPartsCard

/-- THE TIED CARD OF 'cincturelaw6.BoxWidest'. -/
def boxWidestCard : Claim7 := { stood := { row := boxWidestRow, standIns := [], harness := (true, "c029f7fa000baade2408af0792208a220fe928e03f62d9f5a3ed00c96d1b076e"), looks := false }, kinds := [], alts := [], laidByText := true, laidKinds := [.data], laidTests := true, laidLooks := .later }
def BoxWidestCardSaid : Prop := Claim7.holds Tryz.pinned (.plain (OpenSpec.ofChange boxWidestSpec)) boxWidestCard

/-- THE SECOND FORM's CARD OF 'cincturelaw6.BoxTells'. -/
def boxTellsUptoCard : Claim7 := { stood := { row := boxTellsUptoRow, standIns := [], harness := (true, "c029f7fa000baade2408af0792208a220fe928e03f62d9f5a3ed00c96d1b076e"), looks := false }, kinds := [], alts := [], laidByText := true, laidKinds := [.data, .data, .data], laidTests := true, laidLooks := .later }
def BoxTellsUptoCardSaid : Prop := Claim7.holds Tryz.pinned (.plain (OpenSpec.upto boxTellsSpec)) boxTellsUptoCard

/-- THE SECOND FORM's CARD OF 'cincturelaw6.BoxSplits'. -/
def boxSplitsUptoCard : Claim7 := { stood := { row := boxSplitsUptoRow, standIns := [], harness := (true, "c029f7fa000baade2408af0792208a220fe928e03f62d9f5a3ed00c96d1b076e"), looks := false }, kinds := [], alts := [], laidByText := true, laidKinds := [.data, .data, .data], laidTests := true, laidLooks := .later }
def BoxSplitsUptoCardSaid : Prop := Claim7.holds Tryz.pinned (.plain (OpenSpec.upto boxSplitsSpec)) boxSplitsUptoCard

/-- THE SECOND FORM's CARD OF 'cincturelaw6.BoxSets'. -/
def boxSetsUptoCard : Claim7 := { stood := { row := boxSetsUptoRow, standIns := [], harness := (true, "c029f7fa000baade2408af0792208a220fe928e03f62d9f5a3ed00c96d1b076e"), looks := false }, kinds := [], alts := [], laidByText := true, laidKinds := [.data, .data, .data], laidTests := true, laidLooks := .later }
def BoxSetsUptoCardSaid : Prop := Claim7.holds Tryz.pinned (.plain (OpenSpec.upto boxSetsSpec)) boxSetsUptoCard

/-- THE SECOND FORM's CARD OF 'cincturelaw6.BoxCovers'. -/
def boxCoversUptoCard : Claim7 := { stood := { row := boxCoversUptoRow, standIns := [], harness := (true, "c029f7fa000baade2408af0792208a220fe928e03f62d9f5a3ed00c96d1b076e"), looks := false }, kinds := [], alts := [], laidByText := true, laidKinds := [.data], laidTests := true, laidLooks := .later }
def BoxCoversUptoCardSaid : Prop := Claim7.holds Tryz.pinned (.plain (OpenSpec.upto boxCoversSpec)) boxCoversUptoCard

/-- THE SECOND FORM's CARD OF 'cincturelaw6.BoxParts'. -/
def boxPartsUptoCard : Claim7 := { stood := { row := boxPartsUptoRow, standIns := [], harness := (true, "c029f7fa000baade2408af0792208a220fe928e03f62d9f5a3ed00c96d1b076e"), looks := false }, kinds := [], alts := [], laidByText := true, laidKinds := [.data], laidTests := true, laidLooks := .later }
def BoxPartsUptoCardSaid : Prop := Claim7.holds Tryz.pinned (.plain (OpenSpec.upto boxPartsSpec)) boxPartsUptoCard

/-- THE SECOND FORM's CARD OF 'cincturelaw6.BoxWidest'. -/
def boxWidestUptoCard : Claim7 := { stood := { row := boxWidestUptoRow, standIns := [], harness := (true, "c029f7fa000baade2408af0792208a220fe928e03f62d9f5a3ed00c96d1b076e"), looks := false }, kinds := [], alts := [], laidByText := true, laidKinds := [.data], laidTests := true, laidLooks := .later }
def BoxWidestUptoCardSaid : Prop := Claim7.holds Tryz.pinned (.plain (OpenSpec.upto boxWidestSpec)) boxWidestUptoCard
end Rows
end Go.Proofs.YtkekgmdofgkbcaaGreatDoor
