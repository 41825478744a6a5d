/-
  DERIVED. GIVEN WITH THE SEED: THE CARDS: each row of YthffkbbcofbceaaGreatDoorRows.lean that lists a variable, with what it lists TIED to the program's text (the seventh form; the later family's looks); each row that meets fmt, with fmt's text TOLD by the authors' own Lean function (tested against real Go, not proved from fmt's source: count such statements apart). THE CARD IS WHAT COUNTS. Prove the row's statement (the work); the ties are given (YthffkbbcofbceaaGreatDoorTie.lean); close each card by the builder's one call (the guide's Derived/Test/ToyasCard.lean, 'card_holds'). Laid BY PROGRAM, IN A SANDBOX (cutbox-door.mjs). By AI agents, Wed Nov 11 2026. No macro, syntax, notation, axiom, sorry.
-/
import Derived.Test.YthffkbbcofbceaaGreatDoorRows
import GoSem.ClaimSeven
namespace Go.Proofs.YthffkbbcofbceaaGreatDoor
namespace Rows

/-- THE TIED CARD OF 'cincturelaw8.PolyTells'. -/
def polyTellsCard : Claim7 := { stood := { row := polyTellsRow, standIns := [], harness := (true, "a2b868e691a1bec382eac35c30d35bb62e463ac386bf5cac10d386745c75fb9f"), looks := false }, kinds := [], alts := [], laidByText := true, laidKinds := [.data, .data, .data], laidTests := true, laidLooks := .later }
def PolyTellsCardSaid : Prop := Claim7.holds Tryz.pinned (.plain (OpenSpec.ofChange polyTellsSpec)) polyTellsCard

/-- THE TIED CARD OF 'cincturelaw8.PolyNews'. -/
def polyNewsCard : Claim7 := { stood := { row := polyNewsRow, standIns := [], harness := (true, "a2b868e691a1bec382eac35c30d35bb62e463ac386bf5cac10d386745c75fb9f"), looks := false }, kinds := [], alts := [], laidByText := true, laidKinds := [.data, .data, .data], laidTests := true, laidLooks := .later }
def PolyNewsCardSaid : Prop := Claim7.holds Tryz.pinned (.plain (OpenSpec.ofChange polyNewsSpec)) polyNewsCard

/-- THE TIED CARD OF 'cincturelaw8.PolyAdds'. -/
def polyAddsCard : Claim7 := { stood := { row := polyAddsRow, standIns := [], harness := (true, "a2b868e691a1bec382eac35c30d35bb62e463ac386bf5cac10d386745c75fb9f"), looks := false }, kinds := [], alts := [], laidByText := true, laidKinds := [.data, .data, .data], laidTests := true, laidLooks := .later }
def PolyAddsCardSaid : Prop := Claim7.holds Tryz.pinned (.plain (OpenSpec.ofChange polyAddsSpec)) polyAddsCard

/-- THE TIED CARD OF 'cincturelaw8.PolyMuls'. -/
def polyMulsCard : Claim7 := { stood := { row := polyMulsRow, standIns := [], harness := (true, "a2b868e691a1bec382eac35c30d35bb62e463ac386bf5cac10d386745c75fb9f"), looks := false }, kinds := [], alts := [], laidByText := true, laidKinds := [.data, .data, .data], laidTests := true, laidLooks := .later }
def PolyMulsCardSaid : Prop := Claim7.holds Tryz.pinned (.plain (OpenSpec.ofChange polyMulsSpec)) polyMulsCard

/-- THE TIED CARD OF 'cincturelaw8.PolyDiffs'. -/
def polyDiffsCard : Claim7 := { stood := { row := polyDiffsRow, standIns := [], harness := (true, "a2b868e691a1bec382eac35c30d35bb62e463ac386bf5cac10d386745c75fb9f"), looks := false }, kinds := [], alts := [], laidByText := true, laidKinds := [.data, .data, .data], laidTests := true, laidLooks := .later }
def PolyDiffsCardSaid : Prop := Claim7.holds Tryz.pinned (.plain (OpenSpec.ofChange polyDiffsSpec)) polyDiffsCard

/-- THE TIED CARD OF 'cincturelaw8.PolyAts'. -/
def polyAtsCard : Claim7 := { stood := { row := polyAtsRow, standIns := [], harness := (true, "a2b868e691a1bec382eac35c30d35bb62e463ac386bf5cac10d386745c75fb9f"), looks := false }, kinds := [], alts := [], laidByText := true, laidKinds := [.data, .data, .data], laidTests := true, laidLooks := .later }
def PolyAtsCardSaid : Prop := Claim7.holds Tryz.pinned (.plain (OpenSpec.ofChange polyAtsSpec)) polyAtsCard

/-- THE TIED CARD OF 'cincturelaw8.PolyComposes'. -/
def polyComposesCard : Claim7 := { stood := { row := polyComposesRow, standIns := [], harness := (true, "a2b868e691a1bec382eac35c30d35bb62e463ac386bf5cac10d386745c75fb9f"), looks := false }, kinds := [], alts := [], laidByText := true, laidKinds := [.data, .data, .data], laidTests := true, laidLooks := .later }
def PolyComposesCardSaid : Prop := Claim7.holds Tryz.pinned (.plain (OpenSpec.ofChange polyComposesSpec)) polyComposesCard

/-- THE TIED CARD OF 'cincturelaw8.PolyRings'. -/
def polyRingsCard : Claim7 := { stood := { row := polyRingsRow, standIns := [], harness := (true, "a2b868e691a1bec382eac35c30d35bb62e463ac386bf5cac10d386745c75fb9f"), looks := false }, kinds := [], alts := [], laidByText := true, laidKinds := [.data, .data, .data], laidTests := true, laidLooks := .later }
def PolyRingsCardSaid : Prop := Claim7.holds Tryz.pinned (.plain (OpenSpec.ofChange polyRingsSpec)) polyRingsCard

/-- THE TIED CARD OF 'cincturelaw8.PolyValues'. -/
def polyValuesCard : Claim7 := { stood := { row := polyValuesRow, standIns := [], harness := (true, "a2b868e691a1bec382eac35c30d35bb62e463ac386bf5cac10d386745c75fb9f"), looks := false }, kinds := [], alts := [], laidByText := true, laidKinds := [.data, .data, .data], laidTests := true, laidLooks := .later }
def PolyValuesCardSaid : Prop := Claim7.holds Tryz.pinned (.plain (OpenSpec.ofChange polyValuesSpec)) polyValuesCard

/-- THE TIED CARD OF 'cincturelaw8.PolyLeibniz'. -/
def polyLeibnizCard : Claim7 := { stood := { row := polyLeibnizRow, standIns := [], harness := (true, "a2b868e691a1bec382eac35c30d35bb62e463ac386bf5cac10d386745c75fb9f"), looks := false }, kinds := [], alts := [], laidByText := true, laidKinds := [.data, .data, .data], laidTests := true, laidLooks := .later }
def PolyLeibnizCardSaid : Prop := Claim7.holds Tryz.pinned (.plain (OpenSpec.ofChange polyLeibnizSpec)) polyLeibnizCard

/-- THE TIED CARD OF 'cincturelaw8.PolyOwn'. -/
def polyOwnCard : Claim7 := { stood := { row := polyOwnRow, standIns := [], harness := (true, "a2b868e691a1bec382eac35c30d35bb62e463ac386bf5cac10d386745c75fb9f"), looks := false }, kinds := [], alts := [], laidByText := true, laidKinds := [.data, .data, .data], laidTests := true, laidLooks := .later }
def PolyOwnCardSaid : Prop := Claim7.holds Tryz.pinned (.plain (OpenSpec.ofChange polyOwnSpec)) polyOwnCard

/-- THE TIED CARD OF 'cincturelaw8.PolyDegrees'. -/
def polyDegreesCard : Claim7 := { stood := { row := polyDegreesRow, standIns := [], harness := (true, "a2b868e691a1bec382eac35c30d35bb62e463ac386bf5cac10d386745c75fb9f"), looks := false }, kinds := [], alts := [], laidByText := true, laidKinds := [.data, .data, .data], laidTests := true, laidLooks := .later }
def PolyDegreesCardSaid : Prop := Claim7.holds Tryz.pinned (.plain (OpenSpec.ofChange polyDegreesSpec)) polyDegreesCard

/-- THE SECOND FORM's CARD OF 'cincturelaw8.PolyTells'. -/
def polyTellsUptoCard : Claim7 := { stood := { row := polyTellsUptoRow, standIns := [], harness := (true, "a2b868e691a1bec382eac35c30d35bb62e463ac386bf5cac10d386745c75fb9f"), looks := false }, kinds := [], alts := [], laidByText := true, laidKinds := [.data, .data, .data], laidTests := true, laidLooks := .later }
def PolyTellsUptoCardSaid : Prop := Claim7.holds Tryz.pinned (.plain (OpenSpec.upto polyTellsSpec)) polyTellsUptoCard

/-- THE SECOND FORM's CARD OF 'cincturelaw8.PolyNews'. -/
def polyNewsUptoCard : Claim7 := { stood := { row := polyNewsUptoRow, standIns := [], harness := (true, "a2b868e691a1bec382eac35c30d35bb62e463ac386bf5cac10d386745c75fb9f"), looks := false }, kinds := [], alts := [], laidByText := true, laidKinds := [.data, .data, .data], laidTests := true, laidLooks := .later }
def PolyNewsUptoCardSaid : Prop := Claim7.holds Tryz.pinned (.plain (OpenSpec.upto polyNewsSpec)) polyNewsUptoCard

/-- THE SECOND FORM's CARD OF 'cincturelaw8.PolyAdds'. -/
def polyAddsUptoCard : Claim7 := { stood := { row := polyAddsUptoRow, standIns := [], harness := (true, "a2b868e691a1bec382eac35c30d35bb62e463ac386bf5cac10d386745c75fb9f"), looks := false }, kinds := [], alts := [], laidByText := true, laidKinds := [.data, .data, .data], laidTests := true, laidLooks := .later }
def PolyAddsUptoCardSaid : Prop := Claim7.holds Tryz.pinned (.plain (OpenSpec.upto polyAddsSpec)) polyAddsUptoCard

/-- THE SECOND FORM's CARD OF 'cincturelaw8.PolyMuls'. -/
def polyMulsUptoCard : Claim7 := { stood := { row := polyMulsUptoRow, standIns := [], harness := (true, "a2b868e691a1bec382eac35c30d35bb62e463ac386bf5cac10d386745c75fb9f"), looks := false }, kinds := [], alts := [], laidByText := true, laidKinds := [.data, .data, .data], laidTests := true, laidLooks := .later }
def PolyMulsUptoCardSaid : Prop := Claim7.holds Tryz.pinned (.plain (OpenSpec.upto polyMulsSpec)) polyMulsUptoCard

/-- THE SECOND FORM's CARD OF 'cincturelaw8.PolyDiffs'. -/
def polyDiffsUptoCard : Claim7 := { stood := { row := polyDiffsUptoRow, standIns := [], harness := (true, "a2b868e691a1bec382eac35c30d35bb62e463ac386bf5cac10d386745c75fb9f"), looks := false }, kinds := [], alts := [], laidByText := true, laidKinds := [.data, .data, .data], laidTests := true, laidLooks := .later }
def PolyDiffsUptoCardSaid : Prop := Claim7.holds Tryz.pinned (.plain (OpenSpec.upto polyDiffsSpec)) polyDiffsUptoCard

/-- THE SECOND FORM's CARD OF 'cincturelaw8.PolyAts'. -/
def polyAtsUptoCard : Claim7 := { stood := { row := polyAtsUptoRow, standIns := [], harness := (true, "a2b868e691a1bec382eac35c30d35bb62e463ac386bf5cac10d386745c75fb9f"), looks := false }, kinds := [], alts := [], laidByText := true, laidKinds := [.data, .data, .data], laidTests := true, laidLooks := .later }
def PolyAtsUptoCardSaid : Prop := Claim7.holds Tryz.pinned (.plain (OpenSpec.upto polyAtsSpec)) polyAtsUptoCard

/-- THE SECOND FORM's CARD OF 'cincturelaw8.PolyComposes'. -/
def polyComposesUptoCard : Claim7 := { stood := { row := polyComposesUptoRow, standIns := [], harness := (true, "a2b868e691a1bec382eac35c30d35bb62e463ac386bf5cac10d386745c75fb9f"), looks := false }, kinds := [], alts := [], laidByText := true, laidKinds := [.data, .data, .data], laidTests := true, laidLooks := .later }
def PolyComposesUptoCardSaid : Prop := Claim7.holds Tryz.pinned (.plain (OpenSpec.upto polyComposesSpec)) polyComposesUptoCard

/-- THE SECOND FORM's CARD OF 'cincturelaw8.PolyRings'. -/
def polyRingsUptoCard : Claim7 := { stood := { row := polyRingsUptoRow, standIns := [], harness := (true, "a2b868e691a1bec382eac35c30d35bb62e463ac386bf5cac10d386745c75fb9f"), looks := false }, kinds := [], alts := [], laidByText := true, laidKinds := [.data, .data, .data], laidTests := true, laidLooks := .later }
def PolyRingsUptoCardSaid : Prop := Claim7.holds Tryz.pinned (.plain (OpenSpec.upto polyRingsSpec)) polyRingsUptoCard

/-- THE SECOND FORM's CARD OF 'cincturelaw8.PolyValues'. -/
def polyValuesUptoCard : Claim7 := { stood := { row := polyValuesUptoRow, standIns := [], harness := (true, "a2b868e691a1bec382eac35c30d35bb62e463ac386bf5cac10d386745c75fb9f"), looks := false }, kinds := [], alts := [], laidByText := true, laidKinds := [.data, .data, .data], laidTests := true, laidLooks := .later }
def PolyValuesUptoCardSaid : Prop := Claim7.holds Tryz.pinned (.plain (OpenSpec.upto polyValuesSpec)) polyValuesUptoCard

/-- THE SECOND FORM's CARD OF 'cincturelaw8.PolyLeibniz'. -/
def polyLeibnizUptoCard : Claim7 := { stood := { row := polyLeibnizUptoRow, standIns := [], harness := (true, "a2b868e691a1bec382eac35c30d35bb62e463ac386bf5cac10d386745c75fb9f"), looks := false }, kinds := [], alts := [], laidByText := true, laidKinds := [.data, .data, .data], laidTests := true, laidLooks := .later }
def PolyLeibnizUptoCardSaid : Prop := Claim7.holds Tryz.pinned (.plain (OpenSpec.upto polyLeibnizSpec)) polyLeibnizUptoCard

/-- THE SECOND FORM's CARD OF 'cincturelaw8.PolyOwn'. -/
def polyOwnUptoCard : Claim7 := { stood := { row := polyOwnUptoRow, standIns := [], harness := (true, "a2b868e691a1bec382eac35c30d35bb62e463ac386bf5cac10d386745c75fb9f"), looks := false }, kinds := [], alts := [], laidByText := true, laidKinds := [.data, .data, .data], laidTests := true, laidLooks := .later }
def PolyOwnUptoCardSaid : Prop := Claim7.holds Tryz.pinned (.plain (OpenSpec.upto polyOwnSpec)) polyOwnUptoCard

/-- THE SECOND FORM's CARD OF 'cincturelaw8.PolyDegrees'. -/
def polyDegreesUptoCard : Claim7 := { stood := { row := polyDegreesUptoRow, standIns := [], harness := (true, "a2b868e691a1bec382eac35c30d35bb62e463ac386bf5cac10d386745c75fb9f"), looks := false }, kinds := [], alts := [], laidByText := true, laidKinds := [.data, .data, .data], laidTests := true, laidLooks := .later }
def PolyDegreesUptoCardSaid : Prop := Claim7.holds Tryz.pinned (.plain (OpenSpec.upto polyDegreesSpec)) polyDegreesUptoCard
end Rows
end Go.Proofs.YthffkbbcofbceaaGreatDoor
