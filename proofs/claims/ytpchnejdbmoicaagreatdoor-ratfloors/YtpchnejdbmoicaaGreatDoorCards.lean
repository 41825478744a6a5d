/-
  DERIVED. GIVEN WITH THE SEED: THE CARDS: each row of YtpchnejdbmoicaaGreatDoorRows.lean that lists a variable, with what it lists TIED to the program's text (the seventh form; the later family's looks); each row that meets fmt, with fmt's text TOLD by the authors' own Lean function (tested against real Go, not proved from fmt's source: count such statements apart). THE CARD IS WHAT COUNTS. Prove the row's statement (the work); the ties are given (YtpchnejdbmoicaaGreatDoorTie.lean); close each card by the builder's one call (the guide's Derived/Test/ToyasCard.lean, 'card_holds'). Laid BY PROGRAM, IN A SANDBOX (cutbox-door.mjs). By AI agents, Wed Nov 11 2026. No macro, syntax, notation, axiom, sorry.
-/
import Derived.Test.YtpchnejdbmoicaaGreatDoorRows
import GoSem.ClaimSeven
namespace Go.Proofs.YtpchnejdbmoicaaGreatDoor
namespace Rows

/-- THE TIED CARD OF 'cincturelaw3.RatNews'. -/
def ratNewsCard : Claim7 := { stood := { row := ratNewsRow, standIns := [], harness := (true, "80ead03d9bd9d5a34d40a1a03d5b84f3546ab5642c2a061efa8010aa089bdc86"), looks := false }, kinds := [], alts := [], laidByText := true, laidKinds := [.data, .data, .data], laidTests := true, laidLooks := .later }
def RatNewsCardSaid : Prop := Claim7.holds Tryz.pinned (.plain (OpenSpec.ofChange ratNewsSpec)) ratNewsCard

/-- THE TIED CARD OF 'cincturelaw3.RatDivides'. -/
def ratDividesCard : Claim7 := { stood := { row := ratDividesRow, standIns := [], harness := (true, "80ead03d9bd9d5a34d40a1a03d5b84f3546ab5642c2a061efa8010aa089bdc86"), looks := false }, kinds := [], alts := [], laidByText := true, laidKinds := [.data, .data, .data], laidTests := true, laidLooks := .later }
def RatDividesCardSaid : Prop := Claim7.holds Tryz.pinned (.plain (OpenSpec.ofChange ratDividesSpec)) ratDividesCard

/-- THE TIED CARD OF 'cincturelaw3.RatFields'. -/
def ratFieldsCard : Claim7 := { stood := { row := ratFieldsRow, standIns := [], harness := (true, "80ead03d9bd9d5a34d40a1a03d5b84f3546ab5642c2a061efa8010aa089bdc86"), looks := false }, kinds := [], alts := [], laidByText := true, laidKinds := [.data, .data, .data], laidTests := true, laidLooks := .later }
def RatFieldsCardSaid : Prop := Claim7.holds Tryz.pinned (.plain (OpenSpec.ofChange ratFieldsSpec)) ratFieldsCard

/-- THE TIED CARD OF 'cincturelaw3.RatLeast'. -/
def ratLeastCard : Claim7 := { stood := { row := ratLeastRow, standIns := [], harness := (true, "80ead03d9bd9d5a34d40a1a03d5b84f3546ab5642c2a061efa8010aa089bdc86"), looks := false }, kinds := [], alts := [], laidByText := true, laidKinds := [.data, .data, .data], laidTests := true, laidLooks := .later }
def RatLeastCardSaid : Prop := Claim7.holds Tryz.pinned (.plain (OpenSpec.ofChange ratLeastSpec)) ratLeastCard

/-- THE TIED CARD OF 'cincturelaw3.RatOrders'. -/
def ratOrdersCard : Claim7 := { stood := { row := ratOrdersRow, standIns := [], harness := (true, "80ead03d9bd9d5a34d40a1a03d5b84f3546ab5642c2a061efa8010aa089bdc86"), looks := false }, kinds := [], alts := [], laidByText := true, laidKinds := [.data, .data, .data], laidTests := true, laidLooks := .later }
def RatOrdersCardSaid : Prop := Claim7.holds Tryz.pinned (.plain (OpenSpec.ofChange ratOrdersSpec)) ratOrdersCard

/-- THE TIED CARD OF 'cincturelaw3.RatFloors'. -/
def ratFloorsCard : Claim7 := { stood := { row := ratFloorsRow, standIns := [], harness := (true, "80ead03d9bd9d5a34d40a1a03d5b84f3546ab5642c2a061efa8010aa089bdc86"), looks := false }, kinds := [], alts := [], laidByText := true, laidKinds := [.data, .data, .data], laidTests := true, laidLooks := .later }
def RatFloorsCardSaid : Prop := Claim7.holds Tryz.pinned (.plain (OpenSpec.ofChange ratFloorsSpec)) ratFloorsCard

/-- THE SECOND FORM's CARD OF 'cincturelaw3.RatNews'. -/
def ratNewsUptoCard : Claim7 := { stood := { row := ratNewsUptoRow, standIns := [], harness := (true, "80ead03d9bd9d5a34d40a1a03d5b84f3546ab5642c2a061efa8010aa089bdc86"), looks := false }, kinds := [], alts := [], laidByText := true, laidKinds := [.data, .data, .data], laidTests := true, laidLooks := .later }
def RatNewsUptoCardSaid : Prop := Claim7.holds Tryz.pinned (.plain (OpenSpec.upto ratNewsSpec)) ratNewsUptoCard

/-- THE SECOND FORM's CARD OF 'cincturelaw3.RatDivides'. -/
def ratDividesUptoCard : Claim7 := { stood := { row := ratDividesUptoRow, standIns := [], harness := (true, "80ead03d9bd9d5a34d40a1a03d5b84f3546ab5642c2a061efa8010aa089bdc86"), looks := false }, kinds := [], alts := [], laidByText := true, laidKinds := [.data, .data, .data], laidTests := true, laidLooks := .later }
def RatDividesUptoCardSaid : Prop := Claim7.holds Tryz.pinned (.plain (OpenSpec.upto ratDividesSpec)) ratDividesUptoCard

/-- THE SECOND FORM's CARD OF 'cincturelaw3.RatFields'. -/
def ratFieldsUptoCard : Claim7 := { stood := { row := ratFieldsUptoRow, standIns := [], harness := (true, "80ead03d9bd9d5a34d40a1a03d5b84f3546ab5642c2a061efa8010aa089bdc86"), looks := false }, kinds := [], alts := [], laidByText := true, laidKinds := [.data, .data, .data], laidTests := true, laidLooks := .later }
def RatFieldsUptoCardSaid : Prop := Claim7.holds Tryz.pinned (.plain (OpenSpec.upto ratFieldsSpec)) ratFieldsUptoCard

/-- THE SECOND FORM's CARD OF 'cincturelaw3.RatLeast'. -/
def ratLeastUptoCard : Claim7 := { stood := { row := ratLeastUptoRow, standIns := [], harness := (true, "80ead03d9bd9d5a34d40a1a03d5b84f3546ab5642c2a061efa8010aa089bdc86"), looks := false }, kinds := [], alts := [], laidByText := true, laidKinds := [.data, .data, .data], laidTests := true, laidLooks := .later }
def RatLeastUptoCardSaid : Prop := Claim7.holds Tryz.pinned (.plain (OpenSpec.upto ratLeastSpec)) ratLeastUptoCard

/-- THE SECOND FORM's CARD OF 'cincturelaw3.RatOrders'. -/
def ratOrdersUptoCard : Claim7 := { stood := { row := ratOrdersUptoRow, standIns := [], harness := (true, "80ead03d9bd9d5a34d40a1a03d5b84f3546ab5642c2a061efa8010aa089bdc86"), looks := false }, kinds := [], alts := [], laidByText := true, laidKinds := [.data, .data, .data], laidTests := true, laidLooks := .later }
def RatOrdersUptoCardSaid : Prop := Claim7.holds Tryz.pinned (.plain (OpenSpec.upto ratOrdersSpec)) ratOrdersUptoCard

/-- THE SECOND FORM's CARD OF 'cincturelaw3.RatFloors'. -/
def ratFloorsUptoCard : Claim7 := { stood := { row := ratFloorsUptoRow, standIns := [], harness := (true, "80ead03d9bd9d5a34d40a1a03d5b84f3546ab5642c2a061efa8010aa089bdc86"), looks := false }, kinds := [], alts := [], laidByText := true, laidKinds := [.data, .data, .data], laidTests := true, laidLooks := .later }
def RatFloorsUptoCardSaid : Prop := Claim7.holds Tryz.pinned (.plain (OpenSpec.upto ratFloorsSpec)) ratFloorsUptoCard
end Rows
end Go.Proofs.YtpchnejdbmoicaaGreatDoor
