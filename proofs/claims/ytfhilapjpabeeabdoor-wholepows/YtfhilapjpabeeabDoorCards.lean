/-
  DERIVED. GIVEN WITH THE SEED: THE CARDS: each row of YtfhilapjpabeeabDoorRows.lean that lists a variable, with what it lists TIED to the program's text (the seventh form; the later family's looks); each row that meets fmt, with fmt's text TOLD by the authors' own Lean function (tested against real Go, not proved from fmt's source: count such statements apart). THE CARD IS WHAT COUNTS. Prove the row's statement (the work); the ties are given (YtfhilapjpabeeabDoorTie.lean); close each card by the builder's one call (the guide's Derived/Test/ToyasCard.lean, 'card_holds'). Laid BY PROGRAM, IN A SANDBOX (cutbox-door.mjs). By AI agents, Wed Nov 11 2026. No macro, syntax, notation, axiom, sorry.
-/
import Derived.Test.YtfhilapjpabeeabDoorRows
import GoSem.ClaimSeven
namespace Go.Proofs.YtfhilapjpabeeabDoor
namespace Rows

/-- THE TIED CARD OF 'cincturelaw2.WholeDivides'. -/
def wholeDividesCard : Claim7 := { stood := { row := wholeDividesRow, standIns := [], harness := (true, "7bce3b0a6f46df1a61f3a227fc2a918e6655b8ef06488d0421c89e87295b4e99"), looks := false }, kinds := [], alts := [], laidByText := true, laidKinds := [.data, .data, .data], laidTests := true, laidLooks := .later }
def WholeDividesCardSaid : Prop := Claim7.holds Tryd.pinned (.plain (OpenSpec.ofChange wholeDividesSpec)) wholeDividesCard

/-- THE TIED CARD OF 'cincturelaw2.WholePows'. -/
def wholePowsCard : Claim7 := { stood := { row := wholePowsRow, standIns := [], harness := (true, "7bce3b0a6f46df1a61f3a227fc2a918e6655b8ef06488d0421c89e87295b4e99"), looks := false }, kinds := [], alts := [], laidByText := true, laidKinds := [.data, .data, .data], laidTests := true, laidLooks := .later }
def WholePowsCardSaid : Prop := Claim7.holds Tryd.pinned (.plain (OpenSpec.ofChange wholePowsSpec)) wholePowsCard

/-- THE TIED CARD OF 'cincturelaw2.WholeWords'. -/
def wholeWordsCard : Claim7 := { stood := { row := wholeWordsRow, standIns := [], harness := (true, "7bce3b0a6f46df1a61f3a227fc2a918e6655b8ef06488d0421c89e87295b4e99"), looks := false }, kinds := [], alts := [], laidByText := true, laidKinds := [.data, .data, .data], laidTests := true, laidLooks := .later }
def WholeWordsCardSaid : Prop := Claim7.holds Tryd.pinned (.plain (OpenSpec.ofChange wholeWordsSpec)) wholeWordsCard

/-- THE TIED CARD OF 'cincturelaw2.WholeRings'. -/
def wholeRingsCard : Claim7 := { stood := { row := wholeRingsRow, standIns := [], harness := (true, "7bce3b0a6f46df1a61f3a227fc2a918e6655b8ef06488d0421c89e87295b4e99"), looks := false }, kinds := [], alts := [], laidByText := true, laidKinds := [.data, .data, .data], laidTests := true, laidLooks := .later }
def WholeRingsCardSaid : Prop := Claim7.holds Tryd.pinned (.plain (OpenSpec.ofChange wholeRingsSpec)) wholeRingsCard

/-- THE TIED CARD OF 'cincturelaw2.WholeBack'. -/
def wholeBackCard : Claim7 := { stood := { row := wholeBackRow, standIns := [], harness := (true, "7bce3b0a6f46df1a61f3a227fc2a918e6655b8ef06488d0421c89e87295b4e99"), looks := false }, kinds := [], alts := [], laidByText := true, laidKinds := [.data, .data, .data], laidTests := true, laidLooks := .later }
def WholeBackCardSaid : Prop := Claim7.holds Tryd.pinned (.plain (OpenSpec.ofChange wholeBackSpec)) wholeBackCard

/-- THE TIED CARD OF 'cincturelaw2.WholeOrders'. -/
def wholeOrdersCard : Claim7 := { stood := { row := wholeOrdersRow, standIns := [], harness := (true, "7bce3b0a6f46df1a61f3a227fc2a918e6655b8ef06488d0421c89e87295b4e99"), looks := false }, kinds := [], alts := [], laidByText := true, laidKinds := [.data, .data, .data], laidTests := true, laidLooks := .later }
def WholeOrdersCardSaid : Prop := Claim7.holds Tryd.pinned (.plain (OpenSpec.ofChange wholeOrdersSpec)) wholeOrdersCard

/-- THE SECOND FORM's CARD OF 'cincturelaw2.WholeDivides'. -/
def wholeDividesUptoCard : Claim7 := { stood := { row := wholeDividesUptoRow, standIns := [], harness := (true, "7bce3b0a6f46df1a61f3a227fc2a918e6655b8ef06488d0421c89e87295b4e99"), looks := false }, kinds := [], alts := [], laidByText := true, laidKinds := [.data, .data, .data], laidTests := true, laidLooks := .later }
def WholeDividesUptoCardSaid : Prop := Claim7.holds Tryd.pinned (.plain (OpenSpec.upto wholeDividesSpec)) wholeDividesUptoCard

/-- THE SECOND FORM's CARD OF 'cincturelaw2.WholePows'. -/
def wholePowsUptoCard : Claim7 := { stood := { row := wholePowsUptoRow, standIns := [], harness := (true, "7bce3b0a6f46df1a61f3a227fc2a918e6655b8ef06488d0421c89e87295b4e99"), looks := false }, kinds := [], alts := [], laidByText := true, laidKinds := [.data, .data, .data], laidTests := true, laidLooks := .later }
def WholePowsUptoCardSaid : Prop := Claim7.holds Tryd.pinned (.plain (OpenSpec.upto wholePowsSpec)) wholePowsUptoCard

/-- THE SECOND FORM's CARD OF 'cincturelaw2.WholeWords'. -/
def wholeWordsUptoCard : Claim7 := { stood := { row := wholeWordsUptoRow, standIns := [], harness := (true, "7bce3b0a6f46df1a61f3a227fc2a918e6655b8ef06488d0421c89e87295b4e99"), looks := false }, kinds := [], alts := [], laidByText := true, laidKinds := [.data, .data, .data], laidTests := true, laidLooks := .later }
def WholeWordsUptoCardSaid : Prop := Claim7.holds Tryd.pinned (.plain (OpenSpec.upto wholeWordsSpec)) wholeWordsUptoCard

/-- THE SECOND FORM's CARD OF 'cincturelaw2.WholeRings'. -/
def wholeRingsUptoCard : Claim7 := { stood := { row := wholeRingsUptoRow, standIns := [], harness := (true, "7bce3b0a6f46df1a61f3a227fc2a918e6655b8ef06488d0421c89e87295b4e99"), looks := false }, kinds := [], alts := [], laidByText := true, laidKinds := [.data, .data, .data], laidTests := true, laidLooks := .later }
def WholeRingsUptoCardSaid : Prop := Claim7.holds Tryd.pinned (.plain (OpenSpec.upto wholeRingsSpec)) wholeRingsUptoCard

/-- THE SECOND FORM's CARD OF 'cincturelaw2.WholeBack'. -/
def wholeBackUptoCard : Claim7 := { stood := { row := wholeBackUptoRow, standIns := [], harness := (true, "7bce3b0a6f46df1a61f3a227fc2a918e6655b8ef06488d0421c89e87295b4e99"), looks := false }, kinds := [], alts := [], laidByText := true, laidKinds := [.data, .data, .data], laidTests := true, laidLooks := .later }
def WholeBackUptoCardSaid : Prop := Claim7.holds Tryd.pinned (.plain (OpenSpec.upto wholeBackSpec)) wholeBackUptoCard

/-- THE SECOND FORM's CARD OF 'cincturelaw2.WholeOrders'. -/
def wholeOrdersUptoCard : Claim7 := { stood := { row := wholeOrdersUptoRow, standIns := [], harness := (true, "7bce3b0a6f46df1a61f3a227fc2a918e6655b8ef06488d0421c89e87295b4e99"), looks := false }, kinds := [], alts := [], laidByText := true, laidKinds := [.data, .data, .data], laidTests := true, laidLooks := .later }
def WholeOrdersUptoCardSaid : Prop := Claim7.holds Tryd.pinned (.plain (OpenSpec.upto wholeOrdersSpec)) wholeOrdersUptoCard
end Rows
end Go.Proofs.YtfhilapjpabeeabDoor
