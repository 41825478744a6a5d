/-
  DERIVED. GIVEN WITH THE SEED: THE CARDS: each row of YtpchnejdbmoicabGreatDoorRows.lean that lists a variable, with what it lists TIED to the program's text (the seventh form; the later family's looks); each row that meets fmt, with fmt's text TOLD by the authors' own Lean function (tested against real Go, not proved from fmt's source: count such statements apart). THE CARD IS WHAT COUNTS. Prove the row's statement (the work); the ties are given (YtpchnejdbmoicabGreatDoorTie.lean); close each card by the builder's one call (the guide's Derived/Test/ToyasCard.lean, 'card_holds'). Laid BY PROGRAM, IN A SANDBOX (cutbox-door.mjs). By AI agents, Wed Nov 11 2026. No macro, syntax, notation, axiom, sorry.
-/
import Derived.Test.YtpchnejdbmoicabGreatDoorRows
import GoSem.ClaimSeven
namespace Go.Proofs.YtpchnejdbmoicabGreatDoor
namespace Rows

/-- THE TIED CARD OF 'cincturelaw3.RatTells'. -/
def ratTellsCard : Claim7 := { stood := { row := ratTellsRow, standIns := [], harness := (true, "49ca1de6f9be32b4e93cf5fade2dc4c7df57b1fa9e678a0b7f5a847532507283"), looks := false }, kinds := [], alts := [], laidByText := true, laidKinds := [.data, .data, .data], laidTests := true, laidLooks := .later }
def RatTellsCardSaid : Prop := Claim7.holds Tryz.pinned (.plain (OpenSpec.ofChange ratTellsSpec)) ratTellsCard

/-- THE TIED CARD OF 'cincturelaw3.RatAdds'. -/
def ratAddsCard : Claim7 := { stood := { row := ratAddsRow, standIns := [], harness := (true, "49ca1de6f9be32b4e93cf5fade2dc4c7df57b1fa9e678a0b7f5a847532507283"), looks := false }, kinds := [], alts := [], laidByText := true, laidKinds := [.data, .data, .data], laidTests := true, laidLooks := .later }
def RatAddsCardSaid : Prop := Claim7.holds Tryz.pinned (.plain (OpenSpec.ofChange ratAddsSpec)) ratAddsCard

/-- THE TIED CARD OF 'cincturelaw3.RatPows'. -/
def ratPowsCard : Claim7 := { stood := { row := ratPowsRow, standIns := [], harness := (true, "49ca1de6f9be32b4e93cf5fade2dc4c7df57b1fa9e678a0b7f5a847532507283"), looks := false }, kinds := [], alts := [], laidByText := true, laidKinds := [.data, .data, .data], laidTests := true, laidLooks := .later }
def RatPowsCardSaid : Prop := Claim7.holds Tryz.pinned (.plain (OpenSpec.ofChange ratPowsSpec)) ratPowsCard

/-- THE SECOND FORM's CARD OF 'cincturelaw3.RatTells'. -/
def ratTellsUptoCard : Claim7 := { stood := { row := ratTellsUptoRow, standIns := [], harness := (true, "49ca1de6f9be32b4e93cf5fade2dc4c7df57b1fa9e678a0b7f5a847532507283"), looks := false }, kinds := [], alts := [], laidByText := true, laidKinds := [.data, .data, .data], laidTests := true, laidLooks := .later }
def RatTellsUptoCardSaid : Prop := Claim7.holds Tryz.pinned (.plain (OpenSpec.upto ratTellsSpec)) ratTellsUptoCard

/-- THE SECOND FORM's CARD OF 'cincturelaw3.RatAdds'. -/
def ratAddsUptoCard : Claim7 := { stood := { row := ratAddsUptoRow, standIns := [], harness := (true, "49ca1de6f9be32b4e93cf5fade2dc4c7df57b1fa9e678a0b7f5a847532507283"), looks := false }, kinds := [], alts := [], laidByText := true, laidKinds := [.data, .data, .data], laidTests := true, laidLooks := .later }
def RatAddsUptoCardSaid : Prop := Claim7.holds Tryz.pinned (.plain (OpenSpec.upto ratAddsSpec)) ratAddsUptoCard

/-- THE SECOND FORM's CARD OF 'cincturelaw3.RatPows'. -/
def ratPowsUptoCard : Claim7 := { stood := { row := ratPowsUptoRow, standIns := [], harness := (true, "49ca1de6f9be32b4e93cf5fade2dc4c7df57b1fa9e678a0b7f5a847532507283"), looks := false }, kinds := [], alts := [], laidByText := true, laidKinds := [.data, .data, .data], laidTests := true, laidLooks := .later }
def RatPowsUptoCardSaid : Prop := Claim7.holds Tryz.pinned (.plain (OpenSpec.upto ratPowsSpec)) ratPowsUptoCard
end Rows
end Go.Proofs.YtpchnejdbmoicabGreatDoor
