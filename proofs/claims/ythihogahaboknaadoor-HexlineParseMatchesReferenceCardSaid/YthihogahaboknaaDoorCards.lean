/-
  DERIVED. GIVEN WITH THE SEED: THE CARDS: each row of YthihogahaboknaaDoorRows.lean that lists a variable, with what it lists TIED to the program's text (the seventh form; the later family's looks); each row that meets fmt, with fmt's text TOLD by the authors' own Lean function (tested against real Go, not proved from fmt's source: count such statements apart). THE CARD IS WHAT COUNTS. Prove the row's statement (the work); the ties are given (YthihogahaboknaaDoorTie.lean); close each card by the builder's one call (the guide's Derived/Test/ToyasCard.lean, 'card_holds'). Laid BY PROGRAM, IN A SANDBOX (cutbox-door.mjs). By AI agents, Wed Nov 11 2026. No macro, syntax, notation, axiom, sorry.
-/
import Derived.Test.YthihogahaboknaaDoorRows
import GoSem.ClaimSeven
namespace Go.Proofs.YthihogahaboknaaDoor
namespace Rows

/-- THE TIED CARD OF 'tmplpipelaw03.HexlineFormatMatchesReference'. -/
def hexlineFormatMatchesReferenceCard : Claim7 := { stood := { row := hexlineFormatMatchesReferenceRow, standIns := [], harness := (true, "15f48c59322510e07d0f69f5c9f6a0c3e86710e7f1c4c49dbedcb8453bfe2d99"), looks := false }, kinds := [], alts := [], laidByText := true, laidKinds := [.data, .data, .data, .data, .pinned], laidTests := true, laidLooks := .later }
def HexlineFormatMatchesReferenceCardSaid : Prop := Claim7.holds Tryd.pinned (.plain (OpenSpec.ofChange hexlineFormatMatchesReferenceSpec)) hexlineFormatMatchesReferenceCard

/-- THE TIED CARD OF 'tmplpipelaw03.HexlineParseMatchesReference'. -/
def hexlineParseMatchesReferenceCard : Claim7 := { stood := { row := hexlineParseMatchesReferenceRow, standIns := [], harness := (true, "15f48c59322510e07d0f69f5c9f6a0c3e86710e7f1c4c49dbedcb8453bfe2d99"), looks := false }, kinds := [], alts := [], laidByText := true, laidKinds := [.data, .data, .data, .data, .pinned], laidTests := true, laidLooks := .later }
def HexlineParseMatchesReferenceCardSaid : Prop := Claim7.holds Tryd.pinned (.plain (OpenSpec.ofChange hexlineParseMatchesReferenceSpec)) hexlineParseMatchesReferenceCard

/-- THE TIED CARD OF 'tmplpipelaw03.HexlineRoundTrip'. -/
def hexlineRoundTripCard : Claim7 := { stood := { row := hexlineRoundTripRow, standIns := [], harness := (true, "15f48c59322510e07d0f69f5c9f6a0c3e86710e7f1c4c49dbedcb8453bfe2d99"), looks := false }, kinds := [], alts := [], laidByText := true, laidKinds := [.data, .data, .data, .data, .pinned], laidTests := true, laidLooks := .later }
def HexlineRoundTripCardSaid : Prop := Claim7.holds Tryd.pinned (.plain (OpenSpec.ofChange hexlineRoundTripSpec)) hexlineRoundTripCard

/-- THE TIED CARD OF 'tmplpipelaw03.HexlineIsCanonical'. -/
def hexlineIsCanonicalCard : Claim7 := { stood := { row := hexlineIsCanonicalRow, standIns := [], harness := (true, "15f48c59322510e07d0f69f5c9f6a0c3e86710e7f1c4c49dbedcb8453bfe2d99"), looks := false }, kinds := [], alts := [], laidByText := true, laidKinds := [.data, .data, .data, .data, .pinned], laidTests := true, laidLooks := .later }
def HexlineIsCanonicalCardSaid : Prop := Claim7.holds Tryd.pinned (.plain (OpenSpec.ofChange hexlineIsCanonicalSpec)) hexlineIsCanonicalCard

/-- THE TIED CARD OF 'tmplpipelaw03.HexlineOrder'. -/
def hexlineOrderCard : Claim7 := { stood := { row := hexlineOrderRow, standIns := [], harness := (true, "15f48c59322510e07d0f69f5c9f6a0c3e86710e7f1c4c49dbedcb8453bfe2d99"), looks := false }, kinds := [], alts := [], laidByText := true, laidKinds := [.data, .data, .data, .data, .pinned], laidTests := true, laidLooks := .later }
def HexlineOrderCardSaid : Prop := Claim7.holds Tryd.pinned (.plain (OpenSpec.ofChange hexlineOrderSpec)) hexlineOrderCard

/-- THE SECOND FORM's CARD OF 'tmplpipelaw03.HexlineFormatMatchesReference'. -/
def hexlineFormatMatchesReferenceUptoCard : Claim7 := { stood := { row := hexlineFormatMatchesReferenceUptoRow, standIns := [], harness := (true, "15f48c59322510e07d0f69f5c9f6a0c3e86710e7f1c4c49dbedcb8453bfe2d99"), looks := false }, kinds := [], alts := [], laidByText := true, laidKinds := [.data, .data, .data, .data, .pinned], laidTests := true, laidLooks := .later }
def HexlineFormatMatchesReferenceUptoCardSaid : Prop := Claim7.holds Tryd.pinned (.plain (OpenSpec.upto hexlineFormatMatchesReferenceSpec)) hexlineFormatMatchesReferenceUptoCard

/-- THE SECOND FORM's CARD OF 'tmplpipelaw03.HexlineParseMatchesReference'. -/
def hexlineParseMatchesReferenceUptoCard : Claim7 := { stood := { row := hexlineParseMatchesReferenceUptoRow, standIns := [], harness := (true, "15f48c59322510e07d0f69f5c9f6a0c3e86710e7f1c4c49dbedcb8453bfe2d99"), looks := false }, kinds := [], alts := [], laidByText := true, laidKinds := [.data, .data, .data, .data, .pinned], laidTests := true, laidLooks := .later }
def HexlineParseMatchesReferenceUptoCardSaid : Prop := Claim7.holds Tryd.pinned (.plain (OpenSpec.upto hexlineParseMatchesReferenceSpec)) hexlineParseMatchesReferenceUptoCard

/-- THE SECOND FORM's CARD OF 'tmplpipelaw03.HexlineRoundTrip'. -/
def hexlineRoundTripUptoCard : Claim7 := { stood := { row := hexlineRoundTripUptoRow, standIns := [], harness := (true, "15f48c59322510e07d0f69f5c9f6a0c3e86710e7f1c4c49dbedcb8453bfe2d99"), looks := false }, kinds := [], alts := [], laidByText := true, laidKinds := [.data, .data, .data, .data, .pinned], laidTests := true, laidLooks := .later }
def HexlineRoundTripUptoCardSaid : Prop := Claim7.holds Tryd.pinned (.plain (OpenSpec.upto hexlineRoundTripSpec)) hexlineRoundTripUptoCard

/-- THE SECOND FORM's CARD OF 'tmplpipelaw03.HexlineIsCanonical'. -/
def hexlineIsCanonicalUptoCard : Claim7 := { stood := { row := hexlineIsCanonicalUptoRow, standIns := [], harness := (true, "15f48c59322510e07d0f69f5c9f6a0c3e86710e7f1c4c49dbedcb8453bfe2d99"), looks := false }, kinds := [], alts := [], laidByText := true, laidKinds := [.data, .data, .data, .data, .pinned], laidTests := true, laidLooks := .later }
def HexlineIsCanonicalUptoCardSaid : Prop := Claim7.holds Tryd.pinned (.plain (OpenSpec.upto hexlineIsCanonicalSpec)) hexlineIsCanonicalUptoCard

/-- THE SECOND FORM's CARD OF 'tmplpipelaw03.HexlineOrder'. -/
def hexlineOrderUptoCard : Claim7 := { stood := { row := hexlineOrderUptoRow, standIns := [], harness := (true, "15f48c59322510e07d0f69f5c9f6a0c3e86710e7f1c4c49dbedcb8453bfe2d99"), looks := false }, kinds := [], alts := [], laidByText := true, laidKinds := [.data, .data, .data, .data, .pinned], laidTests := true, laidLooks := .later }
def HexlineOrderUptoCardSaid : Prop := Claim7.holds Tryd.pinned (.plain (OpenSpec.upto hexlineOrderSpec)) hexlineOrderUptoCard
end Rows
end Go.Proofs.YthihogahaboknaaDoor
