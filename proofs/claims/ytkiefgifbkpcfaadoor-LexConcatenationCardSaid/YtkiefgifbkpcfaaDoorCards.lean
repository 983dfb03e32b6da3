/-
  DERIVED. GIVEN WITH THE SEED: THE CARDS: each row of YtkiefgifbkpcfaaDoorRows.lean that lists a variable, with what it lists TIED to the program's text (the seventh form; the later family's looks); each row that meets fmt, with fmt's text TOLD by the authors' own Lean function (tested against real Go, not proved from fmt's source: count such statements apart). THE CARD IS WHAT COUNTS. Prove the row's statement (the work); the ties are given (YtkiefgifbkpcfaaDoorTie.lean); close each card by the builder's one call (the guide's Derived/Test/ToyasCard.lean, 'card_holds'). Laid BY PROGRAM, IN A SANDBOX (cutbox-door.mjs). By AI agents, Wed Nov 11 2026. No macro, syntax, notation, axiom, sorry.
-/
import Derived.Test.YtkiefgifbkpcfaaDoorRows
import GoSem.ClaimSeven
namespace Go.Proofs.YtkiefgifbkpcfaaDoor
namespace Rows

/-- THE TIED CARD OF 'tmplpipelaw11.LexMatchesReference'. -/
def lexMatchesReferenceCard : Claim7 := { stood := { row := lexMatchesReferenceRow, standIns := [], harness := (true, "12e97c29d51407fe0f1ac6879a352bdcdeabbea854ca7bb2065d2a70dd39970f"), looks := false }, kinds := [], alts := [], laidByText := true, laidKinds := [.data, .pinned], laidTests := true, laidLooks := .later }
def LexMatchesReferenceCardSaid : Prop := Claim7.holds Tryd.pinned (.plain (OpenSpec.ofChange lexMatchesReferenceSpec)) lexMatchesReferenceCard

/-- THE TIED CARD OF 'tmplpipelaw11.LexFormatRoundTrip'. -/
def lexFormatRoundTripCard : Claim7 := { stood := { row := lexFormatRoundTripRow, standIns := [], harness := (true, "12e97c29d51407fe0f1ac6879a352bdcdeabbea854ca7bb2065d2a70dd39970f"), looks := false }, kinds := [], alts := [], laidByText := true, laidKinds := [.data, .pinned], laidTests := true, laidLooks := .later }
def LexFormatRoundTripCardSaid : Prop := Claim7.holds Tryd.pinned (.plain (OpenSpec.ofChange lexFormatRoundTripSpec)) lexFormatRoundTripCard

/-- THE TIED CARD OF 'tmplpipelaw11.LexTextIsLiteral'. -/
def lexTextIsLiteralCard : Claim7 := { stood := { row := lexTextIsLiteralRow, standIns := [], harness := (true, "12e97c29d51407fe0f1ac6879a352bdcdeabbea854ca7bb2065d2a70dd39970f"), looks := false }, kinds := [], alts := [], laidByText := true, laidKinds := [.data, .pinned], laidTests := true, laidLooks := .later }
def LexTextIsLiteralCardSaid : Prop := Claim7.holds Tryd.pinned (.plain (OpenSpec.ofChange lexTextIsLiteralSpec)) lexTextIsLiteralCard

/-- THE TIED CARD OF 'tmplpipelaw11.LexOffsets'. -/
def lexOffsetsCard : Claim7 := { stood := { row := lexOffsetsRow, standIns := [], harness := (true, "12e97c29d51407fe0f1ac6879a352bdcdeabbea854ca7bb2065d2a70dd39970f"), looks := false }, kinds := [], alts := [], laidByText := true, laidKinds := [.data, .pinned], laidTests := true, laidLooks := .later }
def LexOffsetsCardSaid : Prop := Claim7.holds Tryd.pinned (.plain (OpenSpec.ofChange lexOffsetsSpec)) lexOffsetsCard

/-- THE TIED CARD OF 'tmplpipelaw11.LexConcatenation'. -/
def lexConcatenationCard : Claim7 := { stood := { row := lexConcatenationRow, standIns := [], harness := (true, "12e97c29d51407fe0f1ac6879a352bdcdeabbea854ca7bb2065d2a70dd39970f"), looks := false }, kinds := [], alts := [], laidByText := true, laidKinds := [.data, .pinned], laidTests := true, laidLooks := .later }
def LexConcatenationCardSaid : Prop := Claim7.holds Tryd.pinned (.plain (OpenSpec.ofChange lexConcatenationSpec)) lexConcatenationCard

/-- THE SECOND FORM's CARD OF 'tmplpipelaw11.LexMatchesReference'. -/
def lexMatchesReferenceUptoCard : Claim7 := { stood := { row := lexMatchesReferenceUptoRow, standIns := [], harness := (true, "12e97c29d51407fe0f1ac6879a352bdcdeabbea854ca7bb2065d2a70dd39970f"), looks := false }, kinds := [], alts := [], laidByText := true, laidKinds := [.data, .pinned], laidTests := true, laidLooks := .later }
def LexMatchesReferenceUptoCardSaid : Prop := Claim7.holds Tryd.pinned (.plain (OpenSpec.upto lexMatchesReferenceSpec)) lexMatchesReferenceUptoCard

/-- THE SECOND FORM's CARD OF 'tmplpipelaw11.LexFormatRoundTrip'. -/
def lexFormatRoundTripUptoCard : Claim7 := { stood := { row := lexFormatRoundTripUptoRow, standIns := [], harness := (true, "12e97c29d51407fe0f1ac6879a352bdcdeabbea854ca7bb2065d2a70dd39970f"), looks := false }, kinds := [], alts := [], laidByText := true, laidKinds := [.data, .pinned], laidTests := true, laidLooks := .later }
def LexFormatRoundTripUptoCardSaid : Prop := Claim7.holds Tryd.pinned (.plain (OpenSpec.upto lexFormatRoundTripSpec)) lexFormatRoundTripUptoCard

/-- THE SECOND FORM's CARD OF 'tmplpipelaw11.LexTextIsLiteral'. -/
def lexTextIsLiteralUptoCard : Claim7 := { stood := { row := lexTextIsLiteralUptoRow, standIns := [], harness := (true, "12e97c29d51407fe0f1ac6879a352bdcdeabbea854ca7bb2065d2a70dd39970f"), looks := false }, kinds := [], alts := [], laidByText := true, laidKinds := [.data, .pinned], laidTests := true, laidLooks := .later }
def LexTextIsLiteralUptoCardSaid : Prop := Claim7.holds Tryd.pinned (.plain (OpenSpec.upto lexTextIsLiteralSpec)) lexTextIsLiteralUptoCard

/-- THE SECOND FORM's CARD OF 'tmplpipelaw11.LexOffsets'. -/
def lexOffsetsUptoCard : Claim7 := { stood := { row := lexOffsetsUptoRow, standIns := [], harness := (true, "12e97c29d51407fe0f1ac6879a352bdcdeabbea854ca7bb2065d2a70dd39970f"), looks := false }, kinds := [], alts := [], laidByText := true, laidKinds := [.data, .pinned], laidTests := true, laidLooks := .later }
def LexOffsetsUptoCardSaid : Prop := Claim7.holds Tryd.pinned (.plain (OpenSpec.upto lexOffsetsSpec)) lexOffsetsUptoCard

/-- THE SECOND FORM's CARD OF 'tmplpipelaw11.LexConcatenation'. -/
def lexConcatenationUptoCard : Claim7 := { stood := { row := lexConcatenationUptoRow, standIns := [], harness := (true, "12e97c29d51407fe0f1ac6879a352bdcdeabbea854ca7bb2065d2a70dd39970f"), looks := false }, kinds := [], alts := [], laidByText := true, laidKinds := [.data, .pinned], laidTests := true, laidLooks := .later }
def LexConcatenationUptoCardSaid : Prop := Claim7.holds Tryd.pinned (.plain (OpenSpec.upto lexConcatenationSpec)) lexConcatenationUptoCard
end Rows
end Go.Proofs.YtkiefgifbkpcfaaDoor
