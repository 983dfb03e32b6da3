/-
  DERIVED. GIVEN WITH THE SEED: THE CARDS: each row of YtpcapmdfjmpdiaaGreatDoorRows.lean that lists a variable, with what it lists TIED to the program's text (the seventh form; the later family's looks); each row that meets fmt, with fmt's text TOLD by the authors' own Lean function (tested against real Go, not proved from fmt's source: count such statements apart). THE CARD IS WHAT COUNTS. Prove the row's statement (the work); the ties are given (YtpcapmdfjmpdiaaGreatDoorTie.lean); close each card by the builder's one call (the guide's Derived/Test/ToyasCard.lean, 'card_holds'). Laid BY PROGRAM, IN A SANDBOX (cutbox-door.mjs). By AI agents, Wed Nov 11 2026. No macro, syntax, notation, axiom, sorry.
-/
import Derived.Test.YtpcapmdfjmpdiaaGreatDoorRows
import GoSem.ClaimSeven
namespace Go.Proofs.YtpcapmdfjmpdiaaGreatDoor
namespace Rows

/-- THE TIED CARD OF 'tmplpipelaw17.CompileMatchesReference'. -/
def compileMatchesReferenceCard : Claim7 := { stood := { row := compileMatchesReferenceRow, standIns := [], harness := (true, "62941498530b4ab02cc513294db130012875fdad4e8789a6a343a3893c2c991b"), looks := true }, kinds := [], alts := [], laidByText := true, laidKinds := [.data, .pinned], laidTests := true, laidLooks := .later }
def CompileMatchesReferenceCardSaid : Prop := Claim7.holds Tryz.pinned (.plain (OpenSpec.ofChange compileMatchesReferenceSpec)) compileMatchesReferenceCard

/-- THE TIED CARD OF 'tmplpipelaw17.CompileCheckMatchesReference'. -/
def compileCheckMatchesReferenceCard : Claim7 := { stood := { row := compileCheckMatchesReferenceRow, standIns := [], harness := (true, "62941498530b4ab02cc513294db130012875fdad4e8789a6a343a3893c2c991b"), looks := true }, kinds := [], alts := [], laidByText := true, laidKinds := [.data, .data, .pinned], laidTests := true, laidLooks := .later }
def CompileCheckMatchesReferenceCardSaid : Prop := Claim7.holds Tryz.pinned (.plain (OpenSpec.ofChange compileCheckMatchesReferenceSpec)) compileCheckMatchesReferenceCard

/-- THE TIED CARD OF 'tmplpipelaw17.CompileErrorsInOrder'. -/
def compileErrorsInOrderCard : Claim7 := { stood := { row := compileErrorsInOrderRow, standIns := [], harness := (true, "62941498530b4ab02cc513294db130012875fdad4e8789a6a343a3893c2c991b"), looks := true }, kinds := [], alts := [], laidByText := true, laidKinds := [.data, .pinned], laidTests := true, laidLooks := .later }
def CompileErrorsInOrderCardSaid : Prop := Claim7.holds Tryz.pinned (.plain (OpenSpec.ofChange compileErrorsInOrderSpec)) compileErrorsInOrderCard

/-- THE TIED CARD OF 'tmplpipelaw17.CompileIsValid'. -/
def compileIsValidCard : Claim7 := { stood := { row := compileIsValidRow, standIns := [], harness := (true, "62941498530b4ab02cc513294db130012875fdad4e8789a6a343a3893c2c991b"), looks := true }, kinds := [], alts := [], laidByText := true, laidKinds := [.data, .data, .pinned], laidTests := true, laidLooks := .later }
def CompileIsValidCardSaid : Prop := Claim7.holds Tryz.pinned (.plain (OpenSpec.ofChange compileIsValidSpec)) compileIsValidCard

/-- THE TIED CARD OF 'tmplpipelaw17.CompileFormatIndependent'. -/
def compileFormatIndependentCard : Claim7 := { stood := { row := compileFormatIndependentRow, standIns := [], harness := (true, "62941498530b4ab02cc513294db130012875fdad4e8789a6a343a3893c2c991b"), looks := true }, kinds := [], alts := [], laidByText := true, laidKinds := [.data, .pinned], laidTests := true, laidLooks := .later }
def CompileFormatIndependentCardSaid : Prop := Claim7.holds Tryz.pinned (.plain (OpenSpec.ofChange compileFormatIndependentSpec)) compileFormatIndependentCard

/-- THE TIED CARD OF 'tmplpipelaw17.CompileJumpsForward'. -/
def compileJumpsForwardCard : Claim7 := { stood := { row := compileJumpsForwardRow, standIns := [], harness := (true, "62941498530b4ab02cc513294db130012875fdad4e8789a6a343a3893c2c991b"), looks := true }, kinds := [], alts := [], laidByText := true, laidKinds := [.data, .pinned], laidTests := true, laidLooks := .later }
def CompileJumpsForwardCardSaid : Prop := Claim7.holds Tryz.pinned (.plain (OpenSpec.ofChange compileJumpsForwardSpec)) compileJumpsForwardCard

/-- THE SECOND FORM's CARD OF 'tmplpipelaw17.CompileMatchesReference'. -/
def compileMatchesReferenceUptoCard : Claim7 := { stood := { row := compileMatchesReferenceUptoRow, standIns := [], harness := (true, "62941498530b4ab02cc513294db130012875fdad4e8789a6a343a3893c2c991b"), looks := true }, kinds := [], alts := [], laidByText := true, laidKinds := [.data, .pinned], laidTests := true, laidLooks := .later }
def CompileMatchesReferenceUptoCardSaid : Prop := Claim7.holds Tryz.pinned (.plain (OpenSpec.upto compileMatchesReferenceSpec)) compileMatchesReferenceUptoCard

/-- THE SECOND FORM's CARD OF 'tmplpipelaw17.CompileCheckMatchesReference'. -/
def compileCheckMatchesReferenceUptoCard : Claim7 := { stood := { row := compileCheckMatchesReferenceUptoRow, standIns := [], harness := (true, "62941498530b4ab02cc513294db130012875fdad4e8789a6a343a3893c2c991b"), looks := true }, kinds := [], alts := [], laidByText := true, laidKinds := [.data, .data, .pinned], laidTests := true, laidLooks := .later }
def CompileCheckMatchesReferenceUptoCardSaid : Prop := Claim7.holds Tryz.pinned (.plain (OpenSpec.upto compileCheckMatchesReferenceSpec)) compileCheckMatchesReferenceUptoCard

/-- THE SECOND FORM's CARD OF 'tmplpipelaw17.CompileErrorsInOrder'. -/
def compileErrorsInOrderUptoCard : Claim7 := { stood := { row := compileErrorsInOrderUptoRow, standIns := [], harness := (true, "62941498530b4ab02cc513294db130012875fdad4e8789a6a343a3893c2c991b"), looks := true }, kinds := [], alts := [], laidByText := true, laidKinds := [.data, .pinned], laidTests := true, laidLooks := .later }
def CompileErrorsInOrderUptoCardSaid : Prop := Claim7.holds Tryz.pinned (.plain (OpenSpec.upto compileErrorsInOrderSpec)) compileErrorsInOrderUptoCard

/-- THE SECOND FORM's CARD OF 'tmplpipelaw17.CompileIsValid'. -/
def compileIsValidUptoCard : Claim7 := { stood := { row := compileIsValidUptoRow, standIns := [], harness := (true, "62941498530b4ab02cc513294db130012875fdad4e8789a6a343a3893c2c991b"), looks := true }, kinds := [], alts := [], laidByText := true, laidKinds := [.data, .data, .pinned], laidTests := true, laidLooks := .later }
def CompileIsValidUptoCardSaid : Prop := Claim7.holds Tryz.pinned (.plain (OpenSpec.upto compileIsValidSpec)) compileIsValidUptoCard

/-- THE SECOND FORM's CARD OF 'tmplpipelaw17.CompileFormatIndependent'. -/
def compileFormatIndependentUptoCard : Claim7 := { stood := { row := compileFormatIndependentUptoRow, standIns := [], harness := (true, "62941498530b4ab02cc513294db130012875fdad4e8789a6a343a3893c2c991b"), looks := true }, kinds := [], alts := [], laidByText := true, laidKinds := [.data, .pinned], laidTests := true, laidLooks := .later }
def CompileFormatIndependentUptoCardSaid : Prop := Claim7.holds Tryz.pinned (.plain (OpenSpec.upto compileFormatIndependentSpec)) compileFormatIndependentUptoCard

/-- THE SECOND FORM's CARD OF 'tmplpipelaw17.CompileJumpsForward'. -/
def compileJumpsForwardUptoCard : Claim7 := { stood := { row := compileJumpsForwardUptoRow, standIns := [], harness := (true, "62941498530b4ab02cc513294db130012875fdad4e8789a6a343a3893c2c991b"), looks := true }, kinds := [], alts := [], laidByText := true, laidKinds := [.data, .pinned], laidTests := true, laidLooks := .later }
def CompileJumpsForwardUptoCardSaid : Prop := Claim7.holds Tryz.pinned (.plain (OpenSpec.upto compileJumpsForwardSpec)) compileJumpsForwardUptoCard
end Rows
end Go.Proofs.YtpcapmdfjmpdiaaGreatDoor
