/-
  DERIVED. GIVEN WITH THE SEED: THE CARDS: each row of YtgbppdgpengcoaaDoorRows.lean that lists a variable, with what it lists TIED to the program's text (the seventh form; the later family's looks); each row that meets fmt, with fmt's text TOLD by the authors' own Lean function (tested against real Go, not proved from fmt's source: count such statements apart). THE CARD IS WHAT COUNTS. Prove the row's statement (the work); the ties are given (YtgbppdgpengcoaaDoorTie.lean); close each card by the builder's one call (the guide's Derived/Test/ToyasCard.lean, 'card_holds'). Laid BY PROGRAM, IN A SANDBOX (cutbox-door.mjs). By AI agents, Wed Nov 11 2026. No macro, syntax, notation, axiom, sorry.
-/
import Derived.Test.YtgbppdgpengcoaaDoorRows
import GoSem.ClaimSeven
namespace Go.Proofs.YtgbppdgpengcoaaDoor
namespace Rows

/-- THE TIED CARD OF 'tmplpipelaw12.ParseMatchesReference'. -/
def parseMatchesReferenceCard : Claim7 := { stood := { row := parseMatchesReferenceRow, standIns := [], harness := (true, "d3a3c962b265abf400dfc6d02795670c799d53ceb55ba8b0ef48dc57fe76ddbe"), looks := true }, kinds := [], alts := [], laidByText := true, laidKinds := [.data, .pinned], laidTests := true, laidLooks := .later }
def ParseMatchesReferenceCardSaid : Prop := Claim7.holds Tryd.pinned (.plain (OpenSpec.ofChange parseMatchesReferenceSpec)) parseMatchesReferenceCard

/-- THE TIED CARD OF 'tmplpipelaw12.ParseCountMatchesReference'. -/
def parseCountMatchesReferenceCard : Claim7 := { stood := { row := parseCountMatchesReferenceRow, standIns := [], harness := (true, "d3a3c962b265abf400dfc6d02795670c799d53ceb55ba8b0ef48dc57fe76ddbe"), looks := true }, kinds := [], alts := [], laidByText := true, laidKinds := [.data, .pinned], laidTests := true, laidLooks := .later }
def ParseCountMatchesReferenceCardSaid : Prop := Claim7.holds Tryd.pinned (.plain (OpenSpec.ofChange parseCountMatchesReferenceSpec)) parseCountMatchesReferenceCard

/-- THE TIED CARD OF 'tmplpipelaw12.ParseLimits'. -/
def parseLimitsCard : Claim7 := { stood := { row := parseLimitsRow, standIns := [], harness := (true, "d3a3c962b265abf400dfc6d02795670c799d53ceb55ba8b0ef48dc57fe76ddbe"), looks := true }, kinds := [], alts := [], laidByText := true, laidKinds := [.data, .pinned], laidTests := true, laidLooks := .later }
def ParseLimitsCardSaid : Prop := Claim7.holds Tryd.pinned (.plain (OpenSpec.ofChange parseLimitsSpec)) parseLimitsCard

/-- THE TIED CARD OF 'tmplpipelaw12.ParseConcatenation'. -/
def parseConcatenationCard : Claim7 := { stood := { row := parseConcatenationRow, standIns := [], harness := (true, "d3a3c962b265abf400dfc6d02795670c799d53ceb55ba8b0ef48dc57fe76ddbe"), looks := true }, kinds := [], alts := [], laidByText := true, laidKinds := [.data, .pinned], laidTests := true, laidLooks := .later }
def ParseConcatenationCardSaid : Prop := Claim7.holds Tryd.pinned (.plain (OpenSpec.ofChange parseConcatenationSpec)) parseConcatenationCard

/-- THE TIED CARD OF 'tmplpipelaw12.ParseManyNodes'. -/
def parseManyNodesCard : Claim7 := { stood := { row := parseManyNodesRow, standIns := [], harness := (true, "d3a3c962b265abf400dfc6d02795670c799d53ceb55ba8b0ef48dc57fe76ddbe"), looks := true }, kinds := [], alts := [], laidByText := true, laidKinds := [.data, .pinned], laidTests := true, laidLooks := .later }
def ParseManyNodesCardSaid : Prop := Claim7.holds Tryd.pinned (.plain (OpenSpec.ofChange parseManyNodesSpec)) parseManyNodesCard

/-- THE TIED CARD OF 'tmplpipelaw12.ParseOffsets'. -/
def parseOffsetsCard : Claim7 := { stood := { row := parseOffsetsRow, standIns := [], harness := (true, "d3a3c962b265abf400dfc6d02795670c799d53ceb55ba8b0ef48dc57fe76ddbe"), looks := true }, kinds := [], alts := [], laidByText := true, laidKinds := [.data, .pinned], laidTests := true, laidLooks := .later }
def ParseOffsetsCardSaid : Prop := Claim7.holds Tryd.pinned (.plain (OpenSpec.ofChange parseOffsetsSpec)) parseOffsetsCard

/-- THE SECOND FORM's CARD OF 'tmplpipelaw12.ParseMatchesReference'. -/
def parseMatchesReferenceUptoCard : Claim7 := { stood := { row := parseMatchesReferenceUptoRow, standIns := [], harness := (true, "d3a3c962b265abf400dfc6d02795670c799d53ceb55ba8b0ef48dc57fe76ddbe"), looks := true }, kinds := [], alts := [], laidByText := true, laidKinds := [.data, .pinned], laidTests := true, laidLooks := .later }
def ParseMatchesReferenceUptoCardSaid : Prop := Claim7.holds Tryd.pinned (.plain (OpenSpec.upto parseMatchesReferenceSpec)) parseMatchesReferenceUptoCard

/-- THE SECOND FORM's CARD OF 'tmplpipelaw12.ParseCountMatchesReference'. -/
def parseCountMatchesReferenceUptoCard : Claim7 := { stood := { row := parseCountMatchesReferenceUptoRow, standIns := [], harness := (true, "d3a3c962b265abf400dfc6d02795670c799d53ceb55ba8b0ef48dc57fe76ddbe"), looks := true }, kinds := [], alts := [], laidByText := true, laidKinds := [.data, .pinned], laidTests := true, laidLooks := .later }
def ParseCountMatchesReferenceUptoCardSaid : Prop := Claim7.holds Tryd.pinned (.plain (OpenSpec.upto parseCountMatchesReferenceSpec)) parseCountMatchesReferenceUptoCard

/-- THE SECOND FORM's CARD OF 'tmplpipelaw12.ParseLimits'. -/
def parseLimitsUptoCard : Claim7 := { stood := { row := parseLimitsUptoRow, standIns := [], harness := (true, "d3a3c962b265abf400dfc6d02795670c799d53ceb55ba8b0ef48dc57fe76ddbe"), looks := true }, kinds := [], alts := [], laidByText := true, laidKinds := [.data, .pinned], laidTests := true, laidLooks := .later }
def ParseLimitsUptoCardSaid : Prop := Claim7.holds Tryd.pinned (.plain (OpenSpec.upto parseLimitsSpec)) parseLimitsUptoCard

/-- THE SECOND FORM's CARD OF 'tmplpipelaw12.ParseConcatenation'. -/
def parseConcatenationUptoCard : Claim7 := { stood := { row := parseConcatenationUptoRow, standIns := [], harness := (true, "d3a3c962b265abf400dfc6d02795670c799d53ceb55ba8b0ef48dc57fe76ddbe"), looks := true }, kinds := [], alts := [], laidByText := true, laidKinds := [.data, .pinned], laidTests := true, laidLooks := .later }
def ParseConcatenationUptoCardSaid : Prop := Claim7.holds Tryd.pinned (.plain (OpenSpec.upto parseConcatenationSpec)) parseConcatenationUptoCard

/-- THE SECOND FORM's CARD OF 'tmplpipelaw12.ParseManyNodes'. -/
def parseManyNodesUptoCard : Claim7 := { stood := { row := parseManyNodesUptoRow, standIns := [], harness := (true, "d3a3c962b265abf400dfc6d02795670c799d53ceb55ba8b0ef48dc57fe76ddbe"), looks := true }, kinds := [], alts := [], laidByText := true, laidKinds := [.data, .pinned], laidTests := true, laidLooks := .later }
def ParseManyNodesUptoCardSaid : Prop := Claim7.holds Tryd.pinned (.plain (OpenSpec.upto parseManyNodesSpec)) parseManyNodesUptoCard

/-- THE SECOND FORM's CARD OF 'tmplpipelaw12.ParseOffsets'. -/
def parseOffsetsUptoCard : Claim7 := { stood := { row := parseOffsetsUptoRow, standIns := [], harness := (true, "d3a3c962b265abf400dfc6d02795670c799d53ceb55ba8b0ef48dc57fe76ddbe"), looks := true }, kinds := [], alts := [], laidByText := true, laidKinds := [.data, .pinned], laidTests := true, laidLooks := .later }
def ParseOffsetsUptoCardSaid : Prop := Claim7.holds Tryd.pinned (.plain (OpenSpec.upto parseOffsetsSpec)) parseOffsetsUptoCard
end Rows
end Go.Proofs.YtgbppdgpengcoaaDoor
