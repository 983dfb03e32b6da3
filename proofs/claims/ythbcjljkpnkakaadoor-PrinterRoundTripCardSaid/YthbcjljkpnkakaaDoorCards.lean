/-
  DERIVED. GIVEN WITH THE SEED: THE CARDS: each row of YthbcjljkpnkakaaDoorRows.lean that lists a variable, with what it lists TIED to the program's text (the seventh form; the later family's looks); each row that meets fmt, with fmt's text TOLD by the authors' own Lean function (tested against real Go, not proved from fmt's source: count such statements apart). THE CARD IS WHAT COUNTS. Prove the row's statement (the work); the ties are given (YthbcjljkpnkakaaDoorTie.lean); close each card by the builder's one call (the guide's Derived/Test/ToyasCard.lean, 'card_holds'). Laid BY PROGRAM, IN A SANDBOX (cutbox-door.mjs). By AI agents, Wed Nov 11 2026. No macro, syntax, notation, axiom, sorry.
-/
import Derived.Test.YthbcjljkpnkakaaDoorRows
import GoSem.ClaimSeven
namespace Go.Proofs.YthbcjljkpnkakaaDoor
namespace Rows

/-- THE TIED CARD OF 'tmplpipelaw13.PrinterRoundTrip'. -/
def printerRoundTripCard : Claim7 := { stood := { row := printerRoundTripRow, standIns := [], harness := (true, "ee8202bd3eb79681817db2cadd4c9b3fb26238a76e6585e21b71735c4f9d33d6"), looks := true }, kinds := [], alts := [], laidByText := true, laidKinds := [.data, .pinned], laidTests := true, laidLooks := .later }
def PrinterRoundTripCardSaid : Prop := Claim7.holds Tryd.pinned (.plain (OpenSpec.ofChange printerRoundTripSpec)) printerRoundTripCard

/-- THE SECOND FORM's CARD OF 'tmplpipelaw13.PrinterRoundTrip'. -/
def printerRoundTripUptoCard : Claim7 := { stood := { row := printerRoundTripUptoRow, standIns := [], harness := (true, "ee8202bd3eb79681817db2cadd4c9b3fb26238a76e6585e21b71735c4f9d33d6"), looks := true }, kinds := [], alts := [], laidByText := true, laidKinds := [.data, .pinned], laidTests := true, laidLooks := .later }
def PrinterRoundTripUptoCardSaid : Prop := Claim7.holds Tryd.pinned (.plain (OpenSpec.upto printerRoundTripSpec)) printerRoundTripUptoCard
end Rows
end Go.Proofs.YthbcjljkpnkakaaDoor
