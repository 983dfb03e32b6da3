/-
  DERIVED. GIVEN WITH THE SEED: THE CARDS: each row of YtfchkaoifbcgkaaDoorRows.lean that lists a variable, with what it lists TIED to the program's text (the seventh form; the later family's looks); each row that meets fmt, with fmt's text TOLD by the authors' own Lean function (tested against real Go, not proved from fmt's source: count such statements apart). THE CARD IS WHAT COUNTS. Prove the row's statement (the work); the ties are given (YtfchkaoifbcgkaaDoorTie.lean); close each card by the builder's one call (the guide's Derived/Test/ToyasCard.lean, 'card_holds'). Laid BY PROGRAM, IN A SANDBOX (cutbox-door.mjs). By AI agents, Wed Nov 11 2026. No macro, syntax, notation, axiom, sorry.
-/
import Derived.Test.YtfchkaoifbcgkaaDoorRows
import GoSem.ClaimSeven
namespace Go.Proofs.YtfchkaoifbcgkaaDoor
namespace Rows

/-- THE TIED CARD OF 'tmplpipelaw05.DechunkMatchesReference'. -/
def dechunkMatchesReferenceCard : Claim7 := { stood := { row := dechunkMatchesReferenceRow, standIns := [], harness := (true, "a2344b51c9c874f13ba9935e359115a874e9d1e390a0db92bc65ca28840e0b33"), looks := false }, kinds := [], alts := [], laidByText := true, laidKinds := [.data, .data, .data, .data, .pinned], laidTests := true, laidLooks := .later }
def DechunkMatchesReferenceCardSaid : Prop := Claim7.holds Tryd.pinned (.plain (OpenSpec.ofChange dechunkMatchesReferenceSpec)) dechunkMatchesReferenceCard

/-- THE TIED CARD OF 'tmplpipelaw05.DechunkDecodeMatchesReference'. -/
def dechunkDecodeMatchesReferenceCard : Claim7 := { stood := { row := dechunkDecodeMatchesReferenceRow, standIns := [], harness := (true, "a2344b51c9c874f13ba9935e359115a874e9d1e390a0db92bc65ca28840e0b33"), looks := false }, kinds := [], alts := [], laidByText := true, laidKinds := [.data, .data, .data, .data, .pinned], laidTests := true, laidLooks := .later }
def DechunkDecodeMatchesReferenceCardSaid : Prop := Claim7.holds Tryd.pinned (.plain (OpenSpec.ofChange dechunkDecodeMatchesReferenceSpec)) dechunkDecodeMatchesReferenceCard

/-- THE TIED CARD OF 'tmplpipelaw05.DechunkInvertsFramer'. -/
def dechunkInvertsFramerCard : Claim7 := { stood := { row := dechunkInvertsFramerRow, standIns := [], harness := (true, "a2344b51c9c874f13ba9935e359115a874e9d1e390a0db92bc65ca28840e0b33"), looks := false }, kinds := [], alts := [], laidByText := true, laidKinds := [.data, .data, .data, .data, .pinned], laidTests := true, laidLooks := .later }
def DechunkInvertsFramerCardSaid : Prop := Claim7.holds Tryd.pinned (.plain (OpenSpec.ofChange dechunkInvertsFramerSpec)) dechunkInvertsFramerCard

/-- THE TIED CARD OF 'tmplpipelaw05.DechunkSplitIrrelevant'. -/
def dechunkSplitIrrelevantCard : Claim7 := { stood := { row := dechunkSplitIrrelevantRow, standIns := [], harness := (true, "a2344b51c9c874f13ba9935e359115a874e9d1e390a0db92bc65ca28840e0b33"), looks := false }, kinds := [], alts := [], laidByText := true, laidKinds := [.data, .data, .data, .data, .pinned], laidTests := true, laidLooks := .later }
def DechunkSplitIrrelevantCardSaid : Prop := Claim7.holds Tryd.pinned (.plain (OpenSpec.ofChange dechunkSplitIrrelevantSpec)) dechunkSplitIrrelevantCard

/-- THE TIED CARD OF 'tmplpipelaw05.DechunkTrailingData'. -/
def dechunkTrailingDataCard : Claim7 := { stood := { row := dechunkTrailingDataRow, standIns := [], harness := (true, "a2344b51c9c874f13ba9935e359115a874e9d1e390a0db92bc65ca28840e0b33"), looks := false }, kinds := [], alts := [], laidByText := true, laidKinds := [.data, .data, .data, .data, .pinned], laidTests := true, laidLooks := .later }
def DechunkTrailingDataCardSaid : Prop := Claim7.holds Tryd.pinned (.plain (OpenSpec.ofChange dechunkTrailingDataSpec)) dechunkTrailingDataCard

/-- THE SECOND FORM's CARD OF 'tmplpipelaw05.DechunkMatchesReference'. -/
def dechunkMatchesReferenceUptoCard : Claim7 := { stood := { row := dechunkMatchesReferenceUptoRow, standIns := [], harness := (true, "a2344b51c9c874f13ba9935e359115a874e9d1e390a0db92bc65ca28840e0b33"), looks := false }, kinds := [], alts := [], laidByText := true, laidKinds := [.data, .data, .data, .data, .pinned], laidTests := true, laidLooks := .later }
def DechunkMatchesReferenceUptoCardSaid : Prop := Claim7.holds Tryd.pinned (.plain (OpenSpec.upto dechunkMatchesReferenceSpec)) dechunkMatchesReferenceUptoCard

/-- THE SECOND FORM's CARD OF 'tmplpipelaw05.DechunkDecodeMatchesReference'. -/
def dechunkDecodeMatchesReferenceUptoCard : Claim7 := { stood := { row := dechunkDecodeMatchesReferenceUptoRow, standIns := [], harness := (true, "a2344b51c9c874f13ba9935e359115a874e9d1e390a0db92bc65ca28840e0b33"), looks := false }, kinds := [], alts := [], laidByText := true, laidKinds := [.data, .data, .data, .data, .pinned], laidTests := true, laidLooks := .later }
def DechunkDecodeMatchesReferenceUptoCardSaid : Prop := Claim7.holds Tryd.pinned (.plain (OpenSpec.upto dechunkDecodeMatchesReferenceSpec)) dechunkDecodeMatchesReferenceUptoCard

/-- THE SECOND FORM's CARD OF 'tmplpipelaw05.DechunkInvertsFramer'. -/
def dechunkInvertsFramerUptoCard : Claim7 := { stood := { row := dechunkInvertsFramerUptoRow, standIns := [], harness := (true, "a2344b51c9c874f13ba9935e359115a874e9d1e390a0db92bc65ca28840e0b33"), looks := false }, kinds := [], alts := [], laidByText := true, laidKinds := [.data, .data, .data, .data, .pinned], laidTests := true, laidLooks := .later }
def DechunkInvertsFramerUptoCardSaid : Prop := Claim7.holds Tryd.pinned (.plain (OpenSpec.upto dechunkInvertsFramerSpec)) dechunkInvertsFramerUptoCard

/-- THE SECOND FORM's CARD OF 'tmplpipelaw05.DechunkSplitIrrelevant'. -/
def dechunkSplitIrrelevantUptoCard : Claim7 := { stood := { row := dechunkSplitIrrelevantUptoRow, standIns := [], harness := (true, "a2344b51c9c874f13ba9935e359115a874e9d1e390a0db92bc65ca28840e0b33"), looks := false }, kinds := [], alts := [], laidByText := true, laidKinds := [.data, .data, .data, .data, .pinned], laidTests := true, laidLooks := .later }
def DechunkSplitIrrelevantUptoCardSaid : Prop := Claim7.holds Tryd.pinned (.plain (OpenSpec.upto dechunkSplitIrrelevantSpec)) dechunkSplitIrrelevantUptoCard

/-- THE SECOND FORM's CARD OF 'tmplpipelaw05.DechunkTrailingData'. -/
def dechunkTrailingDataUptoCard : Claim7 := { stood := { row := dechunkTrailingDataUptoRow, standIns := [], harness := (true, "a2344b51c9c874f13ba9935e359115a874e9d1e390a0db92bc65ca28840e0b33"), looks := false }, kinds := [], alts := [], laidByText := true, laidKinds := [.data, .data, .data, .data, .pinned], laidTests := true, laidLooks := .later }
def DechunkTrailingDataUptoCardSaid : Prop := Claim7.holds Tryd.pinned (.plain (OpenSpec.upto dechunkTrailingDataSpec)) dechunkTrailingDataUptoCard
end Rows
end Go.Proofs.YtfchkaoifbcgkaaDoor
