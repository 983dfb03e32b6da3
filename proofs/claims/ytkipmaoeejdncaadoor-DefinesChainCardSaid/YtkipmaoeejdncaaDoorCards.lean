/-
  DERIVED. GIVEN WITH THE SEED: THE CARDS: each row of YtkipmaoeejdncaaDoorRows.lean that lists a variable, with what it lists TIED to the program's text (the seventh form; the later family's looks); each row that meets fmt, with fmt's text TOLD by the authors' own Lean function (tested against real Go, not proved from fmt's source: count such statements apart). THE CARD IS WHAT COUNTS. Prove the row's statement (the work); the ties are given (YtkipmaoeejdncaaDoorTie.lean); close each card by the builder's one call (the guide's Derived/Test/ToyasCard.lean, 'card_holds'). Laid BY PROGRAM, IN A SANDBOX (cutbox-door.mjs). By AI agents, Wed Nov 11 2026. No macro, syntax, notation, axiom, sorry.
-/
import Derived.Test.YtkipmaoeejdncaaDoorRows
import GoSem.ClaimSeven
namespace Go.Proofs.YtkipmaoeejdncaaDoor
namespace Rows

/-- THE TIED CARD OF 'tmplpipelaw14.DefinesLimits'. -/
def definesLimitsCard : Claim7 := { stood := { row := definesLimitsRow, standIns := [], harness := (true, "31aecca1fb26f9fa0add2bea1572acbffc21bbb529b67ce1af004792f9adfce0"), looks := false }, kinds := [], alts := [], laidByText := true, laidKinds := [.data, .data, .data], laidTests := true, laidLooks := .later }
def DefinesLimitsCardSaid : Prop := Claim7.holds Tryd.pinned (.plain (OpenSpec.ofChange definesLimitsSpec)) definesLimitsCard

/-- THE TIED CARD OF 'tmplpipelaw14.DefinesChain'. -/
def definesChainCard : Claim7 := { stood := { row := definesChainRow, standIns := [], harness := (true, "31aecca1fb26f9fa0add2bea1572acbffc21bbb529b67ce1af004792f9adfce0"), looks := false }, kinds := [], alts := [], laidByText := true, laidKinds := [.data, .data, .data], laidTests := true, laidLooks := .later }
def DefinesChainCardSaid : Prop := Claim7.holds Tryd.pinned (.plain (OpenSpec.ofChange definesChainSpec)) definesChainCard

/-- THE SECOND FORM's CARD OF 'tmplpipelaw14.DefinesLimits'. -/
def definesLimitsUptoCard : Claim7 := { stood := { row := definesLimitsUptoRow, standIns := [], harness := (true, "31aecca1fb26f9fa0add2bea1572acbffc21bbb529b67ce1af004792f9adfce0"), looks := false }, kinds := [], alts := [], laidByText := true, laidKinds := [.data, .data, .data], laidTests := true, laidLooks := .later }
def DefinesLimitsUptoCardSaid : Prop := Claim7.holds Tryd.pinned (.plain (OpenSpec.upto definesLimitsSpec)) definesLimitsUptoCard

/-- THE SECOND FORM's CARD OF 'tmplpipelaw14.DefinesChain'. -/
def definesChainUptoCard : Claim7 := { stood := { row := definesChainUptoRow, standIns := [], harness := (true, "31aecca1fb26f9fa0add2bea1572acbffc21bbb529b67ce1af004792f9adfce0"), looks := false }, kinds := [], alts := [], laidByText := true, laidKinds := [.data, .data, .data], laidTests := true, laidLooks := .later }
def DefinesChainUptoCardSaid : Prop := Claim7.holds Tryd.pinned (.plain (OpenSpec.upto definesChainSpec)) definesChainUptoCard
end Rows
end Go.Proofs.YtkipmaoeejdncaaDoor
