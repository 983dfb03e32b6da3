/-
  The rows of this seat list tables that the walks do not read (Itoa of numbers below 100).
-/
import Derived.Test.YtkipmaoeejdncaaDoorRows
import Derived.Test.YtkipmaoeejdncaaDoorBase
import Derived.Lib.LaidTab
namespace Go.Proofs.YtkipmaoeejdncaaDoor
open Go.RowKit
set_option linter.unusedVariables false

/-- The rows' list: the same in each row of the seat. -/
def laidList : List (String × DataW Unit) := Rows.definesLimitsRow.laid
def Tabs (w : World) : Prop := True
theorem tabs_of_laid {w : World} (h : laidMet Tryd.prog laidList w) : Tabs w := trivial
end Go.Proofs.YtkipmaoeejdncaaDoor
