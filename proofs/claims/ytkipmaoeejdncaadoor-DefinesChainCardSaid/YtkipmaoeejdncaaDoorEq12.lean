/-
  Contract: the reference's Equal of nodes.
-/
import Derived.Test.YtkipmaoeejdncaaDoorNm
namespace Go.Proofs.YtkipmaoeejdncaaDoor
open Go.RowKit Go.BigFrame NT
set_option linter.unusedVariables false
set_option linter.unusedSimpArgs false

end Go.Proofs.YtkipmaoeejdncaaDoor
