/-
  Contracts: the reference of layer 15: raw, where no end string goes on.
-/
import Derived.Test.YtpcapmdfjmpdiaaGreatDoorZHt15
namespace Go.Proofs.YtpcapmdfjmpdiaaGreatDoor
open Go.RowKit Go.BigFrame
set_option linter.unusedVariables false
set_option linter.unusedSimpArgs false
set_option maxRecDepth 100000

theorem run_index_ofL (l : List UInt8) (i : Nat) (d : UInt8) (h : l[i]? = some d) (w : World) : (Instr.index 9 (.string (ofL l)) (.int .i64 (i : Int))).run Tryz.prog w = .ok (.int .u8 d.toNat) w := by
  have hi : i < (ofL l).size := (List.getElem?_eq_some_iff.1 h).1
  have hd : (ofL l)[i]'hi = d := by
    have := (List.getElem?_eq_some_iff.1 h).2
    exact this
  rw [← hd]
  simp [Instr.index, run_underlying Tryz.underlying9, asIntOf, hi, go_sem]
end Go.Proofs.YtpcapmdfjmpdiaaGreatDoor
