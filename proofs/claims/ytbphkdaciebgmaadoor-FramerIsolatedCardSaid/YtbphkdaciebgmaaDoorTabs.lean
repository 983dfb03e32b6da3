/-
  From the listed variables of a row to the one table that the walks read (math/bits.deBruijn64tab, second of the list).
-/
import Derived.Test.YtbphkdaciebgmaaDoorRows
import Derived.Test.YtbphkdaciebgmaaDoorTz
import Derived.Lib.LaidTab
import Derived.Lib.LaidU8
namespace Go.Proofs.YtbphkdaciebgmaaDoor
open Go.RowKit Go.Lib Go.Shelf
set_option linter.unusedVariables false

/-- The rows' list: the same in each row of the seat. -/
def laidList : List (String × DataW Unit) := Rows.framerMatchesReferenceRow.laid
/-- What the walks ask of the tables. -/
abbrev Tabs (w : World) : Prop := Tz w
theorem bruijn_eq : Rows.laid_math_bits_deBruijn64tab (H := Unit) = tabData .u8 (List.map (fun (n : Nat) => (n : Int)) deBruijn64tab) := by kernel_rfl
theorem bruijn_name : Tryd.prog.globalNamed (laidList.map (·.1))[1]! = some 2 := by kernel_rfl
theorem bruijn_type : (Tryd.prog.globals[2]?).map (·.type) = some 80 := by kernel_rfl
theorem bruijn_cells : Tryd.prog.cellsOf 80 = 64 := by kernel_rfl
theorem u8_cells : Tryd.prog.cellsOf 5 = 1 := by kernel_rfl
theorem tabs_of_laid {w : World} (h : laidMet Tryd.prog laidList w) : Tabs w := by
  have h3 := laidMet.reads h (n := (laidList.map (·.1))[1]!) (d := Rows.laid_math_bits_deBruijn64tab) (.tail _ (.head _))
  rw [bruijn_eq] at h3
  refine fun j hj => ?_
  obtain ⟨g, t, cs, fuel, p, hg, hty, hvar, hd⟩ := h3
  obtain rfl := Option.some.inj (bruijn_name.symm.trans hg)
  obtain rfl := Option.some.inj (bruijn_type.symm.trans hty)
  have hcs := cells_of_tab Tryd.underlying80 Tryd.underlying5 u8_cells bruijn_cells hd
  rw [World.var?_cell hg hvar j, ← Array.getElem?_toList, hcs]
  simp [hj]
end Go.Proofs.YtbphkdaciebgmaaDoor
