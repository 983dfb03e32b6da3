/-
  From the listed variables of a row to the one table that the walks read (internal/strconv.uint64pow10, third of the list).
-/
import Derived.Test.YtmgnomahnndeaaaDoorRows
import Derived.Test.YtmgnomahnndeaaaDoorText9
import Derived.Lib.LaidTab
import Derived.Lib.LaidU8
namespace Go.Proofs.YtmgnomahnndeaaaDoor
open Go.RowKit Go.Lib Go.Shelf
set_option linter.unusedVariables false

/-- The row's list. -/
def laidList : List (String × DataW Unit) := Rows.valueCheckMatchesReferenceRow.laid
/-- What the walks ask of the tables. -/
abbrev Tabs (w : World) : Prop := Pw w
theorem pow_eq : Rows.laid_internal_strconv_uint64pow10 (H := Unit) = tabData .u64 pow10Tab := by kernel_rfl
theorem pow_name : Tryd.prog.globalNamed (laidList.map (·.1))[2]! = some 0 := by kernel_rfl
theorem pow_name2 : (laidList.map (·.1))[2]! = "internal/strconv.uint64pow10" := by kernel_rfl
theorem pow_type : (Tryd.prog.globals[0]?).map (·.type) = some 99 := by kernel_rfl
theorem pow_cells : Tryd.prog.cellsOf 99 = 20 := by kernel_rfl
theorem u64_cells : Tryd.prog.cellsOf 83 = 1 := by kernel_rfl
theorem tabs_of_laid {w : World} (h : laidMet Tryd.prog laidList w) : Tabs w := by
  have h3 := laidMet.reads h (n := (laidList.map (·.1))[2]!) (d := Rows.laid_internal_strconv_uint64pow10) (.tail _ (.tail _ (.head _)))
  rw [pow_eq] at h3
  obtain ⟨g, t, cs, fuel, p, hg, hty, hvar, hd⟩ := h3
  obtain rfl := Option.some.inj (pow_name.symm.trans hg)
  obtain rfl := Option.some.inj (pow_type.symm.trans hty)
  have hcs := cells_of_tab Tryd.underlying99 Tryd.underlying83 u64_cells pow_cells hd
  unfold Tabs Pw TabIs
  rw [← pow_name2, hvar, ← hcs]
end Go.Proofs.YtmgnomahnndeaaaDoor
