/-
  From the listed variables of a row to the tables that the walks read.
-/
import Derived.Test.YtbpmhleokmcggaaDoorRows
import Derived.Test.YtbpmhleokmcggaaDoorTab6
import Derived.PinnedBridge
import Derived.Lib.LaidU8T
namespace Go.Proofs.YtbpmhleokmcggaaDoor
open Go.RowKit Go.Lib Go.Shelf
set_option linter.unusedVariables false

/-- The rows' list: the same in each row of the seat. -/
def laidList : List (String × DataW Unit) := Rows.runesDecodeMatchesReferenceRow.laid
def u8ren : Ren := ⟨fun n => n, fun | 5 => 5 | 119 => 54 | 138 => 56 | 139 => 57 | n => n, fun | 3 => 0 | 4 => 1 | n => n⟩
theorem u8types : U8Types Tryd.prog u8ren := ⟨Tryd.underlying5, Tryd.underlying54, Tryd.underlying56, Tryd.underlying57⟩
theorem u8extra : U8Extra Tryd.prog u8ren := ⟨by kernel_rfl, by kernel_rfl, by kernel_rfl, by kernel_rfl, by kernel_rfl, by kernel_rfl, by kernel_rfl⟩
theorem accept_eq : Rows.laid_unicode_utf8_acceptRanges (H := Unit) = acceptData := by kernel_rfl
theorem tabs_of_laid {w : World} (h : laidMet Tryd.prog laidList w) : Tabs w := by
  have h1 := laidMet.reads h (d := Rows.laid_unicode_utf8_first) (.tail _ (.head _))
  have h2 := laidMet.reads h (d := Rows.laid_unicode_utf8_acceptRanges) (.head _)
  have e1 : Rows.laid_unicode_utf8_first = firstData := Pinned.utf8First_eq
  rw [e1] at h1
  rw [accept_eq] at h2
  exact utf8Tabs_of_readsT u8types u8extra h1 h2
end Go.Proofs.YtbpmhleokmcggaaDoor
