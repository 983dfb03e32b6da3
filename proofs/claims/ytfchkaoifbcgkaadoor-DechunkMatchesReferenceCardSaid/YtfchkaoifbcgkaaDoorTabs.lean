/-
  From the listed variables of a row to the tables that the walks read.
-/
import Derived.Test.YtfchkaoifbcgkaaDoorRows
import Derived.Test.YtfchkaoifbcgkaaDoorUtf8
import Derived.PinnedBridge
import Derived.Lib.LaidU8T
namespace Go.Proofs.YtfchkaoifbcgkaaDoor
open Go.RowKit Go.Lib Go.Shelf
set_option linter.unusedVariables false

/-- The rows' list: the same in each row of the seat. -/
def laidList : List (String × DataW Unit) := Rows.dechunkMatchesReferenceRow.laid
def u8ren : Ren := ⟨fun n => n, fun | 5 => 5 | 119 => 107 | 138 => 109 | 139 => 110 | n => n, fun | 3 => 2 | 4 => 3 | n => n⟩
theorem u8types : U8Types Tryd.prog u8ren := ⟨Tryd.underlying5, Tryd.underlying107, Tryd.underlying109, Tryd.underlying110⟩
theorem u8extra : U8Extra Tryd.prog u8ren := ⟨by kernel_rfl, by kernel_rfl, by kernel_rfl, by kernel_rfl, by kernel_rfl, by kernel_rfl, by kernel_rfl⟩
theorem accept_eq : Rows.laid_unicode_utf8_acceptRanges (H := Unit) = acceptData := by kernel_rfl
theorem bruijn_eq : Rows.laid_math_bits_deBruijn64tab (H := Unit) = tabData .u8 (List.map (fun (n : Nat) => (n : Int)) deBruijn64tab) := by kernel_rfl
theorem bruijn_name : Tryd.prog.globalNamed (laidList.map (·.1))[1]! = some 5 := by kernel_rfl
theorem bruijn_type : (Tryd.prog.globals[5]?).map (·.type) = some 112 := by kernel_rfl
theorem bruijn_cells : Tryd.prog.cellsOf 112 = 64 := by kernel_rfl
theorem u8_cells : Tryd.prog.cellsOf 5 = 1 := by kernel_rfl
theorem tabs_of_laid {w : World} (h : laidMet Tryd.prog laidList w) : Tabs w := by
  have h1 := laidMet.reads h (d := Rows.laid_unicode_utf8_first) (.tail _ (.tail _ (.tail _ (.tail _ (.head _)))))
  have h2 := laidMet.reads h (d := Rows.laid_unicode_utf8_acceptRanges) (.tail _ (.tail _ (.tail _ (.head _))))
  have h3 := laidMet.reads h (n := (laidList.map (·.1))[1]!) (d := Rows.laid_math_bits_deBruijn64tab) (.tail _ (.head _))
  have e1 : Rows.laid_unicode_utf8_first = firstData := Pinned.utf8First_eq
  rw [e1] at h1
  rw [accept_eq] at h2
  rw [bruijn_eq] at h3
  refine ⟨utf8Tabs_of_readsT u8types u8extra h1 h2, fun j hj => ?_⟩
  obtain ⟨g, t, cs, fuel, p, hg, hty, hvar, hd⟩ := h3
  obtain rfl := Option.some.inj (bruijn_name.symm.trans hg)
  obtain rfl := Option.some.inj (bruijn_type.symm.trans hty)
  have hcs := cells_of_tab Tryd.underlying112 Tryd.underlying5 u8_cells bruijn_cells hd
  rw [World.var?_cell hg hvar j, ← Array.getElem?_toList, hcs]
  simp [hj]
end Go.Proofs.YtfchkaoifbcgkaaDoor
