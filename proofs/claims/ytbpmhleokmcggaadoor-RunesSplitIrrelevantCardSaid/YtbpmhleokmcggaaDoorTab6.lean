/-
  The tables of unicode/utf8 that are read; contract of utf8.FullRuneInString.
-/
import Derived.Test.YtbpmhleokmcggaaDoorText
import Derived.Test.YtbpmhleokmcggaaDoorUni
import Derived.Shelf.Unicode.DecodeSlow
import Derived.Laws.RangeAny
import Derived.RegionTactic
import Derived.ChangeAlike
import Derived.Deep.QuietTactic
import Derived.BigQuiet
namespace Go.Proofs.YtbpmhleokmcggaaDoor
open Go.RowKit Go.BigFrame
set_option linter.unusedVariables false
set_option linter.unusedSimpArgs false

/-- The tables of Go's library that are read. -/
def Tabs (w : World) : Prop := Lib.Utf8Tabs 0 1 w
theorem Tabs.lt {w : World} (h : Tabs w) : 0 < w.heap.size ∧ 1 < w.heap.size :=
  ⟨cell_lt (h.1 0 (by omega)), cell_lt (h.2 0 (by omega)).1⟩
theorem Tabs.only' {S : List Nat} {w w' : World} (h : Tabs w) (ho : Only S w w') (hS : ∀ k, k ∈ S → k ≠ 0 ∧ k ≠ 1) : Tabs w' :=
  ⟨fun c hc => cell_only (h.1 c hc) ho (fun hk => (hS _ hk).1 rfl), fun i hi => ⟨cell_only (h.2 i hi).1 ho (fun hk => (hS _ hk).2 rfl), cell_only (h.2 i hi).2 ho (fun hk => (hS _ hk).2 rfl)⟩⟩
theorem Tabs.only {w w' : World} (h : Tabs w) (ho : Only [] w w') : Tabs w' := h.only' ho (by simp)
/-- Turned blocks that came later leave the tables. -/
theorem Tabs.later {S : List Nat} {w0 w w' : World} (h : Tabs w) (ho : Only S w w') (h0 : Tabs w0) (hS : ∀ k, k ∈ S → w0.heap.size ≤ k) : Tabs w' :=
  h.only' ho fun k hk => by have := h0.lt; have := hS k hk; omega
theorem Tabs.below {w w' : World} {B : Nat} (h : Tabs w) (hb : Below B w w') (hB : w.heap.size ≤ B) : Tabs w' := h.only (show Only [] w w' from ⟨hb.os, hb.tape, hb.output, hb.size, fun k hk _ => hb.block k (Nat.lt_of_lt_of_le hk hB)⟩)

/-! ### strings and their lists -/
theorem sl_size (s : ByteArray) : s.data.toList.length = s.size := rfl
theorem sl_mk (l : List UInt8) : (⟨l.toArray⟩ : ByteArray).data.toList = l := rfl
theorem sl_from (s : ByteArray) (i : Nat) : (s.extract i s.size).data.toList = s.data.toList.drop i := by
  rw [ByteArray.data_extract, Array.toList_extract, List.extract_eq_take_drop]
  rw [List.take_of_length_le]
  simp [List.length_drop]
theorem sl_to (s : ByteArray) (i : Nat) : (s.extract 0 i).data.toList = s.data.toList.take i := by
  rw [ByteArray.data_extract, Array.toList_extract, List.extract_eq_take_drop]
  simp
theorem sl_add (a b : ByteArray) : (a ++ b).data.toList = a.data.toList ++ b.data.toList := by
  rw [ByteArray.data_append, Array.toList_append]
theorem sl_ne {s : ByteArray} (h : s.size ≠ 0) : s.data.toList ≠ [] := fun e => h (by rw [← sl_size, e]; rfl)
theorem sl_nil {s : ByteArray} (h : s.size = 0) : s.data.toList = [] := List.eq_nil_of_length_eq_zero h
theorem sl_at (s : ByteArray) (i : Nat) (h : i < s.size) : (s[i]'h).toNat = bt s.data.toList i := by
  rw [← get_bt, ← get_at s i h, Nat.add_zero]
theorem sl_inj {a b : ByteArray} (h : a.data.toList = b.data.toList) : a = b := by
  apply ByteArray.ext
  exact Array.ext' h
theorem fst_str {s : ByteArray} (h : s.size ≠ 0) : fst s.data.toList = firstN s.size (bt s.data.toList 0) (bt s.data.toList 1) (bt s.data.toList 2) (bt s.data.toList 3) := by
  unfold fst
  rw [if_neg (sl_ne h)]
  rfl

/-! ### utf8.FullRuneInString -/
/-- Whether the string begins with a whole rune (or with a byte that begins none). -/
def fullL (l : List UInt8) : Bool := if l = [] then false else !(fst l).2
theorem first_class {b : Nat} (hb : b < 256) :
    (Lib.firstT b = 240 ∧ b < 128) ∨ (Lib.firstT b = 241 ∧ 128 ≤ b ∧ szT b = 0) ∨
    (∃ i, i < 16 ∧ Lib.firstT b = 16 * i + szT b ∧ 2 ≤ szT b ∧ szT b ≤ 4 ∧ Lib.accLo i = loT b ∧ Lib.accHi i = hiT b ∧ 128 ≤ b) := by
  by_cases h1 : b < 128
  · left; exact ⟨by simp [Lib.firstT, h1], h1⟩
  by_cases h2 : b < 194 ∨ 244 < b
  · right; left
    refine ⟨?_, by omega, szT0 h2⟩
    unfold Lib.firstT
    repeat' split
    all_goals first | rfl | (exfalso; omega)
  right; right
  by_cases h3 : b < 224
  · exact ⟨0, by omega, by rw [szT2 (by omega)]; unfold Lib.firstT; rw [if_neg (by omega), if_neg (by omega), if_pos (by omega)], by rw [szT2 (by omega)]; omega, by rw [szT2 (by omega)]; omega, by rw [loT1 (by omega) (by omega)]; rfl, by rw [hiT1 (by omega) (by omega)]; rfl, by omega⟩
  by_cases h4 : b < 240
  · have hs := szT3 (b := b) (by omega)
    by_cases h5 : b = 224
    · subst h5; exact ⟨1, by omega, rfl, by decide, by decide, rfl, rfl, by omega⟩
    by_cases h6 : b = 237
    · subst h6; exact ⟨2, by omega, rfl, by decide, by decide, rfl, rfl, by omega⟩
    exact ⟨0, by omega, by rw [hs]; unfold Lib.firstT; repeat' split
                           all_goals first | rfl | (exfalso; omega), by omega, by omega, by rw [loT1 h5 (by omega)]; rfl, by rw [hiT1 h6 (by omega)]; rfl, by omega⟩
  have hs := szT4 (b := b) (by omega)
  by_cases h5 : b = 240
  · subst h5; exact ⟨3, by omega, rfl, by decide, by decide, rfl, rfl, by omega⟩
  by_cases h6 : b = 244
  · subst h6; exact ⟨4, by omega, rfl, by decide, by decide, rfl, rfl, by omega⟩
  exact ⟨0, by omega, by rw [hs]; unfold Lib.firstT; repeat' split
                         all_goals first | rfl | (exfalso; omega), by omega, by omega, by rw [loT1 (by omega) h5]; rfl, by rw [hiT1 (by omega) h6]; rfl, by omega⟩
theorem firstC_done {n b1 b2 b3 z lo hi : Nat} (hn : z ≤ n) (k2 : 2 ≤ z) (k4 : z ≤ 4) : (firstC n b1 b2 b3 z lo hi).2 = false := by
  unfold firstC
  repeat' split
  all_goals first | rfl | (exfalso; omega)
theorem and7 : ∀ b : Fin 256, bits .and .u8 ((b.val : Nat) : Int) 7 = ((b.val % 8 : Nat) : Int) := by decide +kernel
end Go.Proofs.YtbpmhleokmcggaaDoor
