/-
  Strings and slices of bytes of a program: plain facts, no contract.
-/
import Derived.Test.YtbpmhleokmcggaaDoorRows
import Derived.Test.YtbpmhleokmcggaaDoorCuts
import Derived.Lib.ConvBytes
import Derived.Lib.AppendStr
import Derived.Laws.Runes
import Derived.RegionTactic
import Derived.ChangeAlike
import Derived.Deep.QuietTactic
import Derived.BigQuiet
namespace Go.Proofs.YtbpmhleokmcggaaDoor
open Go.RowKit Go.BigFrame
set_option linter.unusedVariables false
set_option linter.unusedSimpArgs false
attribute [local go_sem ↓] sliced_cut run_min2 run_max2
attribute [local go_sem] cutA_zero

/-! ### bytes.Equal, bytes.HasPrefix -/
theorem str_eq (a b : List UInt8) : ((⟨a.toArray⟩ : ByteArray) = ⟨b.toArray⟩) ↔ a = b := by
  constructor
  · intro h
    injection h with h
    exact congrArg Array.toList h
  · rintro rfl; rfl
theorem run_index_str (s : ByteArray) (i : Nat) (hi : i < s.size) (w : World) : (Instr.index 9 (.string s) (.int .i64 (i : Int))).run Tryd.prog w = .ok (.int .u8 ((s[i]'hi).toNat)) w := by
  simp [Instr.index, run_underlying Tryd.underlying9, asIntOf, hi, go_sem]
theorem run_index_u64 (s : ByteArray) (i : Nat) (hi : i < s.size) (w : World) : (Instr.index 9 (.string s) (.int .u64 (i : Int))).run Tryd.prog w = .ok (.int .u8 ((s[i]'hi).toNat)) w := by
  simp [Instr.index, run_underlying Tryd.underlying9, asIntOf, hi, go_sem]
theorem one_string (W : World) (d : UInt8) : (convert 34 9 (.slice (some ⟨W.heap.size, 0, none⟩) 1 1)).run Tryd.prog (W.alloc (.cells #[.int .u8 (d.toNat : Int)] 5)) = .ok (.string ⟨#[d]⟩) (W.alloc (.cells #[.int .u8 (d.toNat : Int)] 5)) :=
  run_string_of (l := [d]) Tryd.underlying34 Tryd.underlying5 Tryd.underlying9 (Reads.of_blk (Blk.new W 5 (vbs [d])) 0 1 (by simp [vbs]) (Nat.lt_succ_self _)) 1
theorem str_cons (d : UInt8) (l : List UInt8) : (⟨#[d]⟩ : ByteArray) ++ ⟨l.toArray⟩ = ⟨(d :: l).toArray⟩ := by
  apply ByteArray.ext
  rw [ByteArray.data_append]
  apply Array.ext'
  simp
theorem str_append (a b : List UInt8) : (⟨a.toArray⟩ : ByteArray) ++ ⟨b.toArray⟩ = ⟨(a ++ b).toArray⟩ := by
  apply ByteArray.ext
  rw [ByteArray.data_append]
  apply Array.ext'
  simp
theorem info_byte : (Tryd.prog.info? 5).map (fun i => (i.zero, i.size, i.bytes)) = some (some (.int .u8 0), 1, 1) := by kernel_rfl
/-! ### Format -/
/-- A slice of the call's own that reads as a list of bytes. -/
def Own (w : World) (A : Option Addr) (n c : Nat) (l : List UInt8) : Prop := l.length = n ∧ n ≤ c ∧ c ≤ maxLen ∧ Reads w w.heap.size A n (vbs l)
/-! ### Format -/
theorem to_bytes (w : World) (l : List UInt8) (hl : l.length ≤ 140737488355328) :
    ∃ A c w', (convert 9 34 (.string ⟨l.toArray⟩)).run Tryd.prog w = .ok (.slice A l.length c) w' ∧ Own w' A l.length c l ∧ Only [] w w' := by
  have hsz : (⟨l.toArray⟩ : ByteArray).size = l.length := rfl
  refine ⟨_, _, _, Lib.run_convert_string_bytes w 9 34 5 ⟨l.toArray⟩ Tryd.underlying9 Tryd.underlying34 Tryd.underlying5, ⟨rfl, ?_, ?_, ?_⟩, ⟨rfl, rfl, rfl, ?_, fun k hk _ => Lib.bytesWorld_at_old _ _ _ _ hk⟩⟩
  · exact grownCap_ge w _ 0 _
  · exact grownCap_le_maxLen w _ 0 _ (by rw [hsz]; unfold maxLen; omega)
  · refine ⟨vbs_length l, fun _ => ⟨_, rfl, by rw [Lib.bytesWorld_size]; exact Nat.lt_succ_self _, fun j u hu => ?_⟩⟩
    rw [vbs_getElem?] at hu
    have hj : j < l.length := by
      rcases Nat.lt_or_ge j l.length with h | h
      · exact h
      · rw [List.getElem?_eq_none h] at hu; cases hu
    rw [add_at, Nat.zero_add, Lib.bytesWorld_cell _ _ _ _ hj, ← hu, List.getElem?_eq_getElem hj]
    simp [vb, List.getD, hj]
  · rw [Lib.bytesWorld_size]; exact Nat.le_succ _
theorem only_nil_below {w w' : World} (h : Only [] w w') : Below w.heap.size w w' := h.to_below (Nat.le_refl _) (by simp)
/-- 'string(b)' in any later world. -/
theorem own_str {w : World} {A : Option Addr} {n c : Nat} {l : List UInt8} (h : Own w A n c l) : ∀ w', Only [] w w' → (convert 34 9 (.slice A n c)).run Tryd.prog w' = .ok (.string ⟨l.toArray⟩) w' :=
  fun w' ho => run_string_of Tryd.underlying34 Tryd.underlying5 Tryd.underlying9 (h.2.2.2.only' ho (Nat.le_refl _) (by simp)) c
theorem own_cut {w : World} {A : Option Addr} {n c : Nat} {l : List UInt8} (h : Own w A n c l) (k : Nat) (hk : k ≤ n) : ∀ w', Only [] w w' → (convert 34 9 (.slice A k c)).run Tryd.prog w' = .ok (.string ⟨(l.take k).toArray⟩) w' :=
  fun w' ho => run_string_of Tryd.underlying34 Tryd.underlying5 Tryd.underlying9 (by
    have := (h.2.2.2.only' ho (Nat.le_refl _) (by simp)).cut_ (k := 0) (m := k) (Nat.zero_le _) hk h.2.1
    rw [cutA_zero] at this
    simpa [vbs_take] using this) c
theorem cell_only {S : List Nat} {w w' : World} {a : Addr} {v : Value} (h : w.cell? a = some v) (ho : Only S w w') (hS : a.block ∉ S) : w'.cell? a = some v := by
  have hb : a.block < w.heap.size := by
    have : (w.cell? a).isSome := by rw [h]; rfl
    simp only [World.cell?] at this
    split at this
    · rename_i hh; exact (Array.getElem?_eq_some_iff.1 hh).1
    · simp at this
  exact (World.cell?_of_block (ho.block _ hb hS)).trans h
theorem cell_lt {w : World} {a : Addr} {v : Value} (h : w.cell? a = some v) : a.block < w.heap.size := by
  have : (w.cell? a).isSome := by rw [h]; rfl
  simp only [World.cell?] at this
  split at this
  · rename_i hh; exact (Array.getElem?_eq_some_iff.1 hh).1
  · simp at this
def hexS : ByteArray := ⟨#[48, 49, 50, 51, 52, 53, 54, 55, 56, 57, 97, 98, 99, 100, 101, 102]⟩
end Go.Proofs.YtbpmhleokmcggaaDoor
