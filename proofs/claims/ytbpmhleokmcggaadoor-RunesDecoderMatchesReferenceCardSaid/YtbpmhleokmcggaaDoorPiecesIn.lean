/-
  The slice of slices of bytes that came in, within the form's reach; the sum of the pieces' lengths.
-/
import Derived.Test.YtbpmhleokmcggaaDoorRows
import Derived.Test.YtbpmhleokmcggaaDoorPieces
namespace Go.Proofs.YtbpmhleokmcggaaDoor
open Go.ChangeShapes Go.WideShapes Go.Deep Go.RowKit
set_option linter.unusedVariables false

def total (ps : List PieceV) : Nat := (ps.map (·.m)).sum
theorem total_take {ps : List PieceV} {k : Nat} {p : PieceV} (h : ps[k]? = some p) : total (ps.take (k + 1)) = total (ps.take k) + p.m := by
  unfold total
  rw [List.take_add_one, h]
  simp
theorem total_take_le (ps : List PieceV) (k K : Nat) (h : ∀ p, p ∈ ps → p.m ≤ K) : total (ps.take k) ≤ k * K := by
  induction k with
  | zero => simp [total]
  | succ k ih =>
    by_cases hk : k < ps.length
    · have := h _ (List.getElem_mem hk)
      rw [total_take (List.getElem?_eq_getElem hk), Nat.succ_mul]
      omega
    · rw [List.take_of_length_le (by omega)]
      rw [List.take_of_length_le (by omega)] at ih
      exact Nat.le_trans ih (Nat.mul_le_mul_right _ (Nat.le_succ k))
theorem total_take_all (ps : List PieceV) (k : Nat) : total (ps.take k) ≤ total ps := by
  induction ps generalizing k with
  | nil => simp [total]
  | cons p ps ih =>
    cases k with
    | zero => simp [total]
    | succ k =>
      have := ih k
      simp only [List.take_succ_cons, total, List.map_cons, List.sum_cons] at this ⊢
      omega


def PiecesIn (w : World) (a : Option Addr) (len cap : Nat) (ps : List PieceV) : Prop := PiecesAt w w.heap.size a len ps ∧ len ≤ cap ∧ cap ≤ maxLen ∧ ∀ p, p ∈ ps → p.m ≤ reachBytes
theorem open_T30 {H : Type} {enc : TypeId × Value → H} {w : World} {a : Option Addr} {len cap : Nat} {d : DataW H} {p : List MemPlace} (h : DataW.Trod enc Tryd.prog w 0 (fun _ => true) true 30 (.slice a len cap) d p)
    (hz : ∀ n, n ∈ d.weights Tryd.prog 30 → n ≤ reachBytes) : ∃ ps, PiecesIn w a len cap ps := by
  obtain ⟨h1, h2, ps, h3, h4⟩ := pieces_of_trod Tryd.underlying30 Tryd.underlying34 (by kernel_rfl) Tryd.underlying5 (by kernel_rfl) h
  exact ⟨ps, h3, h1, h2, h4.reach Tryd.underlying30 Tryd.underlying34 (by kernel_rfl) hz⟩
theorem PiecesIn.sum {w : World} {a : Option Addr} {len cap : Nat} {ps : List PieceV} (h : PiecesIn w a len cap ps) : len ≤ 300 → total ps ≤ 9223372036854775807 := by
  intro hl
  have h1 := total_take_le ps len _ h.2.2.2
  rw [List.take_of_length_le (by rw [h.1.1]; omega)] at h1
  unfold reachBytes at h1
  omega
theorem total_mem {ps : List PieceV} {p : PieceV} (h : p ∈ ps) : p.m ≤ total ps := by
  induction ps with
  | nil => cases h
  | cons q ps ih =>
    simp only [total, List.map_cons, List.sum_cons]
    rcases List.mem_cons.1 h with rfl | h
    · omega
    · have := ih h
      simp only [total] at this
      omega

end Go.Proofs.YtbpmhleokmcggaaDoor
