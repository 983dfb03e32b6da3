/-
  A slice of booleans that came in.
-/
import Derived.Test.YtbpmhleokmcggaaDoorRows
import Derived.Test.YtbpmhleokmcggaaDoorOpen
namespace Go.Proofs.YtbpmhleokmcggaaDoor
open Go.ChangeShapes Go.WideShapes Go.Deep Go.RowKit Go.ChangeAt
set_option linter.unusedVariables false

def BoolsIn (w : World) (a : Option Addr) (len cap : Nat) (bs : List Bool) : Prop := bs.length = len ∧ len ≤ cap ∧ cap ≤ maxLen ∧ Reads w w.heap.size a len (bs.map Value.bool)
theorem bools_list {w : World} {x : Addr} (len : Nat) (each : ∀ i, i < len → ∃ b, w.cell? (x.add i) = some (.bool b)) : ∃ bs : List Bool, bs.length = len ∧ ∀ i, (h : i < bs.length) → w.cell? (x.add i) = some (.bool bs[i]) := by
  induction len with
  | zero => exact ⟨[], rfl, fun i h => by simp at h⟩
  | succ k ih =>
    obtain ⟨bs, h1, h2⟩ := ih (fun i him => each i (by omega))
    obtain ⟨b, hb⟩ := each k (by omega)
    refine ⟨bs ++ [b], by simp [h1], fun i h => ?_⟩
    by_cases hik : i < bs.length
    · rw [List.getElem_append_left hik]; exact h2 i hik
    · have : i = bs.length := by simp at h; omega
      subst this
      rw [List.getElem_append_right (Nat.le_refl _)]
      simp only [Nat.sub_self, List.getElem_cons_zero]
      rw [h1]
      exact hb
theorem bools_of_trod {H : Type} {enc : TypeId × Value → H} {P : Program} {w : World} {t e : TypeId} (ht : P.underlying t = some (.slice e)) (he : P.underlying e = some .bool) (hC : P.cellsOf e = 1)
    {a : Option Addr} {len cap : Nat} {d : DataW H} {p : List MemPlace} (h : DataW.Trod enc P w 0 (fun _ => true) true t (.slice a len cap) d p) : ∃ bs, BoolsIn w a len cap bs := by
  obtain ⟨fuel, hf⟩ := h
  rcases open_slice ht hf with ⟨h0, _⟩ | ⟨x, l, c, m, n, D, Pl, hcs, hb, hl, hm, hmm, hx, hi⟩
  · simp [Value.cells] at h0
    obtain ⟨rfl, rfl, rfl⟩ := h0
    exact ⟨[], rfl, Nat.le_refl _, Nat.zero_le _, Reads.none_⟩
  · simp [Value.cells] at hcs
    obtain ⟨rfl, rfl, rfl⟩ := hcs
    have each : ∀ i, i < len → ∃ b, w.cell? (x.add i) = some (.bool b) := by
      intro i him
      obtain ⟨cs', hc, ht'⟩ := hi i (by simp at hmm; omega)
      rw [hC] at hc
      rw [Nat.mul_one] at hc
      obtain ⟨b, rfl, _⟩ := DataW.trod_bool he ht'
      exact ⟨b, cell_of_cells?_one hc⟩
    obtain ⟨bs, h1, h2⟩ := bools_list len each
    refine ⟨bs, h1, hl, hm, by simp [h1], fun hp => ⟨x, rfl, ?_, fun j u hu => ?_⟩⟩
    · exact (plain_of_cell (h2 0 (by omega))).2
    · simp only [List.getElem?_map, Option.map_eq_some_iff] at hu
      obtain ⟨z, hz1, rfl⟩ := hu
      obtain ⟨hj, rfl⟩ := List.getElem?_eq_some_iff.1 hz1
      exact h2 j hj
theorem open_T31 {H : Type} {enc : TypeId × Value → H} {w : World} {a : Option Addr} {len cap : Nat} {d : DataW H} {p : List MemPlace} (h : DataW.Trod enc Tryd.prog w 0 (fun _ => true) true 31 (.slice a len cap) d p)
    (hz : ∀ n, n ∈ d.weights Tryd.prog 31 → n ≤ reachBytes) : ∃ bs, BoolsIn w a len cap bs :=
  bools_of_trod Tryd.underlying31 Tryd.underlying4 (by kernel_rfl) h
end Go.Proofs.YtbpmhleokmcggaaDoor
