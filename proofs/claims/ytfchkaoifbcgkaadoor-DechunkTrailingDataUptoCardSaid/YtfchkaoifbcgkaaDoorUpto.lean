/-
  What the bound of the second form gives: the length of a slice, the bytes of all pieces.
-/
import Derived.Test.YtfchkaoifbcgkaaDoorRows
import Derived.Test.YtfchkaoifbcgkaaDoorPieces
import Derived.JoinedCond
namespace Go.Proofs.YtfchkaoifbcgkaaDoor
open Go.ChangeShapes Go.WideShapes Go.Deep Go.RowKit

theorem bulk_pos {H : Type} (d : DataW H) : 1 ≤ Rows.uptoBulk d := by
  cases d with
  | lit l => cases l <;> simp [Rows.uptoBulk]
  | _ => simp [Rows.uptoBulk]
theorem bulk_part {H : Type} {d : DataW H} {l : List (DataW H)} (h : d ∈ l) : Rows.uptoBulk d ≤ Rows.uptoBulkAll l := by
  induction l with
  | nil => cases h
  | cons x r ih =>
    simp only [Rows.uptoBulkAll]
    rcases List.mem_cons.1 h with rfl | e
    · omega
    · have := ih e; omega
theorem bulk_count {H : Type} (l : List (DataW H)) : l.length ≤ Rows.uptoBulkAll l := by
  induction l with
  | nil => simp [Rows.uptoBulkAll]
  | cons x r ih => have := bulk_pos x; simp only [Rows.uptoBulkAll, List.length_cons]; omega

/-- A slice's reading tells its length. -/
theorem len_of_bulk {H : Type} {enc : TypeId × Value → H} {P : Program} {w : World} {t e : TypeId} (ht : P.underlying t = some (.slice e)) {a : Option Addr} {len cap K : Nat} {d : DataW H} {p : List MemPlace}
    (h : DataW.Trod enc P w 0 (fun _ => true) true t (.slice a len cap) d p) (hk : Rows.uptoBulk d ≤ K) : len ≤ K := by
  obtain ⟨fuel, hf⟩ := h
  rcases DataW.trod_slice ht hf with ⟨hcs, _⟩ | ⟨x, l, c, elems, rest, n, _, hcs, hx, _, _, _, hlen, _⟩
  · simp [Value.cells] at hcs
    omega
  · simp [Value.cells] at hcs
    obtain ⟨_, rfl, _⟩ := hcs
    injection hx with hx _
    subst hx
    have h1 := bulk_count (elems.map (·.1))
    simp only [Rows.uptoBulk, List.length_map] at hk h1
    omega
/-- The pieces' bytes together. -/
theorem PiecesTold.bulk {H : Type} {ps : List PieceV} {d : DataW H} (h : PiecesTold ps d) : (ps.map (·.m)).sum ≤ Rows.uptoBulk d := by
  rcases h with ⟨_, rfl⟩ | ⟨D, sp, rfl, hl, hD⟩
  · simp
  · have key : ∀ (D : List (DataW H)) (ps : List PieceV), D.length = ps.length → (∀ (i : Nat) (p : PieceV), ps[i]? = some p → ∃ di, D[i]? = some di ∧ p.told di) → (ps.map (·.m)).sum ≤ Rows.uptoBulkAll D := by
      intro D
      induction D with
      | nil => intro ps hl _; cases ps with
        | nil => simp
        | cons p ps => simp at hl
      | cons x D ih =>
        intro ps hl hD
        cases ps with
        | nil => simp
        | cons p ps =>
          have h1 := ih ps (by simpa using hl) (fun i q hq => by have := hD (i + 1) q (by simpa using hq); simpa using this)
          obtain ⟨di, hdi, ht⟩ := hD 0 p rfl
          simp only [List.getElem?_cons_zero, Option.some.injEq] at hdi
          subst hdi
          have h2 : p.m ≤ Rows.uptoBulk x := by
            rcases ht with ⟨_, h0⟩ | ⟨es, sp', rfl, h0⟩
            · omega
            · have := bulk_count es
              simp only [Rows.uptoBulk]
              omega
          simp only [Rows.uptoBulkAll, List.map_cons, List.sum_cons]
          omega
    have := key D ps hl hD
    simp only [Rows.uptoBulk]
    omega
end Go.Proofs.YtfchkaoifbcgkaaDoor
