/-
  Contracts: value.Lookup.
-/
import Derived.Test.YtmgnomahnndeaaaDoorFld3
import Derived.Test.YtmgnomahnndeaaaDoorRefSplit2
import Derived.Outline
namespace Go.Proofs.YtmgnomahnndeaaaDoor
open Go.RowKit Go.BigFrame
set_option linter.unusedVariables false
set_option linter.unusedSimpArgs false

theorem split_none {s : ByteArray} {w : World} {e : Ending} {w' : World} (hp : pathOf s = none) (h : SplitPost s w e w') : e = .returned (.tuple #[.slice none 0 0, .int .i64 11]) ∧ Bel w w' := by
  unfold SplitPost at h
  rw [hp] at h
  exact ⟨h.2, h.1⟩
theorem split_some {s : ByteArray} {w : World} {e : Ending} {w' : World} {l : List ByteArray} (hp : pathOf s = some l) (h : SplitPost s w e w') :
    ∃ A c, e = .returned (.tuple #[.slice A l.length c, .int .i64 0]) ∧ Strs w' A l ∧ (∀ a, A = some a → w.heap.size ≤ a.block) ∧ l.length ≤ 8 ∧ (∀ k, k ∈ l → nameB k = true) ∧ Bel w w' := by
  unfold SplitPost at h
  rw [hp] at h
  obtain ⟨hb, A, c, h1, h2, h3, h4, h5⟩ := h
  exact ⟨A, c, h1, h2, h3, h4, h5, hb⟩
/-- A value's cells, as a list. -/
def VT.cs (t : VT) : List Value := [.int .i64 t.k, .string t.s, .int .i64 t.n, .bool t.b, .slice t.A t.xs.length t.c, .slice t.F t.vs.length t.d]
theorem VT.zero_cs : VT.zero.cs = [.int .i64 0, .string ByteArray.empty, .int .i64 0, .bool false, .slice none 0 0, .slice none 0 0] := rfl
theorem cs_cells {w : World} {g : Nat} {t : VT} (h : Blk w g 34 t.cs) : t.Cells w g 0 :=
  ⟨h.cell 0, h.cell 1, h.cell 2, h.cell 3, h.cell 4, h.cell 5⟩
/-- Six cells written. -/
theorem set6 {w : World} {g : Nat} {T : TypeId} {a0 a1 a2 a3 a4 a5 : Value} (h : Blk w g T [a0, a1, a2, a3, a4, a5]) (v0 v1 v2 v3 v4 v5 : Value) :
    Blk ((((((w.setCell ⟨g, 0, none⟩ v0).setCell ⟨g, 1, none⟩ v1).setCell ⟨g, 2, none⟩ v2).setCell ⟨g, 3, none⟩ v3).setCell ⟨g, 4, none⟩ v4).setCell ⟨g, 5, none⟩ v5) g T [v0, v1, v2, v3, v4, v5] :=
  (((((h.set_ 0 v0).set_ 1 v1).set_ 2 v2).set_ 3 v3).set_ 4 v4).set_ 5 v5
theorem only6 (w : World) (g : Nat) (v0 v1 v2 v3 v4 v5 : Value) :
    Only [g] w ((((((w.setCell ⟨g, 0, none⟩ v0).setCell ⟨g, 1, none⟩ v1).setCell ⟨g, 2, none⟩ v2).setCell ⟨g, 3, none⟩ v3).setCell ⟨g, 4, none⟩ v4).setCell ⟨g, 5, none⟩ v5) :=
  ((((((Only.refl [g] w).setCell (.inl (by simp)) _).setCell (.inl (by simp)) _).setCell (.inl (by simp)) _).setCell (.inl (by simp)) _).setCell (.inl (by simp)) _).setCell (.inl (by simp)) _
/-- Two results, the first a value in a block. -/
theorem done2 {f : Func} (hf : f.results = #[.cell 4 34, .tmp 5]) {tmps : Array Value} {g : Nat} {c : Int} {u : VT} {W : World} (hp : tmps.getD 4 undef = .pointer (some ⟨g, 0, none⟩)) (h5 : tmps.getD 5 undef = .int .i64 c)
    (hB : Blk W g 34 u.cs) : (results f tmps).run Tryd.prog W = .ok (.tuple #[u.val, .int .i64 c]) W := by
  have hp' : tmps[4]?.getD undef = .pointer (some ⟨g, 0, none⟩) := by simpa using hp
  have h5' : tmps[5]?.getD undef = .int .i64 c := by simpa using h5
  have hl := run_loadVar_row W g 34 u.cs.toArray (0, 0) _ (P := Tryd.prog) (ty := 34) hB Tryd.underlying34 rfl (by kernel_rfl)
  simp [results, hf, hp', h5', asAddr, hl]
  rfl
end Go.Proofs.YtmgnomahnndeaaaDoor
