/-
  Contract: directive.
-/
import Derived.Test.YteclclidibmajaaFo11
namespace Go.Proofs.Yteclclidibmajaa
open Go.RowKit Go.BigFrame Go.Maps Go.WideMaps
set_option linter.unusedVariables false
set_option linter.unusedSimpArgs false

/-- A token's cells. -/
def Tok.cs (t : Tok) : List Value := [.int .i64 t.k, .int .i64 t.a, .string (ofL t.s), .string (ofL t.p), .bool t.h]
theorem tok_len (t : Tok) : t.cs.length = 5 := rfl
theorem tok_one (t : Tok) (u : Value) (h : u ∈ t.cs) : u.oneCell' = true := by
  simp only [Tok.cs, List.mem_cons, List.not_mem_nil, or_false] at h
  rcases h with rfl | rfl | rfl | rfl | rfl <;> rfl
theorem wordsB_wd {s x : ByteArray} (h : x ∈ wordsB s) : Wd (toL x) ∧ x.size ≤ s.size := by
  unfold wordsB at h
  obtain ⟨y, hy, rfl⟩ := List.mem_map.1 h
  refine ⟨words_wd hy, ?_⟩
  have h1 := words_len (toL s)
  rw [toL_len] at h1
  have h2 : y.length ≤ (jn (words (toL s))).length := by
    revert hy
    generalize words (toL s) = ws
    intro hy
    clear h1
    induction ws with
    | nil => cases hy
    | cons w ws ihw =>
      rw [jn_cons_len]
      rcases List.mem_cons.1 hy with h6 | h6
      · subst h6; omega
      · have := ihw h6
        rw [if_neg (by intro h7; subst h7; cases h6)]; omega
  have e : (ofL y).size = y.length := rfl
  omega
theorem wordsB_len (s : ByteArray) : (wordsB s).length ≤ s.size := by
  unfold wordsB
  rw [List.length_map]
  have h1 := words_len (toL s)
  rw [toL_len] at h1
  have h2 : ∀ ws : List (List UInt8), (∀ w ∈ ws, Wd w) → ws.length ≤ (jn ws).length := by
    intro ws
    induction ws with
    | nil => simp
    | cons w ws ih =>
      intro h
      have h3 := ih fun x hx => h x (by simp [hx])
      have h4 := List.length_pos_iff.2 (h w (by simp)).1
      rw [jn_cons_len, List.length_cons]
      split
      · rename_i h5; subst h5; simp; omega
      · omega
  have := h2 _ (fun w hw => words_wd hw : ∀ w ∈ words (toL s), Wd w)
  omega
theorem toL_wordsB (s : ByteArray) : (wordsB s).map toL = words (toL s) := by
  unfold wordsB
  rw [List.map_map]
  have : toL ∘ ofL = id := rfl
  rw [this, List.map_id]
/-- What directive gives. -/
def DirPost (s : ByteArray) (w : World) (e : Ending) (w' : World) : Prop :=
  Bel w w' ∧ match dirOf (words (toL s)) with
    | .ok t => e = .returned (.tuple #[.agg #[.int .i64 t.k, .int .i64 0, .string (ofL t.s), .string (ofL t.p), .bool t.h], .int .i64 0])
    | .error c => e = .returned (.tuple #[.agg #[.int .i64 0, .int .i64 0, .string ByteArray.empty, .string ByteArray.empty, .bool false], .int .i64 c]) ∧ (c = 5 ∨ c = 11)
theorem set5 {w : World} {g : Nat} {T : TypeId} {a0 a1 a2 a3 a4 : Value} (h : Blk w g T [a0, a1, a2, a3, a4]) (v0 v1 v2 v3 v4 : Value) :
    Blk (((((w.setCell ⟨g, 0, none⟩ v0).setCell ⟨g, 1, none⟩ v1).setCell ⟨g, 2, none⟩ v2).setCell ⟨g, 3, none⟩ v3).setCell ⟨g, 4, none⟩ v4) g T [v0, v1, v2, v3, v4] :=
  ((((h.set_ 0 v0).set_ 1 v1).set_ 2 v2).set_ 3 v3).set_ 4 v4
theorem only5 (w : World) (g : Nat) (v0 v1 v2 v3 v4 : Value) :
    Only [g] w (((((w.setCell ⟨g, 0, none⟩ v0).setCell ⟨g, 1, none⟩ v1).setCell ⟨g, 2, none⟩ v2).setCell ⟨g, 3, none⟩ v3).setCell ⟨g, 4, none⟩ v4) :=
  (((((Only.refl [g] w).setCell (.inl (by simp)) _).setCell (.inl (by simp)) _).setCell (.inl (by simp)) _).setCell (.inl (by simp)) _).setCell (.inl (by simp)) _
theorem cells5 {w : World} {g : Nat} {T : TypeId} {a0 a1 a2 a3 a4 : Value} (h : Blk w g T [a0, a1, a2, a3, a4]) :
    w.cell? ⟨g, 0, none⟩ = some a0 ∧ w.cell? ⟨g, 1, none⟩ = some a1 ∧ w.cell? ⟨g, 2, none⟩ = some a2 ∧ w.cell? ⟨g, 3, none⟩ = some a3 ∧ w.cell? ⟨g, 4, none⟩ = some a4 := ⟨h.cell 0, h.cell 1, h.cell 2, h.cell 3, h.cell 4⟩
theorem frees5 {w : World} {g : Nat} {T : TypeId} {L : List Value} (h : Blk w g T L) :
    w.frozen? ⟨g, 0, none⟩ = false ∧ w.frozen? ⟨g, 1, none⟩ = false ∧ w.frozen? ⟨g, 2, none⟩ = false ∧ w.frozen? ⟨g, 3, none⟩ = false ∧ w.frozen? ⟨g, 4, none⟩ = false := ⟨h.free 0, h.free 1, h.free 2, h.free 3, h.free 4⟩
theorem one5 (k a : Int) (s p : ByteArray) (h : Bool) : (Value.int .i64 k).oneCell' = true ∧ (Value.int .i64 a).oneCell' = true ∧ (Value.string s).oneCell' = true ∧ (Value.string p).oneCell' = true ∧ (Value.bool h).oneCell' = true := ⟨rfl, rfl, rfl, rfl, rfl⟩
theorem tail_extract (x : ByteArray) : ofL (toL x).tail = x.extract 1 x.size := by
  apply toL_inj
  rw [toL_ofL, toL_extract, List.take_of_length_le (Nat.le_of_eq (toL_len x)), List.drop_one]
theorem tail_path (x : ByteArray) : pathL (toL x).tail = (pathOf (x.extract 1 x.size)).isSome := by
  rw [pathOf_isSome, ← tail_extract, toL_ofL]
/-- The words still to come. -/
theorem drop_word {ws : List ByteArray} {k : Nat} (hk : k < ws.length) : (ws.map toL).drop k = toL (ws.getD k ByteArray.empty) :: (ws.map toL).drop (k + 1) := by
  have h1 : k < (ws.map toL).length := by rw [List.length_map]; exact hk
  rw [List.drop_eq_getElem_cons h1]
  congr 1
  rw [List.getElem_map, List.getD_eq_getElem?_getD, List.getElem?_eq_getElem hk]
  rfl
end Go.Proofs.Yteclclidibmajaa
