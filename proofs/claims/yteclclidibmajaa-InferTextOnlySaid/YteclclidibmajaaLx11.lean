/-
  Contract: Lex.
-/
import Derived.Test.YteclclidibmajaaLe11
namespace Go.Proofs.Yteclclidibmajaa
open Go.RowKit Go.BigFrame Go.Maps Go.WideMaps
set_option linter.unusedVariables false
set_option linter.unusedSimpArgs false
attribute [local go_sem ↓] sliced_cut run_min2 run_max2
attribute [local go_sem] cutA_zero

theorem dir_err {x : ByteArray} {c : Nat} (h : dirOf (words (toL x)) = .error c) {w : World} {e : Ending} {w' : World} (hp : DirPost x w e w') :
    Bel w w' ∧ e = .returned (.tuple #[.agg #[.int .i64 0, .int .i64 0, .string ByteArray.empty, .string ByteArray.empty, .bool false], .int .i64 c]) ∧ (c = 5 ∨ c = 11) := by
  unfold DirPost at hp
  rw [h] at hp
  exact ⟨hp.1, hp.2.1, hp.2.2⟩
theorem dir_ok {x : ByteArray} {t : Tok} (h : dirOf (words (toL x)) = .ok t) {w : World} {e : Ending} {w' : World} (hp : DirPost x w e w') :
    Bel w w' ∧ e = .returned (.tuple #[.agg #[.int .i64 t.k, .int .i64 0, .string (ofL t.s), .string (ofL t.p), .bool t.h], .int .i64 0]) := by
  unfold DirPost at hp
  rw [h] at hp
  exact ⟨hp.1, hp.2⟩
theorem dirOf_err {ws : List (List UInt8)} {c : Nat} (h : dirOf ws = .error c) : c = 5 ∨ c = 11 := by
  unfold dirOf at h
  cases hf : formW ws with
  | none => rw [hf] at h; injection h with h; exact .inl h.symm
  | some r =>
    obtain ⟨k, n, p⟩ := r
    rw [hf] at h
    dsimp only at h
    split at h
    · cases h
    · injection h with h; exact .inr h.symm

/-- The block that is laid behind another. -/
theorem new_at1 (w : World) (o : Obj) (T : TypeId) (L : List Value) : Blk ((w.alloc o).alloc (.cells L.toArray T)) (w.heap.size + 1) T L := by
  have := Blk.new (w.alloc o) T L
  have e : (w.alloc o).heap.size = w.heap.size + 1 := by simp
  rw [e] at this
  exact this

end Go.Proofs.Yteclclidibmajaa
