/-
  Contracts: value.Split.
-/
import Derived.Test.YteclclidibmajaaName
import Derived.Test.YteclclidibmajaaParts
import Derived.Deep.QuietTactic
import Derived.BigQuiet
namespace Go.Proofs.Yteclclidibmajaa
open Go.RowKit Go.BigFrame
set_option linter.unusedVariables false
set_option linter.unusedSimpArgs false

/-! ### Memory that only grows -/
/-- Nothing that was there has turned. -/
def Bel (w w' : World) : Prop := Below w.heap.size w w'
theorem Bel.refl (w : World) : Bel w w := Below.refl _ _
theorem Bel.trans {w w1 w2 : World} (h1 : Bel w w1) (h2 : Bel w1 w2) : Bel w w2 := Below.trans h1 (Below.mono h2 (Below.size h1))
theorem Bel.size {w w' : World} (h : Bel w w') : w.heap.size ≤ w'.heap.size := Below.size h
theorem Bel.alloc (w : World) (o : Obj) : Bel w (w.alloc o) := (Below.refl _ _).alloc (Nat.le_refl _) _
theorem Bel.cell {w w' : World} (h : Bel w w') {b o : Nat} (hb : b < w.heap.size) : w'.cell? ⟨b, o, none⟩ = w.cell? ⟨b, o, none⟩ := Below.cell (p := ⟨b, o, none⟩) h hb
theorem Bel.draw (w : World) (n : Nat) : Bel w (w.drewN n) := by
  induction n with
  | zero => exact Below.refl _ _
  | succ n ih => exact ih.drew
theorem VT.In.bel {w w' : World} {t : VT} (h : t.In w (· < w.heap.size)) (hb : Bel w w') : t.In w' (· < w'.heap.size) :=
  h.same (fun g hg => Nat.lt_of_lt_of_le hg hb.size) fun g p hg => hb.cell hg
/-- The length at which Go's library goes over to another search: some number. -/
def MX (w : World) : Prop := 0 < w.heap.size ∧ ∃ m, w.cell? ⟨0, 0, none⟩ = some (.int .i64 m)
theorem MX.bel {w w' : World} (h : MX w) (hb : Bel w w') : MX w' := by
  obtain ⟨h1, m, h2⟩ := h
  exact ⟨Nat.lt_of_lt_of_le h1 hb.size, m, (hb.cell h1).trans h2⟩

/-- The strings l lie behind the address A, below block B. -/
def Strs (w : World) (A : Option Addr) (l : List ByteArray) : Prop :=
  l = [] ∨ ∃ g o, A = some ⟨g, o, none⟩ ∧ g < w.heap.size ∧ ∀ i, i < l.length → w.cell? ⟨g, o + i, none⟩ = some (.string (l.getD i ByteArray.empty))
theorem Strs.bel {w w' : World} {A : Option Addr} {l : List ByteArray} (h : Strs w A l) (hb : Bel w w') : Strs w' A l := by
  rcases h with h | ⟨g, o, h1, h2, h3⟩
  · exact .inl h
  · exact .inr ⟨g, o, h1, Nat.lt_of_lt_of_le h2 hb.size, fun i hi => (hb.cell h2).trans (h3 i hi)⟩
end Go.Proofs.Yteclclidibmajaa
