/-
  Contracts: value.Split.
-/
import Derived.Test.YtmgnomahnndeaaaDoorName
import Derived.Test.YtmgnomahnndeaaaDoorParts
import Derived.Test.YtmgnomahnndeaaaDoorShelf
import Derived.Shelf.Slices.Empties2
import Derived.Deep.QuietTactic
import Derived.BigQuiet
namespace Go.Proofs.YtmgnomahnndeaaaDoor
open Go.RowKit Go.BigFrame
set_option linter.unusedVariables false
set_option linter.unusedSimpArgs false

/-! ### Memory that only grows -/
/-- Nothing that was there has turned. -/
def Bel (w w' : World) : Prop := Below w.heap.size w w'
theorem Bel.refl (w : World) : Bel w w := Below.refl _ _
theorem Bel.trans {w w1 w2 : World} (h1 : Bel w w1) (h2 : Bel w1 w2) : Bel w w2 := Below.trans h1 (Below.mono h2 (Below.size h1))
theorem Bel.size {w w' : World} (h : Bel w w') : w.heap.size ≤ w'.heap.size := Below.size h
theorem Bel.alloc (w : World) (o : Obj) : Bel w (w.alloc o) := (Below.refl _ _).alloc (Nat.le_refl _) _
theorem Bel.cell {w w' : World} (h : Bel w w') {b o : Nat} (hb : b < w.heap.size) : w'.cell? ⟨b, o, none⟩ = w.cell? ⟨b, o, none⟩ := Below.cell (p := ⟨b, o, none⟩) h hb
theorem Bel.draw (w : World) (n : Nat) : Bel w (w.drewN n) := by
  induction n with
  | zero => exact Below.refl _ _
  | succ n ih => exact ih.drew
theorem VT.In.bel {w w' : World} {t : VT} (h : t.In w (· < w.heap.size)) (hb : Bel w w') : t.In w' (· < w'.heap.size) :=
  h.same (fun g hg => Nat.lt_of_lt_of_le hg hb.size) fun g p hg => hb.cell hg
/-- The length at which Go's library goes over to another search: some number. -/
def MX (w : World) : Prop := 1 < w.heap.size ∧ ∃ m, w.cell? ⟨1, 0, none⟩ = some (.int .i64 m)
theorem MX.bel {w w' : World} (h : MX w) (hb : Bel w w') : MX w' := by
  obtain ⟨h1, m, h2⟩ := h
  exact ⟨Nat.lt_of_lt_of_le h1 hb.size, m, (hb.cell h1).trans h2⟩

/-- The strings l lie behind the address A, below block B. -/
def Strs (w : World) (A : Option Addr) (l : List ByteArray) : Prop :=
  l = [] ∨ ∃ g o, A = some ⟨g, o, none⟩ ∧ g < w.heap.size ∧ ∀ i, i < l.length → w.cell? ⟨g, o + i, none⟩ = some (.string (l.getD i ByteArray.empty))
theorem Strs.bel {w w' : World} {A : Option Addr} {l : List ByteArray} (h : Strs w A l) (hb : Bel w w') : Strs w' A l := by
  rcases h with h | ⟨g, o, h1, h2, h3⟩
  · exact .inl h
  · exact .inr ⟨g, o, h1, Nat.lt_of_lt_of_le h2 hb.size, fun i hi => (hb.cell h2).trans (h3 i hi)⟩
/-- slices.Equal of two lists of strings. -/
theorem equalS_c {w : World} {A B : Option Addr} {l m : List ByteArray} (hl : Strs w A l) (hm : Strs w B m) (c d : Nat) (h1 : l.length ≤ 4611686018427387904) (h2 : m.length ≤ 4611686018427387904) :
    Calls Tryd.prog 14 #[.slice A l.length c, .slice B m.length d] w fun e w' => e = .returned (.bool (decide (l = m))) ∧ Bel w w' := by
  by_cases hn : l.length = m.length
  · by_cases h0 : l.length = 0
    · have e1 : l = [] := List.length_eq_zero_iff.1 h0
      have e2 : m = [] := List.length_eq_zero_iff.1 (hn ▸ h0)
      subst e1 e2
      refine (Any.slices_Equal_string_empty Tryd.laysEQ A B c 0 d w (by omega)).mono ?_
      rintro e w' ⟨rfl, rfl⟩
      exact ⟨rfl, Bel.refl _⟩
    · rcases hl with hl | ⟨g, o, rfl, _, hg⟩
      · subst hl; exact absurd rfl h0
      rcases hm with hm | ⟨g', o', rfl, _, hg'⟩
      · subst hm; exact absurd (hn ▸ rfl) h0
      refine (Any.slices_Equal_string Tryd.laysEQ g o l.length c g' o' m.length d l m w (Nat.le_refl _) (Nat.le_refl _) (by omega) (by omega) hg hg').mono ?_
      rintro e w' ⟨rfl, q, rfl⟩
      refine ⟨?_, Bel.draw _ _⟩
      rw [List.take_length, List.take_length]
  · refine (Any.slices_Equal_string_lens Tryd.laysEQ A B l.length c m.length d w hn).mono ?_
    rintro e w' ⟨rfl, rfl⟩
    refine ⟨?_, Bel.refl _⟩
    rw [decide_eq_false (fun e => hn (by rw [e]))]

/-- strings.SplitN at the period, at most nine parts. -/
theorem splitN_c (s : ByteArray) (w : World) (hT : MX w) (hs : s.size < 4294967281) :
    Calls Tryd.prog 28 #[.string s, .string ⟨#[46]⟩, .int .i64 9] w fun e w' =>
      e = .returned (.slice (some ⟨w.heap.size, 0, none⟩) (Lib.splitB dot 0 (min 9 (s.size + 1) - 1) s).length (min 9 (s.size + 1))) ∧ w' = w.alloc (.cells (Lib.cellsOf (Lib.splitB dot 0 (min 9 (s.size + 1) - 1) s) (min 9 (s.size + 1))) 9) := by
  obtain ⟨_, m, hm⟩ := hT
  exact Any.strings_SplitN Tryd.laysSN (by kernel_rfl) s dot 9 m w hs hm (by decide) (by decide) (by decide)
end Go.Proofs.YtmgnomahnndeaaaDoor
