/-
  Lists of strings that are only read: slices.Contains, slices.Equal.
-/
import Derived.Test.YtkipmaoeejdncaaDoorNm
import Derived.Test.YtkipmaoeejdncaaDoorShelf
import Derived.Shelf.Slices.Empties2
import Derived.Test.YtkipmaoeejdncaaDoorDn14
import Derived.Test.YtkipmaoeejdncaaDoorKRow
namespace Go.Proofs.YtkipmaoeejdncaaDoor
open Go.RowKit Go.BigFrame NT
set_option linter.unusedVariables false
set_option linter.unusedSimpArgs false

theorem containsS_hasN (l : List ByteArray) (x : ByteArray) : Lib.containsS l x = hasN l x := by rw [Bool.eq_iff_iff, Lib.containsS_iff, hasN_iff]
theorem equalS14_c {w : World} {A B : Option Addr} {l m : List ByteArray} (hl : Strs w A l) (hm : Strs w B m) (c d : Nat) (h1 : l.length ≤ 1000000) (h2 : m.length ≤ 1000000) :
    Calls Tryd.prog 16 #[.slice A l.length c, .slice B m.length d] w fun e w' => e = .returned (.bool (decide (l = m))) ∧ Bel w w' := by
  by_cases hn : l.length = m.length
  · by_cases h0 : l.length = 0
    · have e1 : l = [] := List.length_eq_zero_iff.1 h0
      have e2 : m = [] := List.length_eq_zero_iff.1 (hn ▸ h0)
      subst e1 e2
      refine (Any.slices_Equal_string_empty Tryd.laysEQ A B c 0 d w (by omega)).mono ?_
      rintro e w' ⟨rfl, rfl⟩
      exact ⟨rfl, Bel.refl _⟩
    · rcases hl with hl | ⟨g, o, rfl, _, hg⟩
      · subst hl; exact absurd rfl h0
      rcases hm with hm | ⟨g', o', rfl, _, hg'⟩
      · subst hm; exact absurd (hn ▸ rfl) h0
      refine (Any.slices_Equal_string Tryd.laysEQ g o l.length c g' o' m.length d l m w (Nat.le_refl _) (Nat.le_refl _) (by omega) (by omega) hg hg').mono ?_
      rintro e w' ⟨rfl, q, rfl⟩
      refine ⟨?_, Bel.draw _ _⟩
      rw [List.take_length, List.take_length]
  · refine (Any.slices_Equal_string_lens Tryd.laysEQ A B l.length c m.length d w hn).mono ?_
    rintro e w' ⟨rfl, rfl⟩
    refine ⟨?_, Bel.refl _⟩
    rw [decide_eq_false (fun e => hn (by rw [e]))]
/-- A block of strings of the call's own. -/
theorem strs_blk {w : World} {g : Nat} {T : TypeId} {l : List ByteArray} (h : Blk w g T (l.map Value.string)) : Strs w (some ⟨g, 0, none⟩) l := by
  by_cases h0 : l = []
  · exact .inl h0
  refine .inr ⟨g, 0, rfl, h.lt, fun j hj => ?_⟩
  rw [Nat.zero_add, h.cell, List.getElem?_map, List.getElem?_eq_getElem hj, List.getD_eq_getElem?_getD, List.getElem?_eq_getElem hj]
  rfl
def fS14 (s : ByteArray) : List Value := [.string s]
theorem flat_fS : ∀ l : List ByteArray, flat fS14 l = l.map Value.string
  | [] => rfl
  | a :: l => by rw [flat_cons, flat_fS l]; rfl
theorem fS14_len (s : ByteArray) : (fS14 s).length = 1 := rfl
theorem strs_row {w : World} {A : Option Addr} {c : Nat} {l : List ByteArray} (h : KRow w 9 1 fS14 A c l) : Strs w A l := by
  by_cases h0 : l = []
  · exact .inl h0
  have hl : 0 < l.length := List.length_pos_iff.2 h0
  obtain ⟨g, o, rfl, hg⟩ := h.addr (by have := h.le; omega)
  refine .inr ⟨g, o, rfl, hg, fun j hj => ?_⟩
  obtain ⟨g', o', e, _, hc⟩ := h.at_ fS14_len (List.getElem?_eq_getElem hj) (by decide)
  injection e with e
  injection e with e1 e2
  subst e1 e2
  have := hc 0 _ rfl
  rw [Nat.mul_one, Nat.add_zero] at this
  rw [this, List.getD_eq_getElem?_getD, List.getElem?_eq_getElem hj]
  rfl
theorem strs_at14 {w : World} {A : Option Addr} {l : List ByteArray} (h : Strs w A l) {k : Nat} {s : ByteArray} (hk : l[k]? = some s) : ∃ g o, A = some ⟨g, o, none⟩ ∧ g < w.heap.size ∧ w.cell? ⟨g, o + k, none⟩ = some (.string s) := by
  have hlt := (List.getElem?_eq_some_iff.1 hk).1
  rcases h with h | ⟨g, o, h1, h2, h3⟩
  · subst h; simp at hlt
  · refine ⟨g, o, h1, h2, ?_⟩
    rw [h3 k hlt, List.getD_eq_getElem?_getD, hk]
    rfl
end Go.Proofs.YtkipmaoeejdncaaDoor
