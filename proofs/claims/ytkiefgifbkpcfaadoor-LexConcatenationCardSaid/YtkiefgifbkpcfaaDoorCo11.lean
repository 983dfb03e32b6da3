/-
  For the law LexConcatenation: two rows of tokens one behind the other, as lists; a token of a row written over.
-/
import Derived.Test.YtkiefgifbkpcfaaDoorRt11
namespace Go.Proofs.YtkiefgifbkpcfaaDoor
open Go.RowKit Go.BigFrame
set_option linter.unusedVariables false
set_option linter.unusedSimpArgs false

theorem merge_snoc {l m : List Tok} {t : Tok} (hm : m ≠ []) : mergeT l (m ++ [t]) = mergeT l m ++ [t] := by
  unfold mergeT
  cases m with
  | nil => exact absurd rfl hm
  | cons u m =>
    cases hl : l.getLast? with
    | none => simp
    | some q =>
      simp only [List.cons_append]
      split <;> simp
theorem merge_first_text {l : List Tok} {q t : Tok} (hl : l[l.length - 1]? = some q) (hq : q.k = 0) (ht : t.k = 0) : mergeT l [t] = l.set (l.length - 1) { q with s := q.s ++ t.s } := by
  have h1 : l.getLast? = some q := by rw [List.getLast?_eq_getElem?]; exact hl
  unfold mergeT
  rw [h1]
  dsimp only
  rw [if_pos ⟨hq, ht⟩]
  obtain ⟨ys, rfl⟩ := List.getLast?_eq_some_iff.1 h1
  simp
theorem merge_first_other {l : List Tok} {t : Tok} (h : ∀ q, l[l.length - 1]? = some q → ¬ (q.k = 0 ∧ t.k = 0)) : mergeT l [t] = l ++ [t] := by
  unfold mergeT
  cases hl : l.getLast? with
  | none => rfl
  | some q =>
    dsimp only
    rw [if_neg (h q (by rw [← List.getLast?_eq_getElem?]; exact hl))]
/-- The tokens so far. -/
def sofar (l m : List Tok) (k : Nat) : List Tok := mergeT l (m.take k)
theorem sofar_zero (l m : List Tok) : sofar l m 0 = l := by unfold sofar; rw [List.take_zero, merge_none]
theorem sofar_all {l m : List Tok} {k : Nat} (h : k = m.length) : sofar l m k = mergeT l m := by unfold sofar; rw [h, List.take_length]
theorem sofar_push {l m : List Tok} {k : Nat} {t : Tok} (hk : m[k]? = some t) (h : k = 0 → ∀ q, l[l.length - 1]? = some q → ¬ (q.k = 0 ∧ t.k = 0)) : sofar l m (k + 1) = sofar l m k ++ [t] := by
  obtain ⟨hkl, e⟩ := List.getElem?_eq_some_iff.1 hk
  cases k with
  | zero =>
    rw [sofar_zero]
    unfold sofar
    rw [List.take_succ_eq_append_getElem hkl, e, List.take_zero, List.nil_append]
    exact merge_first_other (h rfl)
  | succ k =>
    unfold sofar
    rw [List.take_succ_eq_append_getElem hkl, e]
    refine merge_snoc ?_
    intro h0
    have := congrArg List.length h0
    rw [List.length_take] at this
    simp at this
    subst this
    exact absurd hkl (Nat.not_lt_zero _)
theorem sofar_text {l m : List Tok} {q t : Tok} (hk : m[0]? = some t) (hl : l[l.length - 1]? = some q) (hq : q.k = 0) (ht : t.k = 0) : sofar l m 1 = l.set (l.length - 1) { q with s := q.s ++ t.s } := by
  obtain ⟨hkl, e⟩ := List.getElem?_eq_some_iff.1 hk
  unfold sofar
  rw [List.take_succ_eq_append_getElem hkl, e, List.take_zero, List.nil_append]
  exact merge_first_text hl hq ht
theorem sofar_len (l m : List Tok) (k : Nat) : (sofar l m k).length ≤ l.length + m.length := by
  unfold sofar mergeT
  have : (m.take k).length ≤ m.length := by rw [List.length_take]; omega
  split
  · rename_i q t m' h1 h2
    rw [h2] at this
    simp at this
    split
    · simp; omega
    · rw [h2]; simp; omega
  · simp; omega
/-- Two texts in sequence. -/
theorem co_pure {a b : ByteArray} {ts us : List Tok} (ha : Lx (toL a) 0 ts) (hb : Lx (toL b) 0 us) (hl : (toL a).getLast? ≠ some 123) : Lx (toL (a ++ b)) 0 (mergeT ts (us.map (shift a.size))) := by
  rw [toL_app]
  refine lx_append ha hl ?_
  have := lx_shift hb a.size
  rw [toL_len]
  exact this

/-! ### A token of a row written over -/
theorem flat_set {α : Type} {f : α → List Value} {z : Nat} (hf : ∀ a, (f a).length = z) : ∀ {l : List α} {i j : Nat} {b : α} {v : Value} {a : α}, l[i]? = some a → (f a).set j v = f b → j < z → (flat f l).set (i * z + j) v = flat f (l.set i b)
  | [], i, j, b, v, a, h, _, _ => by simp at h
  | x :: l, 0, j, b, v, a, h, hs, hj => by
    simp at h; subst h
    rw [Nat.zero_mul, Nat.zero_add, List.set_cons_zero, flat_cons, flat_cons, List.set_append_left _ _ (by rw [hf]; exact hj), hs]
  | x :: l, i + 1, j, b, v, a, h, hs, hj => by
    rw [List.set_cons_succ, flat_cons, flat_cons, Nat.add_mul, Nat.one_mul, show i * z + z + j = (f x).length + (i * z + j) by rw [hf]; omega]
    rw [List.set_append_right _ _ (by omega), Nat.add_sub_cancel_left, flat_set hf (by simpa using h) hs hj]
theorem KRow.setCell {α : Type} {f : α → List Value} {z : Nat} {w : World} {e : TypeId} {c g o : Nat} {l : List α} (h : KRow w e z f (some ⟨g, o, none⟩) c l) (hf : ∀ a, (f a).length = z) {i j : Nat} {a b : α} {v : Value} (hi : l[i]? = some a) (hj : j < z) (hs : (f a).set j v = f b) :
    KRow (w.setCell ⟨g, o + (i * z + j), none⟩ v) e z f (some ⟨g, o, none⟩) c (l.set i b) := by
  have hil := (List.getElem?_eq_some_iff.1 hi).1
  have hm : i * z + z ≤ l.length * z := by rw [← Nat.succ_mul]; exact Nat.mul_le_mul_right _ hil
  have := RowK.set_ h rfl (i * z + j) (by omega) v
  rw [flat_set hf hi hs hj] at this
  unfold KRow
  rw [List.length_set]
  exact this
section
variable {w : World} {ops : Array Oper} {rest : List Oper} {o : Oper} {a : Act} {Q : Exit → Act → World → Prop}
theorem wp_tokAll (hgd : o.guard = none) (s x : Operand) (ho : o.op = .call { callee := .builtin .append, args := #[s, x], argTypes := #[23, 23] })
    (A : Option Addr) (c : Nat) (hs : a.eval s = .slice A 0 c) (hA : KRow w 32 5 Tok.cs A c ([] : List Tok)) (X : Option Addr) (d k : Nat) (m : List Tok) (hk : m.length = k) (hx : a.eval x = .slice X k d) (hX : KRow w 32 5 Tok.cs X d m) (hle : k ≤ 100000)
    (h : ∀ A' c' w', Hid (KRow w' 32 5 Tok.cs A' c' m) → Hid (Only (rowT A) w w') → Hid (∀ k, k ∈ rowT A' → k ∈ rowT A ∨ k = w.heap.size) → wpList Tryd.prog ops Q rest (a.put o.dst (.slice A' k c')) w') :
    wpList Tryd.prog ops Q (o :: rest) a w :=
  wp_kAppend hgd s x 23 ho 32 _ 5 56 Tok.cs tok_len tok_one Tryd.underlying23 info_tok cells_tok (by decide) A c [] 0 rfl hs hA X d m k hk hx hX.src (by unfold maxLen; omega) (by omega) k (by omega)
    (fun A' c' w' h1 h2 h3 => h A' c' w' h1 (Lib.hid h2) h3)
end
end Go.Proofs.YtkiefgifbkpcfaaDoor
