/-
  Sources of templates as lists of bytes: braces, words, forms, tokens. No program is imported here.
-/
import Derived.Test.YtkiefgifbkpcfaaDoorParts
import Derived.Lib.IndexMore
import Derived.Lib.Join
namespace Go.Proofs.YtkiefgifbkpcfaaDoor
set_option linter.unusedVariables false

/-! ### Two equal bytes next to each other -/
/-- At place j stand two bytes c. -/
def BB (c : UInt8) (l : List UInt8) (j : Nat) : Prop := l[j]? = some c ∧ l[j + 1]? = some c
def find2 (c : UInt8) : List UInt8 → Option Nat
  | [] => none
  | [_] => none
  | a :: b :: l => if a = c ∧ b = c then some 0 else (find2 c (b :: l)).map (· + 1)
theorem BB.succ {c a : UInt8} {l : List UInt8} {j : Nat} : BB c (a :: l) (j + 1) ↔ BB c l j := by simp [BB]
theorem find2_none : ∀ {c : UInt8} {l : List UInt8}, find2 c l = none ↔ ∀ j, ¬ BB c l j
  | c, [] => by simp [find2, BB]
  | c, [a] => by simp [find2, BB]
  | c, a :: b :: l => by
    unfold find2
    by_cases h : a = c ∧ b = c
    · rw [if_pos h]
      refine ⟨fun h => (by cases h), fun h2 => absurd ?_ (h2 0)⟩
      simp [BB, h.1, h.2]
    · rw [if_neg h]
      simp only [Option.map_eq_none_iff]
      rw [find2_none]
      refine ⟨fun h1 j hj => ?_, fun h1 j hj => h1 (j + 1) (BB.succ.2 hj)⟩
      cases j with
      | zero => simp [BB] at hj; exact h hj
      | succ j => exact h1 j (BB.succ.1 hj)
theorem find2_some : ∀ {c : UInt8} {l : List UInt8} {i : Nat}, find2 c l = some i ↔ BB c l i ∧ ∀ j, j < i → ¬ BB c l j
  | c, [], i => by simp [find2, BB]
  | c, [a], i => by simp [find2, BB]
  | c, a :: b :: l, i => by
    unfold find2
    by_cases h : a = c ∧ b = c
    · rw [if_pos h]
      obtain ⟨rfl, rfl⟩ := h
      have h0 : ∀ d : UInt8, BB d (d :: d :: l) 0 := fun d => by simp [BB]
      refine ⟨fun h => ?_, fun ⟨h1, h2⟩ => ?_⟩
      · injection h with h; subst h
        exact ⟨h0 _, fun j hj => absurd hj (Nat.not_lt_zero _)⟩
      · cases i with
        | zero => rfl
        | succ i => exact absurd (h0 _) (h2 0 (Nat.succ_pos _))
    · rw [if_neg h]
      have hn0 : ¬ BB c (a :: b :: l) 0 := by intro h1; simp [BB] at h1; exact h h1
      rw [Option.map_eq_some_iff]
      constructor
      · rintro ⟨k, hk, rfl⟩
        obtain ⟨h1, h2⟩ := find2_some.1 hk
        refine ⟨BB.succ.2 h1, fun j hj => ?_⟩
        cases j with
        | zero => exact hn0
        | succ j => exact fun h3 => h2 j (by omega) (BB.succ.1 h3)
      · rintro ⟨h1, h2⟩
        cases i with
        | zero => exact absurd h1 hn0
        | succ i => exact ⟨i, find2_some.2 ⟨BB.succ.1 h1, fun j hj h3 => h2 (j + 1) (by omega) (BB.succ.2 h3)⟩, rfl⟩
theorem find2_lt {c : UInt8} {l : List UInt8} {i : Nat} (h : find2 c l = some i) : i + 2 ≤ l.length := by
  have := (find2_some.1 h).1.2
  have := (List.getElem?_eq_some_iff.1 this).1
  omega
/-- The same as the library's index. -/
theorem occ_two {c : UInt8} {l : List UInt8} {i : Nat} : Lib.occAt l [c, c] i = true ↔ BB c l i := by
  unfold Lib.occAt BB
  have e1 : l[i]? = (l.drop i)[0]? := by rw [List.getElem?_drop]; rfl
  have e2 : l[i + 1]? = (l.drop i)[1]? := by rw [List.getElem?_drop]
  rw [e1, e2]
  match l.drop i with
  | [] => simp
  | [a] => simp [List.isPrefixOf]
  | a :: b :: r =>
    simp only [List.isPrefixOf, Bool.and_eq_true, beq_iff_eq, List.getElem?_cons_zero, List.getElem?_cons_succ, Option.some.injEq, Bool.and_true]
    exact ⟨fun ⟨h1, h2⟩ => ⟨h1.symm, h2.symm⟩, fun ⟨h1, h2⟩ => ⟨h1.symm, h2.symm⟩⟩
theorem index_two (c : UInt8) (l : List UInt8) : Lib.index l [c, c] = match find2 c l with | none => -1 | some i => (i : Int) := by
  cases h : find2 c l with
  | none =>
    refine Lib.index_none fun j _ => ?_
    rw [Bool.eq_false_iff]
    exact fun h1 => find2_none.1 h j (occ_two.1 h1)
  | some i =>
    obtain ⟨h1, h2⟩ := find2_some.1 h
    have := find2_lt h
    refine Lib.index_first (by omega) (occ_two.2 h1) fun j hj => ?_
    rw [Bool.eq_false_iff]
    exact fun h3 => h2 j hj (occ_two.1 h3)
theorem cut_two (c : UInt8) (l : List UInt8) : Lib.cut l [c, c] = match find2 c l with | none => (l, [], false) | some i => (l.take i, l.drop (i + 2), true) := by
  unfold Lib.cut
  rw [index_two]
  cases h : find2 c l with
  | none => rfl
  | some i => simp

/-! ### Words -/
/-- The words of l, of which the first goes on from cur. -/
def wl (cur : List UInt8) : List UInt8 → List (List UInt8)
  | [] => if cur = [] then [] else [cur]
  | c :: l => if c = 32 then (if cur = [] then wl [] l else cur :: wl [] l) else wl (cur ++ [c]) l
def words (l : List UInt8) : List (List UInt8) := wl [] l
/-- A word. -/
def Wd (w : List UInt8) : Prop := w ≠ [] ∧ ∀ c ∈ w, c ≠ 32
theorem wl_all : ∀ {l cur : List UInt8}, (∀ c ∈ cur, c ≠ 32) → ∀ w ∈ wl cur l, Wd w ∧ ∀ c ∈ w, c ∈ cur ∨ c ∈ l
  | [], cur, h, w, hw => by
    unfold wl at hw
    split at hw
    · cases hw
    · rename_i hne; simp at hw; subst hw; exact ⟨⟨hne, h⟩, fun c hc => .inl hc⟩
  | c :: l, cur, h, w, hw => by
    unfold wl at hw
    split at hw
    · rename_i hc
      have ih : ∀ w ∈ wl [] l, Wd w ∧ ∀ d ∈ w, d ∈ cur ∨ d ∈ c :: l := fun w hw => by
        obtain ⟨h1, h2⟩ := wl_all (l := l) (cur := []) (by simp) w hw
        exact ⟨h1, fun d hd => by rcases h2 d hd with h3 | h3 <;> simp_all⟩
      split at hw
      · exact ih w hw
      · rename_i hne
        rcases List.mem_cons.1 hw with rfl | hw
        · exact ⟨⟨hne, h⟩, fun d hd => .inl hd⟩
        · exact ih w hw
    · rename_i hc
      obtain ⟨h1, h2⟩ := wl_all (l := l) (cur := cur ++ [c]) (by intro d hd; rcases List.mem_append.1 hd with h3 | h3; exact h d h3; simp at h3; subst h3; exact hc) w hw
      refine ⟨h1, fun d hd => ?_⟩
      rcases h2 d hd with h3 | h3
      · rcases List.mem_append.1 h3 with h4 | h4
        · exact .inl h4
        · simp at h4; subst h4; exact .inr (by simp)
      · exact .inr (by simp [h3])
theorem words_wd {l w : List UInt8} (h : w ∈ words l) : Wd w := (wl_all (by simp) w h).1
theorem words_mem {l w : List UInt8} (h : w ∈ words l) {c : UInt8} (hc : c ∈ w) : c ∈ l := by
  rcases (wl_all (cur := []) (by simp) w h).2 c hc with h1 | h1
  · cases h1
  · exact h1
/-- Words joined by single spaces. -/
def jn : List (List UInt8) → List UInt8
  | [] => []
  | [w] => w
  | w :: x :: ws => w ++ 32 :: jn (x :: ws)
theorem wl_word : ∀ {w cur l : List UInt8}, (∀ c ∈ w, c ≠ 32) → wl cur (w ++ l) = wl (cur ++ w) l
  | [], cur, l, _ => by simp
  | c :: w, cur, l, h => by
    rw [List.cons_append, wl, if_neg (h c (by simp)), wl_word (fun d hd => h d (by simp [hd]))]
    simp
theorem words_jn : ∀ {ws : List (List UInt8)}, (∀ w ∈ ws, Wd w) → words (jn ws) = ws
  | [], _ => rfl
  | [w], h => by
    have h1 := h w (by simp)
    unfold words jn
    rw [← List.append_nil w, wl_word (by simpa using h1.2), wl]
    simp [h1.1]
  | w :: x :: ws, h => by
    have h1 := h w (by simp)
    unfold words jn
    rw [wl_word h1.2, wl, if_pos rfl, List.nil_append, if_neg h1.1]
    congr 1
    exact words_jn (ws := x :: ws) fun y hy => h y (by simp [hy])
theorem jn_cons_len (w : List UInt8) (ws : List (List UInt8)) : (jn (w :: ws)).length = w.length + (if ws = [] then 0 else 1 + (jn ws).length) := by
  cases ws with
  | nil => simp [jn]
  | cons x ws => simp [jn]; omega
theorem wl_len : ∀ (l cur : List UInt8), (jn (wl cur l)).length ≤ cur.length + l.length
  | [], cur => by unfold wl; split <;> simp [jn]
  | c :: l, cur => by
    unfold wl
    split
    · have := wl_len l []
      split
      · simp at this ⊢; omega
      · rw [jn_cons_len]
        simp at this ⊢
        split <;> omega
    · have := wl_len l (cur ++ [c])
      simp at this ⊢; omega
theorem words_len (l : List UInt8) : (jn (words l)).length ≤ l.length := by have := wl_len l []; simp at this; exact this
theorem jn_inj {a b : List (List UInt8)} (ha : ∀ w ∈ a, Wd w) (hb : ∀ w ∈ b, Wd w) (h : jn a = jn b) : a = b := by
  rw [← words_jn ha, ← words_jn hb, h]
/-- As the library joins. -/
theorem join_jn : ∀ ws : List (List UInt8), Lib.join ws [32] = jn ws
  | [] => rfl
  | [w] => by simp [jn, Lib.join, List.intercalate]
  | w :: x :: ws => by
    have := join_jn (x :: ws)
    simp only [Lib.join, List.intercalate] at this ⊢
    simp only [List.intersperse, List.flatten_cons, jn] at this ⊢
    rw [this]
    simp
end Go.Proofs.YtkiefgifbkpcfaaDoor
