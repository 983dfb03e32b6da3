/-
  Sources of templates as lists of bytes: braces, words, forms, tokens. No program is imported here.
  Forms of directives, tokens, the tokens of a source, as plain data. No program is imported here.
  The tokens of a source: what the laws of layer 11 say, as plain data. No program is imported here.
  The forms as the program looks them up: the form of words as one string; names and paths word by word. No program is imported here.
-/
import Derived.Test.YteclclidibmajaaParts
import Derived.Lib.IndexMore
import Derived.Lib.Join
namespace Go.Proofs.Yteclclidibmajaa
set_option linter.unusedVariables false

/-! ### Two equal bytes next to each other -/
/-- At place j stand two bytes c. -/
def BB (c : UInt8) (l : List UInt8) (j : Nat) : Prop := l[j]? = some c ∧ l[j + 1]? = some c
def find2 (c : UInt8) : List UInt8 → Option Nat
  | [] => none
  | [_] => none
  | a :: b :: l => if a = c ∧ b = c then some 0 else (find2 c (b :: l)).map (· + 1)
theorem BB.succ {c a : UInt8} {l : List UInt8} {j : Nat} : BB c (a :: l) (j + 1) ↔ BB c l j := by simp [BB]
theorem find2_none : ∀ {c : UInt8} {l : List UInt8}, find2 c l = none ↔ ∀ j, ¬ BB c l j
  | c, [] => by simp [find2, BB]
  | c, [a] => by simp [find2, BB]
  | c, a :: b :: l => by
    unfold find2
    by_cases h : a = c ∧ b = c
    · rw [if_pos h]
      refine ⟨fun h => (by cases h), fun h2 => absurd ?_ (h2 0)⟩
      simp [BB, h.1, h.2]
    · rw [if_neg h]
      simp only [Option.map_eq_none_iff]
      rw [find2_none]
      refine ⟨fun h1 j hj => ?_, fun h1 j hj => h1 (j + 1) (BB.succ.2 hj)⟩
      cases j with
      | zero => simp [BB] at hj; exact h hj
      | succ j => exact h1 j (BB.succ.1 hj)
theorem find2_some : ∀ {c : UInt8} {l : List UInt8} {i : Nat}, find2 c l = some i ↔ BB c l i ∧ ∀ j, j < i → ¬ BB c l j
  | c, [], i => by simp [find2, BB]
  | c, [a], i => by simp [find2, BB]
  | c, a :: b :: l, i => by
    unfold find2
    by_cases h : a = c ∧ b = c
    · rw [if_pos h]
      obtain ⟨rfl, rfl⟩ := h
      have h0 : ∀ d : UInt8, BB d (d :: d :: l) 0 := fun d => by simp [BB]
      refine ⟨fun h => ?_, fun ⟨h1, h2⟩ => ?_⟩
      · injection h with h; subst h
        exact ⟨h0 _, fun j hj => absurd hj (Nat.not_lt_zero _)⟩
      · cases i with
        | zero => rfl
        | succ i => exact absurd (h0 _) (h2 0 (Nat.succ_pos _))
    · rw [if_neg h]
      have hn0 : ¬ BB c (a :: b :: l) 0 := by intro h1; simp [BB] at h1; exact h h1
      rw [Option.map_eq_some_iff]
      constructor
      · rintro ⟨k, hk, rfl⟩
        obtain ⟨h1, h2⟩ := find2_some.1 hk
        refine ⟨BB.succ.2 h1, fun j hj => ?_⟩
        cases j with
        | zero => exact hn0
        | succ j => exact fun h3 => h2 j (by omega) (BB.succ.1 h3)
      · rintro ⟨h1, h2⟩
        cases i with
        | zero => exact absurd h1 hn0
        | succ i => exact ⟨i, find2_some.2 ⟨BB.succ.1 h1, fun j hj h3 => h2 (j + 1) (by omega) (BB.succ.2 h3)⟩, rfl⟩
theorem find2_lt {c : UInt8} {l : List UInt8} {i : Nat} (h : find2 c l = some i) : i + 2 ≤ l.length := by
  have := (find2_some.1 h).1.2
  have := (List.getElem?_eq_some_iff.1 this).1
  omega
/-- The same as the library's index. -/
theorem occ_two {c : UInt8} {l : List UInt8} {i : Nat} : Lib.occAt l [c, c] i = true ↔ BB c l i := by
  unfold Lib.occAt BB
  have e1 : l[i]? = (l.drop i)[0]? := by rw [List.getElem?_drop]; rfl
  have e2 : l[i + 1]? = (l.drop i)[1]? := by rw [List.getElem?_drop]
  rw [e1, e2]
  match l.drop i with
  | [] => simp
  | [a] => simp [List.isPrefixOf]
  | a :: b :: r =>
    simp only [List.isPrefixOf, Bool.and_eq_true, beq_iff_eq, List.getElem?_cons_zero, List.getElem?_cons_succ, Option.some.injEq, Bool.and_true]
    exact ⟨fun ⟨h1, h2⟩ => ⟨h1.symm, h2.symm⟩, fun ⟨h1, h2⟩ => ⟨h1.symm, h2.symm⟩⟩
theorem index_two (c : UInt8) (l : List UInt8) : Lib.index l [c, c] = match find2 c l with | none => -1 | some i => (i : Int) := by
  cases h : find2 c l with
  | none =>
    refine Lib.index_none fun j _ => ?_
    rw [Bool.eq_false_iff]
    exact fun h1 => find2_none.1 h j (occ_two.1 h1)
  | some i =>
    obtain ⟨h1, h2⟩ := find2_some.1 h
    have := find2_lt h
    refine Lib.index_first (by omega) (occ_two.2 h1) fun j hj => ?_
    rw [Bool.eq_false_iff]
    exact fun h3 => h2 j hj (occ_two.1 h3)
theorem cut_two (c : UInt8) (l : List UInt8) : Lib.cut l [c, c] = match find2 c l with | none => (l, [], false) | some i => (l.take i, l.drop (i + 2), true) := by
  unfold Lib.cut
  rw [index_two]
  cases h : find2 c l with
  | none => rfl
  | some i => simp

/-! ### Words -/
/-- The words of l, of which the first goes on from cur. -/
def wl (cur : List UInt8) : List UInt8 → List (List UInt8)
  | [] => if cur = [] then [] else [cur]
  | c :: l => if c = 32 then (if cur = [] then wl [] l else cur :: wl [] l) else wl (cur ++ [c]) l
def words (l : List UInt8) : List (List UInt8) := wl [] l
/-- A word. -/
def Wd (w : List UInt8) : Prop := w ≠ [] ∧ ∀ c ∈ w, c ≠ 32
theorem wl_all : ∀ {l cur : List UInt8}, (∀ c ∈ cur, c ≠ 32) → ∀ w ∈ wl cur l, Wd w ∧ ∀ c ∈ w, c ∈ cur ∨ c ∈ l
  | [], cur, h, w, hw => by
    unfold wl at hw
    split at hw
    · cases hw
    · rename_i hne; simp at hw; subst hw; exact ⟨⟨hne, h⟩, fun c hc => .inl hc⟩
  | c :: l, cur, h, w, hw => by
    unfold wl at hw
    split at hw
    · rename_i hc
      have ih : ∀ w ∈ wl [] l, Wd w ∧ ∀ d ∈ w, d ∈ cur ∨ d ∈ c :: l := fun w hw => by
        obtain ⟨h1, h2⟩ := wl_all (l := l) (cur := []) (by simp) w hw
        exact ⟨h1, fun d hd => by rcases h2 d hd with h3 | h3 <;> simp_all⟩
      split at hw
      · exact ih w hw
      · rename_i hne
        rcases List.mem_cons.1 hw with rfl | hw
        · exact ⟨⟨hne, h⟩, fun d hd => .inl hd⟩
        · exact ih w hw
    · rename_i hc
      obtain ⟨h1, h2⟩ := wl_all (l := l) (cur := cur ++ [c]) (by intro d hd; rcases List.mem_append.1 hd with h3 | h3; exact h d h3; simp at h3; subst h3; exact hc) w hw
      refine ⟨h1, fun d hd => ?_⟩
      rcases h2 d hd with h3 | h3
      · rcases List.mem_append.1 h3 with h4 | h4
        · exact .inl h4
        · simp at h4; subst h4; exact .inr (by simp)
      · exact .inr (by simp [h3])
theorem words_wd {l w : List UInt8} (h : w ∈ words l) : Wd w := (wl_all (by simp) w h).1
theorem words_mem {l w : List UInt8} (h : w ∈ words l) {c : UInt8} (hc : c ∈ w) : c ∈ l := by
  rcases (wl_all (cur := []) (by simp) w h).2 c hc with h1 | h1
  · cases h1
  · exact h1
/-- Words joined by single spaces. -/
def jn : List (List UInt8) → List UInt8
  | [] => []
  | [w] => w
  | w :: x :: ws => w ++ 32 :: jn (x :: ws)
theorem wl_word : ∀ {w cur l : List UInt8}, (∀ c ∈ w, c ≠ 32) → wl cur (w ++ l) = wl (cur ++ w) l
  | [], cur, l, _ => by simp
  | c :: w, cur, l, h => by
    rw [List.cons_append, wl, if_neg (h c (by simp)), wl_word (fun d hd => h d (by simp [hd]))]
    simp
theorem words_jn : ∀ {ws : List (List UInt8)}, (∀ w ∈ ws, Wd w) → words (jn ws) = ws
  | [], _ => rfl
  | [w], h => by
    have h1 := h w (by simp)
    unfold words jn
    rw [← List.append_nil w, wl_word (by simpa using h1.2), wl]
    simp [h1.1]
  | w :: x :: ws, h => by
    have h1 := h w (by simp)
    unfold words jn
    rw [wl_word h1.2, wl, if_pos rfl, List.nil_append, if_neg h1.1]
    congr 1
    exact words_jn (ws := x :: ws) fun y hy => h y (by simp [hy])
theorem jn_cons_len (w : List UInt8) (ws : List (List UInt8)) : (jn (w :: ws)).length = w.length + (if ws = [] then 0 else 1 + (jn ws).length) := by
  cases ws with
  | nil => simp [jn]
  | cons x ws => simp [jn]; omega
theorem wl_len : ∀ (l cur : List UInt8), (jn (wl cur l)).length ≤ cur.length + l.length
  | [], cur => by unfold wl; split <;> simp [jn]
  | c :: l, cur => by
    unfold wl
    split
    · have := wl_len l []
      split
      · simp at this ⊢; omega
      · rw [jn_cons_len]
        simp at this ⊢
        split <;> omega
    · have := wl_len l (cur ++ [c])
      simp at this ⊢; omega
theorem words_len (l : List UInt8) : (jn (words l)).length ≤ l.length := by have := wl_len l []; simp at this; exact this
theorem jn_inj {a b : List (List UInt8)} (ha : ∀ w ∈ a, Wd w) (hb : ∀ w ∈ b, Wd w) (h : jn a = jn b) : a = b := by
  rw [← words_jn ha, ← words_jn hb, h]
/-- As the library joins. -/
theorem join_jn : ∀ ws : List (List UInt8), Lib.join ws [32] = jn ws
  | [] => rfl
  | [w] => by simp [jn, Lib.join, List.intercalate]
  | w :: x :: ws => by
    have := join_jn (x :: ws)
    simp only [Lib.join, List.intercalate] at this ⊢
    simp only [List.intersperse, List.flatten_cons, jn] at this ⊢
    rw [this]
    simp
end Go.Proofs.Yteclclidibmajaa

namespace Go.Proofs.Yteclclidibmajaa
set_option linter.unusedVariables false
set_option linter.unusedSimpArgs false

/-- Does the word begin with a period? -/
def isP (w : List UInt8) : Bool := match w with | c :: _ => c == 46 | [] => false
/-- A path. -/
def pathL (q : List UInt8) : Bool := decide (q = []) || (decide ((parts q).length ≤ 8) && (parts q).all nameL)
structure Tok where
  k : Nat
  a : Nat
  s : List UInt8
  p : List UInt8
  h : Bool
  deriving DecidableEq
/-- The kind that the first word tells; 0: none. -/
def kw (w : List UInt8) : Nat :=
  if w = [105, 102] then 2 else if w = [114, 97, 110, 103, 101] then 3 else if w = [99, 97, 108, 108] then 4 else if w = [102, 108, 117, 115, 104] then 5 else
  if w = [100, 101, 102, 105, 110, 101] then 6 else if w = [101, 108, 115, 101] then 7 else if w = [101, 110, 100] then 8 else if isP w then 1 else 0
/-- The kind, the name and the path of a directive with these words. -/
def formW : List (List UInt8) → Option (Nat × List UInt8 × Option (List UInt8))
  | [] => none
  | [w] => if kw w = 1 then some (1, [], some w.tail) else if kw w = 5 ∨ kw w = 7 ∨ kw w = 8 then some (kw w, [], none) else none
  | [w, x] => if (kw w = 2 ∨ kw w = 3) ∧ isP x = true then some (kw w, [], some x.tail) else if (kw w = 4 ∨ kw w = 6) ∧ isP x = false then some (kw w, x, none) else none
  | [w, x, y] => if kw w = 4 ∧ isP x = false ∧ isP y = true then some (4, x, some y.tail) else none
  | _ => none
theorem formW1 (w : List UInt8) : formW [w] = if kw w = 1 then some (1, [], some w.tail) else if kw w = 5 ∨ kw w = 7 ∨ kw w = 8 then some (kw w, [], none) else none := rfl
theorem formW2 (w x : List UInt8) : formW [w, x] = if (kw w = 2 ∨ kw w = 3) ∧ isP x = true then some (kw w, [], some x.tail) else if (kw w = 4 ∨ kw w = 6) ∧ isP x = false then some (kw w, x, none) else none := rfl
theorem formW3 (w x y : List UInt8) : formW [w, x, y] = if kw w = 4 ∧ isP x = false ∧ isP y = true then some (4, x, some y.tail) else none := rfl
/-- Are its name and its path valid? -/
def okF (k : Nat) (n : List UInt8) (p : Option (List UInt8)) : Bool := (!(k == 4 || k == 6) || nameL n) && (match p with | some q => pathL q | none => true)
def dirOf (ws : List (List UInt8)) : Except Nat Tok :=
  match formW ws with
  | none => .error 5
  | some (k, n, p) => if okF k n p then .ok ⟨k, 0, n, p.getD [], p.isSome⟩ else .error 11

/-! ### The canonical source -/
def kwOf (k : Nat) : List (List UInt8) :=
  match k with
  | 2 => [[105, 102]]
  | 3 => [[114, 97, 110, 103, 101]]
  | 4 => [[99, 97, 108, 108]]
  | 5 => [[102, 108, 117, 115, 104]]
  | 6 => [[100, 101, 102, 105, 110, 101]]
  | 7 => [[101, 108, 115, 101]]
  | 8 => [[101, 110, 100]]
  | _ => []
def fmtW (t : Tok) : List (List UInt8) := kwOf t.k ++ (if t.s = [] then [] else [t.s]) ++ (if t.h then [46 :: t.p] else [])
def fmt (t : Tok) : List UInt8 := if t.k = 0 then t.s else 123 :: 123 :: (jn (fmtW t) ++ [125, 125])
def fmts (ts : List Tok) : List UInt8 := (ts.map fmt).flatten
theorem kw_ne {w : List UInt8} {k : Nat} (h : kw w = k) (h2 : 2 ≤ k) : kwOf k = [w] ∧ k ≤ 8 := by
  unfold kw at h
  repeat' (split at h)
  all_goals (subst h; first | (rename_i e; subst e; exact ⟨rfl, by decide⟩) | omega)
theorem isP_eq {w : List UInt8} (h : isP w = true) : w = 46 :: w.tail := by
  cases w with
  | nil => cases h
  | cons c w => simp [isP] at h; rw [h]; rfl
theorem kw_one {w : List UInt8} (h : kw w = 1) : isP w = true := by
  unfold kw at h
  repeat' (split at h)
  all_goals first | omega | assumption
theorem isP_kw {w : List UInt8} (h : isP w = true) : kw w = 1 := by
  rw [isP_eq h]
  simp [kw, isP]
/-- What a directive's token is like. -/
theorem dir_good {ws : List (List UInt8)} {t : Tok} (h : dirOf ws = .ok t) (hw : ∀ w ∈ ws, Wd w) : t.k ≠ 0 ∧ t.k ≤ 8 ∧ (t.s ≠ [] ↔ t.k = 4 ∨ t.k = 6) ∧ fmtW t = ws ∧ t.a = 0 := by
  unfold dirOf at h
  cases hf : formW ws with
  | none => rw [hf] at h; cases h
  | some r =>
    obtain ⟨k, n, p⟩ := r
    rw [hf] at h
    dsimp only at h
    split at h
    · injection h with h
      subst h
      match ws, hf, hw with
      | [], hf, _ => cases hf
      | [w], hf, hw =>
        rw [formW1] at hf
        split at hf
        · rename_i h1
          simp only [Option.some.injEq, Prod.mk.injEq] at hf
          obtain ⟨rfl, rfl, rfl⟩ := hf
          have := isP_eq (kw_one h1)
          simp [fmtW, kwOf, ← this]
        · split at hf
          · rename_i h1
            simp only [Option.some.injEq, Prod.mk.injEq] at hf
            obtain ⟨rfl, rfl, rfl⟩ := hf
            obtain ⟨h2, h3⟩ := kw_ne (w := w) rfl (by omega)
            simp [fmtW, h2]; omega
          · cases hf
      | [w, x], hf, hw =>
        rw [formW2] at hf
        split at hf
        · rename_i h1
          simp only [Option.some.injEq, Prod.mk.injEq] at hf
          obtain ⟨rfl, rfl, rfl⟩ := hf
          obtain ⟨h2, h3⟩ := kw_ne (w := w) rfl (by omega)
          have := isP_eq h1.2
          simp [fmtW, h2, ← this]; omega
        · split at hf
          · rename_i h1
            simp only [Option.some.injEq, Prod.mk.injEq] at hf
            obtain ⟨rfl, rfl, rfl⟩ := hf
            obtain ⟨h2, h3⟩ := kw_ne (w := w) rfl (by omega)
            have hx := (hw x (by simp)).1
            simp [fmtW, h2, hx]; omega
          · cases hf
      | [w, x, y], hf, hw =>
        rw [formW3] at hf
        split at hf
        · rename_i h1
          simp only [Option.some.injEq, Prod.mk.injEq] at hf
          obtain ⟨rfl, rfl, rfl⟩ := hf
          obtain ⟨h2, h3⟩ := kw_ne h1.1 (by omega)
          have hx := (hw x (by simp)).1
          have := isP_eq h1.2.2
          simp [fmtW, h2, hx, ← this]
        · cases hf
      | _ :: _ :: _ :: _ :: _, hf, _ => cases hf
    · cases h
/-- Bytes of names, of paths, of keywords. -/
theorem name_byte {n : List UInt8} (h : nameL n = true) {c : UInt8} (hc : c ∈ n) : wordB c = true := by
  cases n with
  | nil => cases hc
  | cons d n =>
    rw [nameL_cons] at h
    simp only [Bool.and_eq_true] at h
    exact List.all_eq_true.1 h.2 c hc
theorem part_byte : ∀ {q : List UInt8} {c : UInt8}, c ∈ q → c = 46 ∨ ∃ p ∈ parts q, c ∈ p
  | d :: q, c, hc => by
    by_cases hd : d = 46
    · subst hd
      rcases List.mem_cons.1 hc with h | h
      · exact .inl h
      · rcases part_byte h with h1 | ⟨p, h1, h2⟩
        · exact .inl h1
        · exact .inr ⟨p, by simp [parts, h1], h2⟩
    · obtain ⟨p, ps, h1, h2⟩ := parts_cons (l := q) hd
      rw [h2]
      rcases List.mem_cons.1 hc with h | h
      · subst h; exact .inr ⟨c :: p, by simp, by simp⟩
      · rcases part_byte h with h3 | ⟨r, h3, h4⟩
        · exact .inl h3
        · rw [h1] at h3
          rcases List.mem_cons.1 h3 with h5 | h5
          · subst h5; exact .inr ⟨d :: r, by simp, by simp [h4]⟩
          · exact .inr ⟨r, by simp [h5], h4⟩
theorem path_byte {q : List UInt8} (h : pathL q = true) {c : UInt8} (hc : c ∈ q) : c = 46 ∨ wordB c = true := by
  unfold pathL at h
  simp only [Bool.or_eq_true, Bool.and_eq_true, decide_eq_true_eq] at h
  rcases h with h | ⟨_, h⟩
  · subst h; cases hc
  · rcases part_byte hc with h1 | ⟨p, h1, h2⟩
    · exact .inl h1
    · exact .inr (name_byte (List.all_eq_true.1 h p h1) h2)
theorem word_brace {c : UInt8} (h : wordB c = true) : c ≠ 125 := by rintro rfl; revert h; decide
theorem kwOf_brace {k : Nat} {w : List UInt8} (h : w ∈ kwOf k) {c : UInt8} (hc : c ∈ w) : c ≠ 125 := by
  have H : ∀ k w, w ∈ kwOf k → w.all (· != 125) = true := by
    intro k w h
    unfold kwOf at h
    split at h
    all_goals first | (simp at h; subst h; decide) | cases h
  have := List.all_eq_true.1 (H k w h) c hc
  simpa using this
theorem dir_brace {ws : List (List UInt8)} {t : Tok} (h : dirOf ws = .ok t) (hw : ∀ w ∈ ws, Wd w) : ∀ w ∈ ws, ∀ c ∈ w, c ≠ 125 := by
  obtain ⟨_, _, hs, hf, _⟩ := dir_good h hw
  have hv : (t.s ≠ [] → nameL t.s = true) ∧ (t.h = true → pathL t.p = true) := by
    unfold dirOf at h
    cases hf : formW ws with
    | none => rw [hf] at h; cases h
    | some r =>
      obtain ⟨k, n, p⟩ := r
      rw [hf] at h
      dsimp only at h
      split at h
      · rename_i ho
        injection h with h
        subst h
        unfold okF at ho
        simp only [Bool.and_eq_true, Bool.or_eq_true, Bool.not_eq_true', beq_iff_eq] at ho
        refine ⟨fun h1 => ?_, fun h1 => ?_⟩
        · have h2 := hs.1 h1
          rcases ho.1 with h3 | h3
          · simp at h3 h2; omega
          · exact h3
        · cases p with
          | none => cases h1
          | some q => exact ho.2
      · cases h
  rw [← hf]
  intro w hwm c hc
  unfold fmtW at hwm
  rw [List.mem_append, List.mem_append] at hwm
  rcases hwm with (h1 | h1) | h1
  · exact kwOf_brace h1 hc
  · split at h1
    · cases h1
    · rename_i hne
      simp at h1; subst h1
      exact word_brace (name_byte (hv.1 hne) hc)
  · split at h1
    · rename_i hh
      simp at h1; subst h1
      rcases List.mem_cons.1 hc with h2 | h2
      · subst h2; decide
      · rcases path_byte (hv.2 hh) h2 with h3 | h3
        · subst h3; decide
        · exact word_brace h3
    · cases h1
theorem jn_mem : ∀ {ws : List (List UInt8)} {c : UInt8}, c ∈ jn ws → c = 32 ∨ ∃ w ∈ ws, c ∈ w
  | [w], c, h => .inr ⟨w, by simp, h⟩
  | w :: x :: ws, c, h => by
    unfold jn at h
    rcases List.mem_append.1 h with h1 | h1
    · exact .inr ⟨w, by simp, h1⟩
    · rcases List.mem_cons.1 h1 with h2 | h2
      · exact .inl h2
      · rcases jn_mem h2 with h3 | ⟨y, h3, h4⟩
        · exact .inl h3
        · exact .inr ⟨y, by simp [List.mem_cons.1 h3], h4⟩

/-! ### The tokens of a source -/
def text (a : Nat) (s : List UInt8) : Tok := ⟨0, a, s, [], false⟩
inductive Lx : List UInt8 → Nat → List Tok → Prop
  | nil (a : Nat) : Lx [] a []
  | all (l : List UInt8) (a : Nat) : l ≠ [] → find2 123 l = none → Lx l a [text a l]
  | text (l : List UInt8) (a k : Nat) (ts : List Tok) : find2 123 l = some (k + 1) → Lx (l.drop (k + 1)) (a + (k + 1)) ts → Lx l a (text a (l.take (k + 1)) :: ts)
  | dir (l : List UInt8) (a e : Nat) (t : Tok) (ts : List Tok) : find2 123 l = some 0 → find2 125 (l.drop 2) = some e → dirOf (words ((l.drop 2).take e)) = .ok t → Lx (l.drop (e + 4)) (a + (e + 4)) ts →
    Lx l a ({ t with a := a } :: ts)
/-- Where the first fault is, and which. -/
inductive Er : List UInt8 → Nat → Nat → Nat → Prop
  | text (l : List UInt8) (a k b c : Nat) : find2 123 l = some (k + 1) → Er (l.drop (k + 1)) (a + (k + 1)) b c → Er l a b c
  | dir (l : List UInt8) (a e : Nat) (t : Tok) (b c : Nat) : find2 123 l = some 0 → find2 125 (l.drop 2) = some e → dirOf (words ((l.drop 2).take e)) = .ok t → Er (l.drop (e + 4)) (a + (e + 4)) b c → Er l a b c
  | trunc (l : List UInt8) (a : Nat) : find2 123 l = some 0 → find2 125 (l.drop 2) = none → Er l a a 7
  | bad (l : List UInt8) (a e c : Nat) : find2 123 l = some 0 → find2 125 (l.drop 2) = some e → dirOf (words ((l.drop 2).take e)) = .error c → Er l a a c
end Go.Proofs.Yteclclidibmajaa

namespace Go.Proofs.Yteclclidibmajaa
set_option linter.unusedVariables false
set_option linter.unusedSimpArgs false

theorem dir_words {l : List UInt8} : ∀ w ∈ words l, Wd w := fun _ h => words_wd h
/-- One of the two holds, and only one, with one result. -/
theorem lx_total : ∀ (n : Nat) (l : List UInt8) (a : Nat), l.length ≤ n → (∃ ts, Lx l a ts) ∨ ∃ b c, Er l a b c := by
  intro n
  induction n with
  | zero =>
    intro l a h
    obtain rfl : l = [] := List.length_eq_zero_iff.1 (by omega)
    exact .inl ⟨[], Lx.nil a⟩
  | succ n ih =>
    intro l a h
    by_cases hl : l = []
    · subst hl; exact .inl ⟨[], Lx.nil a⟩
    · have hp : 0 < l.length := List.length_pos_iff.2 hl
      cases hf : find2 123 l with
      | none => exact .inl ⟨_, Lx.all l a hl hf⟩
      | some k =>
        cases k with
        | succ k =>
          rcases ih (l.drop (k + 1)) (a + (k + 1)) (by rw [List.length_drop]; omega) with ⟨ts, h1⟩ | ⟨b, c, h1⟩
          · exact .inl ⟨_, Lx.text l a k ts hf h1⟩
          · exact .inr ⟨b, c, Er.text l a k b c hf h1⟩
        | zero =>
          cases hc : find2 125 (l.drop 2) with
          | none => exact .inr ⟨_, _, Er.trunc l a hf hc⟩
          | some e =>
            cases hd : dirOf (words ((l.drop 2).take e)) with
            | error c => exact .inr ⟨_, _, Er.bad l a e c hf hc hd⟩
            | ok t =>
              rcases ih (l.drop (e + 4)) (a + (e + 4)) (by rw [List.length_drop]; omega) with ⟨ts, h1⟩ | ⟨b, c, h1⟩
              · exact .inl ⟨_, Lx.dir l a e t ts hf hc hd h1⟩
              · exact .inr ⟨b, c, Er.dir l a e t b c hf hc hd h1⟩
theorem lx_fun {l : List UInt8} {a : Nat} {ts : List Tok} (h : Lx l a ts) : ∀ {us : List Tok}, Lx l a us → ts = us := by
  induction h with
  | nil a =>
    intro us h2
    cases h2 with
    | nil => rfl
    | all _ _ h3 => exact absurd rfl h3
    | text _ _ k ts hf => simp [find2] at hf
    | dir _ _ e t ts hf => simp [find2] at hf
  | all l a hl hf =>
    intro us h2
    cases h2 with
    | nil => exact absurd rfl hl
    | all => rfl
    | text _ _ k ts hf2 => rw [hf] at hf2; cases hf2
    | dir _ _ e t ts hf2 => rw [hf] at hf2; cases hf2
  | text l a k ts hf _ ih =>
    intro us h2
    cases h2 with
    | nil => simp [find2] at hf
    | all _ _ _ hf2 => rw [hf] at hf2; cases hf2
    | text _ _ k2 ts2 hf2 h3 =>
      rw [hf] at hf2
      simp only [Option.some.injEq, Nat.add_right_cancel_iff] at hf2
      subst hf2
      rw [ih h3]
    | dir _ _ e t ts hf2 => rw [hf] at hf2; cases hf2
  | dir l a e t ts hf hc hd _ ih =>
    intro us h2
    cases h2 with
    | nil => simp [find2] at hf
    | all _ _ _ hf2 => rw [hf] at hf2; cases hf2
    | text _ _ k2 ts2 hf2 h3 => rw [hf] at hf2; cases hf2
    | dir _ _ e2 t2 ts2 hf2 hc2 hd2 h3 =>
      rw [hc] at hc2; injection hc2 with hc2; subst hc2
      rw [hd] at hd2; injection hd2 with hd2; subst hd2
      rw [ih h3]
theorem er_not {l : List UInt8} {a b c : Nat} (h : Er l a b c) : ∀ {us : List Tok}, ¬ Lx l a us := by
  induction h with
  | text l a k b c hf _ ih =>
    intro us h2
    cases h2 with
    | nil => simp [find2] at hf
    | all _ _ _ hf2 => rw [hf] at hf2; cases hf2
    | text _ _ k2 ts2 hf2 h3 =>
      rw [hf] at hf2
      simp only [Option.some.injEq, Nat.add_right_cancel_iff] at hf2
      subst hf2
      exact ih h3
    | dir _ _ e t ts hf2 => rw [hf] at hf2; cases hf2
  | dir l a e t b c hf hc hd _ ih =>
    intro us h2
    cases h2 with
    | nil => simp [find2] at hf
    | all _ _ _ hf2 => rw [hf] at hf2; cases hf2
    | text _ _ k2 ts2 hf2 h3 => rw [hf] at hf2; cases hf2
    | dir _ _ e2 t2 ts2 hf2 hc2 hd2 h3 =>
      rw [hc] at hc2; injection hc2 with hc2; subst hc2
      exact ih h3
  | trunc l a hf hc =>
    intro us h2
    cases h2 with
    | nil => simp [find2] at hf
    | all _ _ _ hf2 => rw [hf] at hf2; cases hf2
    | text _ _ k2 ts2 hf2 h3 => rw [hf] at hf2; cases hf2
    | dir _ _ e2 t2 ts2 hf2 hc2 => rw [hc] at hc2; cases hc2
  | bad l a e c hf hc hd =>
    intro us h2
    cases h2 with
    | nil => simp [find2] at hf
    | all _ _ _ hf2 => rw [hf] at hf2; cases hf2
    | text _ _ k2 ts2 hf2 h3 => rw [hf] at hf2; cases hf2
    | dir _ _ e2 t2 ts2 hf2 hc2 hd2 =>
      rw [hc] at hc2; injection hc2 with hc2; subst hc2
      rw [hd] at hd2; cases hd2
theorem er_fun {l : List UInt8} {a b c : Nat} (h : Er l a b c) : ∀ {b2 c2 : Nat}, Er l a b2 c2 → b = b2 ∧ c = c2 := by
  induction h with
  | text l a k b c hf _ ih =>
    intro b2 c2 h2
    cases h2 with
    | text _ _ k2 _ _ hf2 h3 =>
      rw [hf] at hf2
      simp only [Option.some.injEq, Nat.add_right_cancel_iff] at hf2
      subst hf2
      exact ih h3
    | dir _ _ e t _ _ hf2 => rw [hf] at hf2; cases hf2
    | trunc _ _ hf2 => rw [hf] at hf2; cases hf2
    | bad _ _ e _ hf2 => rw [hf] at hf2; cases hf2
  | dir l a e t b c hf hc hd _ ih =>
    intro b2 c2 h2
    cases h2 with
    | text _ _ k2 _ _ hf2 h3 => rw [hf] at hf2; cases hf2
    | dir _ _ e2 t2 _ _ hf2 hc2 hd2 h3 =>
      rw [hc] at hc2; injection hc2 with hc2; subst hc2
      exact ih h3
    | trunc _ _ hf2 hc2 => rw [hc] at hc2; cases hc2
    | bad _ _ e2 _ hf2 hc2 hd2 =>
      rw [hc] at hc2; injection hc2 with hc2; subst hc2
      rw [hd] at hd2; cases hd2
  | trunc l a hf hc =>
    intro b2 c2 h2
    cases h2 with
    | text _ _ k2 _ _ hf2 h3 => rw [hf] at hf2; cases hf2
    | dir _ _ e2 t2 _ _ hf2 hc2 hd2 h3 => rw [hc] at hc2; cases hc2
    | trunc _ _ hf2 hc2 => exact ⟨rfl, rfl⟩
    | bad _ _ e2 _ hf2 hc2 hd2 => rw [hc] at hc2; cases hc2
  | bad l a e c hf hc hd =>
    intro b2 c2 h2
    cases h2 with
    | text _ _ k2 _ _ hf2 h3 => rw [hf] at hf2; cases hf2
    | dir _ _ e2 t2 _ _ hf2 hc2 hd2 h3 =>
      rw [hc] at hc2; injection hc2 with hc2; subst hc2
      rw [hd] at hd2; cases hd2
    | trunc _ _ hf2 hc2 => rw [hc] at hc2; cases hc2
    | bad _ _ e2 _ hf2 hc2 hd2 =>
      rw [hc] at hc2; injection hc2 with hc2; subst hc2
      rw [hd] at hd2; injection hd2 with hd2
      exact ⟨rfl, hd2⟩

/-! ### Other offsets -/
def shift (d : Nat) (t : Tok) : Tok := { t with a := t.a + d }
theorem lx_shift {l : List UInt8} {a : Nat} {ts : List Tok} (h : Lx l a ts) (d : Nat) : Lx l (a + d) (ts.map (shift d)) := by
  induction h with
  | nil a => exact Lx.nil _
  | all l a hl hf => exact Lx.all l (a + d) hl hf
  | text l a k ts hf _ ih =>
    refine Lx.text l (a + d) k _ hf ?_
    rw [show a + d + (k + 1) = a + (k + 1) + d by omega]
    exact ih
  | dir l a e t ts hf hc hd _ ih =>
    refine Lx.dir l (a + d) e t _ hf hc hd ?_
    rw [show a + d + (e + 4) = a + (e + 4) + d by omega]
    exact ih
/-- What tokens are like. -/
def Good (t : Tok) : Prop := (t.k = 0 → t.p = [] ∧ t.h = false ∧ t.s ≠ []) ∧ (t.k ≠ 0 → t.k ≤ 8 ∧ (t.s ≠ [] ↔ t.k = 4 ∨ t.k = 6)) ∧ (t.h = false → t.p = [])
theorem dir_path {ws : List (List UInt8)} {t : Tok} (h : dirOf ws = .ok t) : t.h = false → t.p = [] := by
  unfold dirOf at h
  cases hf : formW ws with
  | none => rw [hf] at h; cases h
  | some r =>
    obtain ⟨k, n, p⟩ := r
    rw [hf] at h
    dsimp only at h
    split at h
    · injection h with h
      subst h
      intro h1
      cases p with
      | none => rfl
      | some q => cases h1
    · cases h
theorem lx_good {l : List UInt8} {a : Nat} {ts : List Tok} (h : Lx l a ts) : ∀ t ∈ ts, Good t ∧ t.s.length ≤ l.length ∧ t.p.length ≤ l.length ∧ t.a < a + l.length := by
  induction h with
  | nil a => simp
  | all l a hl hf =>
    intro t ht
    simp at ht; subst ht
    have : 0 < l.length := List.length_pos_iff.2 hl
    exact ⟨⟨fun _ => ⟨rfl, rfl, hl⟩, fun h => absurd rfl h, fun _ => rfl⟩, Nat.le_refl _, Nat.zero_le _, by simp [text]; omega⟩
  | text l a k ts hf _ ih =>
    have := find2_lt hf
    intro t ht
    rcases List.mem_cons.1 ht with rfl | ht
    · refine ⟨⟨fun _ => ⟨rfl, rfl, ?_⟩, fun h => absurd rfl h, fun _ => rfl⟩, by simp [text]; omega, by simp [text], by simp [text]; omega⟩
      intro h0
      have h9 := congrArg List.length h0
      simp only [text, List.length_take, List.length_nil] at h9
      omega
    · obtain ⟨h1, h2, h3, h4⟩ := ih t ht
      rw [List.length_drop] at h2 h3 h4
      exact ⟨h1, by omega, by omega, by omega⟩
  | dir l a e t ts hf hc hd _ ih =>
    have hl := find2_lt hf
    have he := find2_lt hc
    rw [List.length_drop] at he
    intro u hu
    rcases List.mem_cons.1 hu with rfl | hu
    · obtain ⟨h1, h2, h3, h4, _⟩ := dir_good hd dir_words
      refine ⟨⟨fun h => absurd h h1, fun _ => ⟨h2, h3⟩, fun h => dir_path (t := t) hd h⟩, ?_, ?_, by dsimp only; omega⟩
      · dsimp only
        by_cases h5 : t.s = []
        · rw [h5]; exact Nat.zero_le _
        · have hm : t.s ∈ words ((l.drop 2).take e) := by rw [← h4]; simp [fmtW, h5]
          have hw := words_len ((l.drop 2).take e)
          have : t.s.length ≤ (jn (words ((l.drop 2).take e))).length := by
            revert hm
            generalize words ((l.drop 2).take e) = ws
            intro hm
            clear hw h4 hd
            induction ws with
            | nil => cases hm
            | cons w ws ihw =>
              rw [jn_cons_len]
              rcases List.mem_cons.1 hm with h6 | h6
              · subst h6; omega
              · have := ihw h6
                rw [if_neg (by intro h7; subst h7; cases h6)]; omega
          rw [List.length_take, List.length_drop] at hw
          omega
      · dsimp only
        cases h5 : t.h with
        | false => rw [dir_path hd h5]; exact Nat.zero_le _
        | true =>
          have hm : 46 :: t.p ∈ words ((l.drop 2).take e) := by rw [← h4]; simp [fmtW, h5]
          have hw := words_len ((l.drop 2).take e)
          have : (46 :: t.p).length ≤ (jn (words ((l.drop 2).take e))).length := by
            revert hm
            generalize words ((l.drop 2).take e) = ws
            intro hm
            clear hw h4 hd
            induction ws with
            | nil => cases hm
            | cons w ws ihw =>
              rw [jn_cons_len]
              rcases List.mem_cons.1 hm with h6 | h6
              · subst h6; omega
              · have := ihw h6
                rw [if_neg (by intro h7; subst h7; cases h6)]; omega
          rw [List.length_take, List.length_drop] at hw
          rw [List.length_cons] at this
          omega
    · obtain ⟨h1, h2, h3, h4⟩ := ih u hu
      rw [List.length_drop] at h2 h3 h4
      exact ⟨h1, by omega, by omega, by omega⟩
theorem lx_count {l : List UInt8} {a : Nat} {ts : List Tok} (h : Lx l a ts) : ts.length ≤ l.length := by
  induction h with
  | nil a => simp
  | all l a hl hf => have : 0 < l.length := List.length_pos_iff.2 hl; simp; omega
  | text l a k ts hf _ ih => have := find2_lt hf; rw [List.length_drop] at ih; simp; omega
  | dir l a e t ts hf hc hd _ ih => have := find2_lt hf; rw [List.length_drop] at ih; simp; omega
theorem lx_empty {l : List UInt8} {a : Nat} {ts : List Tok} (h : Lx l a ts) : ts = [] ↔ l = [] := by
  cases h with
  | nil => simp
  | all _ _ h => simp [h]
  | text _ _ k ts hf => have := find2_lt hf; simp; rintro rfl; simp at this
  | dir _ _ e t ts hf => have := find2_lt hf; simp; rintro rfl; simp at this
/-- The canonical sources are not longer. -/
theorem fmts_cons (t : Tok) (ts : List Tok) : fmts (t :: ts) = fmt t ++ fmts ts := rfl
theorem fmts_nil : fmts [] = [] := rfl
theorem fmts_append (ts us : List Tok) : fmts (ts ++ us) = fmts ts ++ fmts us := by simp [fmts]
theorem fmt_dir {ws : List (List UInt8)} {t : Tok} (h : dirOf ws = .ok t) (hw : ∀ w ∈ ws, Wd w) (a : Nat) : fmt { t with a := a } = 123 :: 123 :: (jn ws ++ [125, 125]) := by
  obtain ⟨h1, _, _, h4, _⟩ := dir_good h hw
  have : fmtW { t with a := a } = fmtW t := rfl
  unfold fmt
  rw [if_neg h1, this, h4]
theorem lx_len {l : List UInt8} {a : Nat} {ts : List Tok} (h : Lx l a ts) : (fmts ts).length ≤ l.length := by
  induction h with
  | nil a => simp [fmts]
  | all l a hl hf => simp [fmts, fmt, text]
  | text l a k ts hf _ ih =>
    have := find2_lt hf
    rw [List.length_drop] at ih
    rw [fmts_cons, List.length_append]
    have : (fmt (text a (l.take (k + 1)))).length = k + 1 := by simp [fmt, text]; omega
    omega
  | dir l a e t ts hf hc hd _ ih =>
    have hl := find2_lt hf
    have he := find2_lt hc
    rw [List.length_drop] at ih he
    rw [fmts_cons, fmt_dir hd dir_words, List.length_append]
    have hw := words_len ((l.drop 2).take e)
    rw [List.length_take, List.length_drop] at hw
    simp only [List.length_cons, List.length_append, List.length_nil]
    omega
/-- With the braces of the first directive at its start. -/
theorem lx_head {l : List UInt8} {a : Nat} {ts : List Tok} (h : Lx l a ts) (h0 : find2 123 l = some 0) : ∃ r, fmts ts = 123 :: 123 :: r := by
  cases h with
  | nil => simp [find2] at h0
  | all _ _ _ hf => rw [h0] at hf; cases hf
  | text _ _ k ts hf => rw [h0] at hf; cases hf
  | dir _ _ e t ts hf hc hd =>
    rw [fmts_cons, fmt_dir hd dir_words]
    exact ⟨_, rfl⟩
theorem find2_start {c : UInt8} {l : List UInt8} : find2 c (c :: c :: l) = some 0 := by simp [find2]
theorem find2_drop {c : UInt8} {l : List UInt8} {i : Nat} (h : find2 c l = some i) : find2 c (l.drop i) = some 0 := by
  obtain ⟨h1, h2⟩ := find2_some.1 h
  refine find2_some.2 ⟨?_, fun j hj => absurd hj (Nat.not_lt_zero _)⟩
  unfold BB at h1 ⊢
  rw [List.getElem?_drop, List.getElem?_drop]
  simpa using h1
/-- The same tokens, with other offsets. -/
theorem round_trip {l : List UInt8} {a : Nat} {ts : List Tok} (h : Lx l a ts) : ∀ b, ∃ us, Lx (fmts ts) b us ∧ us.map (fun t => { t with a := 0 }) = ts.map (fun t => { t with a := 0 }) := by
  induction h with
  | nil a => exact fun b => ⟨[], Lx.nil b, rfl⟩
  | all l a hl hf =>
    intro b
    have : fmts [text a l] = l := by simp [fmts, fmt, text]
    rw [this]
    exact ⟨_, Lx.all l b hl hf, rfl⟩
  | text l a k ts hf hx ih =>
    intro b
    obtain ⟨us, h1, h2⟩ := ih (b + (k + 1))
    obtain ⟨r, hr⟩ := lx_head hx (find2_drop hf)
    obtain ⟨b1, b2⟩ := find2_some.1 hf
    have hk := find2_lt hf
    have e : fmts (text a (l.take (k + 1)) :: ts) = l.take (k + 1) ++ fmts ts := by simp [fmts_cons, fmt, text]
    have hlen : (l.take (k + 1)).length = k + 1 := by rw [List.length_take]; omega
    have hf2 : find2 123 (l.take (k + 1) ++ fmts ts) = some (k + 1) := by
      refine find2_some.2 ⟨?_, fun j hj hb => b2 j hj ?_⟩
      · unfold BB
        rw [List.getElem?_append_right (by omega), List.getElem?_append_right (by omega), hr, hlen]
        simp
      · unfold BB at hb ⊢
        obtain ⟨c1, c2⟩ := hb
        rw [List.getElem?_append_left (by omega), List.getElem?_take, if_pos hj] at c1
        refine ⟨c1, ?_⟩
        by_cases e : j = k
        · subst e; exact b1.1
        · rw [List.getElem?_append_left (by omega), List.getElem?_take, if_pos (by omega)] at c2
          exact c2
    refine ⟨text b (l.take (k + 1)) :: us, ?_, by rw [List.map_cons, List.map_cons, h2]; rfl⟩
    rw [e]
    have e1 : (l.take (k + 1) ++ fmts ts).take (k + 1) = l.take (k + 1) := by rw [List.take_append_of_le_length (by omega), List.take_take, Nat.min_self]
    have e2 : (l.take (k + 1) ++ fmts ts).drop (k + 1) = fmts ts := by rw [List.drop_append, hlen, Nat.sub_self, List.drop_of_length_le (by omega)]; rfl
    have := Lx.text (l.take (k + 1) ++ fmts ts) b k us hf2 (by rw [e2]; exact h1)
    rw [e1] at this
    exact this
  | dir l a e t ts hf hc hd hx ih =>
    intro b
    have hws : ∀ w ∈ words ((l.drop 2).take e), Wd w := dir_words
    generalize hws' : words ((l.drop 2).take e) = ws at hws hd
    obtain ⟨us, h1, h2⟩ := ih (b + ((jn ws).length + 4))
    have hb := dir_brace hd hws
    have hj : ∀ c ∈ jn ws, c ≠ 125 := fun c hc => by
      rcases jn_mem hc with h3 | ⟨w, h3, h4⟩
      · subst h3; decide
      · exact hb w h3 c h4
    have ef : fmts ({ t with a := a } :: ts) = 123 :: 123 :: (jn ws ++ 125 :: 125 :: fmts ts) := by rw [fmts_cons, fmt_dir hd hws]; simp
    have hc2 : find2 125 (jn ws ++ 125 :: 125 :: fmts ts) = some (jn ws).length := by
      refine find2_some.2 ⟨?_, fun j hjl hbb => ?_⟩
      · unfold BB
        rw [List.getElem?_append_right (Nat.le_refl _), List.getElem?_append_right (by omega)]
        simp
      · unfold BB at hbb
        obtain ⟨c1, _⟩ := hbb
        rw [List.getElem?_append_left hjl] at c1
        exact hj 125 (List.mem_of_getElem? c1) rfl
    refine ⟨{ t with a := b } :: us, ?_, by rw [List.map_cons, List.map_cons, h2]⟩
    rw [ef]
    have e1 : ((123 :: 123 :: (jn ws ++ 125 :: 125 :: fmts ts)).drop 2).take (jn ws).length = jn ws := by simp
    have e2 : (123 :: 123 :: (jn ws ++ 125 :: 125 :: fmts ts)).drop ((jn ws).length + 4) = fmts ts := by
      rw [show (jn ws).length + 4 = (jn ws).length + 2 + 1 + 1 by omega, List.drop_succ_cons, List.drop_succ_cons, List.drop_append, List.drop_of_length_le (by omega)]
      rw [show (jn ws).length + 2 - (jn ws).length = 2 by omega]
      rfl
    have := Lx.dir (123 :: 123 :: (jn ws ++ 125 :: 125 :: fmts ts)) b (jn ws).length t us find2_start (by simpa using hc2) (by rw [e1, words_jn hws]; exact hd) (by rw [e2]; exact h1)
    exact this
/-- No braces: one text. -/
theorem lx_text {l : List UInt8} (h : ∀ j, ¬ BB 123 l j) (a : Nat) : Lx l a (if l = [] then [] else [text a l]) := by
  split
  · rename_i h0; subst h0; exact Lx.nil a
  · rename_i h0; exact Lx.all l a h0 (find2_none.2 h)

/-! ### Offsets -/
/-- What the law asks of the tokens behind a token. -/
def OffOk (src : List UInt8) : Option Tok → List Tok → Prop
  | _, [] => True
  | prev, t :: ts => (match prev with | none => t.a = 0 | some q => q.a < t.a ∧ ¬ (t.k = 0 ∧ q.k = 0)) ∧ t.a < src.length ∧
    (t.k = 0 → t.s.length ≤ src.length - t.a ∧ (src.drop t.a).take t.s.length = t.s) ∧ (t.k ≠ 0 → src[t.a]? = some 123) ∧ OffOk src (some t) ts
theorem off_at {src : List UInt8} : ∀ {ts : List Tok} {prev : Option Tok}, OffOk src prev ts → ∀ {i : Nat} {t : Tok}, ts[i]? = some t →
    (i = 0 → prev = none → t.a = 0) ∧ (∀ q, (0 < i → ts[i - 1]? = some q) → 0 < i → q.a < t.a ∧ ¬ (t.k = 0 ∧ q.k = 0)) ∧ t.a < src.length ∧ (t.k = 0 → t.s.length ≤ src.length - t.a ∧ (src.drop t.a).take t.s.length = t.s) ∧ (t.k ≠ 0 → src[t.a]? = some 123)
  | [], prev, h, i, t, hi => by simp at hi
  | u :: ts, prev, h, 0, t, hi => by
    simp at hi; subst hi
    obtain ⟨h1, h2, h3, h4, _⟩ := h
    exact ⟨fun _ hp => by subst hp; exact h1, fun q _ hp => absurd hp (Nat.lt_irrefl _), h2, h3, h4⟩
  | u :: ts, prev, h, i + 1, t, hi => by
    obtain ⟨h1, h2, h3, h4, h5⟩ := h
    have hi' : ts[i]? = some t := by simpa using hi
    obtain ⟨g1, g2, g3, g4, g5⟩ := off_at h5 hi'
    refine ⟨fun h => absurd h (by omega), fun q hq _ => ?_, g3, g4, g5⟩
    have hq := hq (by omega)
    cases i with
    | zero =>
      simp at hq hi'
      subst hq
      cases ts with
      | nil => simp at hi'
      | cons v ts => simp at hi'; subst hi'; exact h5.1
    | succ i => exact g2 q (fun _ => by simpa using hq) (by omega)
theorem lx_off {src l : List UInt8} {a : Nat} {ts : List Tok} (h : Lx l a ts) : ∀ prev : Option Tok, l = src.drop a → a ≤ src.length → (match prev with | none => a = 0 | some q => q.a < a ∧ (q.k = 0 → l = [] ∨ find2 123 l = some 0)) → OffOk src prev ts := by
  induction h with
  | nil a => intros; trivial
  | all l a hl hf =>
    intro prev hs ha hp
    have hlen : l.length = src.length - a := by rw [hs, List.length_drop]
    have h0 : 0 < l.length := List.length_pos_iff.2 hl
    refine ⟨?_, by simp [text]; omega, fun _ => ⟨by simp [text]; omega, by simp [text]; rw [← hs, List.take_length]⟩, fun h => absurd rfl h, trivial⟩
    cases prev with
    | none => exact hp
    | some q =>
      refine ⟨hp.1, fun h => ?_⟩
      rcases hp.2 h.2 with h1 | h1
      · exact hl h1
      · rw [hf] at h1; cases h1
  | text l a k ts hf _ ih =>
    intro prev hs ha hp
    have hlen : l.length = src.length - a := by rw [hs, List.length_drop]
    have hk := find2_lt hf
    refine ⟨?_, by simp [text]; omega, fun _ => ⟨by simp [text]; omega, ?_⟩, fun h => absurd rfl h, ih _ (by rw [hs, List.drop_drop]) (by omega) ?_⟩
    · cases prev with
      | none => exact hp
      | some q =>
        refine ⟨hp.1, fun h => ?_⟩
        rcases hp.2 h.2 with h1 | h1
        · subst h1; simp at hk
        · rw [hf] at h1; cases h1
    · simp only [text]
      rw [← hs, List.length_take, Nat.min_eq_left (by omega)]
    · exact ⟨by simp [text], fun _ => .inr (find2_drop hf)⟩
  | dir l a e t ts hf hc hd _ ih =>
    intro prev hs ha hp
    have hlen : l.length = src.length - a := by rw [hs, List.length_drop]
    have hk := find2_lt hf
    have he := find2_lt hc
    rw [List.length_drop] at he
    obtain ⟨h1, _⟩ := dir_good hd dir_words
    refine ⟨?_, by dsimp only; omega, fun h => absurd h h1, fun _ => ?_, ih _ (by rw [hs, List.drop_drop]) (by omega) ⟨by dsimp only; omega, fun h => absurd h h1⟩⟩
    · cases prev with
      | none => exact hp
      | some q => exact ⟨hp.1, fun h => absurd h.1 h1⟩
    · have := (find2_some.1 hf).1.1
      rw [hs, List.getElem?_drop] at this
      simpa using this

/-! ### Two sources in sequence -/
def mergeT (l m : List Tok) : List Tok :=
  match l.getLast?, m with
  | some q, t :: m' => if q.k = 0 ∧ t.k = 0 then l.dropLast ++ { q with s := q.s ++ t.s } :: m' else l ++ m
  | _, _ => l ++ m
theorem merge_nil (m : List Tok) : mergeT [] m = m := by simp [mergeT]
theorem merge_none (l : List Tok) : mergeT l [] = l := by unfold mergeT; split <;> simp_all
theorem merge_cons {t : Tok} {ts m : List Tok} (h : t.k ≠ 0 ∨ ts ≠ []) : mergeT (t :: ts) m = t :: mergeT ts m := by
  cases ts with
  | nil =>
    have : t.k ≠ 0 := by rcases h with h | h; exact h; exact absurd rfl h
    rw [merge_nil]
    unfold mergeT
    cases m with
    | nil => rfl
    | cons u m => simp [this]
  | cons u ts =>
    unfold mergeT
    rw [List.getLast?_cons_cons]
    cases m with
    | nil => simp
    | cons v m =>
      cases hl : (u :: ts).getLast? with
      | none => simp at hl
      | some q =>
        dsimp only
        split
        · simp
        · rfl
theorem find2_append_some {c : UInt8} {x : List UInt8} {i : Nat} (h : find2 c x = some i) (y : List UInt8) : find2 c (x ++ y) = some i := by
  have hl := find2_lt h
  obtain ⟨h1, h2⟩ := find2_some.1 h
  refine find2_some.2 ⟨?_, fun j hj hb => h2 j hj ?_⟩
  · unfold BB at h1 ⊢
    rw [List.getElem?_append_left (by omega), List.getElem?_append_left (by omega)]
    exact h1
  · unfold BB at hb ⊢
    rw [List.getElem?_append_left (by omega), List.getElem?_append_left (by omega)] at hb
    exact hb
theorem find2_append {c : UInt8} {x : List UInt8} (h : find2 c x = none) (hl : x.getLast? ≠ some c) (y : List UInt8) : find2 c (x ++ y) = (find2 c y).map (x.length + ·) := by
  have hn := find2_none.1 h
  have hlast : ∀ j, j < x.length → ¬ BB c (x ++ y) j := by
    intro j hj hb
    unfold BB at hb
    rw [List.getElem?_append_left hj] at hb
    by_cases e : j + 1 < x.length
    · rw [List.getElem?_append_left e] at hb
      exact hn j hb
    · apply hl
      rw [List.getLast?_eq_getElem?, show x.length - 1 = j by omega]
      exact hb.1
  have hsh : ∀ j, BB c (x ++ y) (x.length + j) ↔ BB c y j := by
    intro j
    unfold BB
    rw [List.getElem?_append_right (by omega), List.getElem?_append_right (by omega), show x.length + j - x.length = j by omega, show x.length + j + 1 - x.length = j + 1 by omega]
  cases hy : find2 c y with
  | none =>
    rw [Option.map_none, find2_none]
    intro j hb
    by_cases hj : j < x.length
    · exact hlast j hj hb
    · rw [show j = x.length + (j - x.length) by omega, hsh] at hb
      exact find2_none.1 hy _ hb
  | some i =>
    obtain ⟨h1, h2⟩ := find2_some.1 hy
    rw [Option.map_some, find2_some]
    refine ⟨(hsh i).2 h1, fun j hj hb => ?_⟩
    by_cases hj2 : j < x.length
    · exact hlast j hj2 hb
    · rw [show j = x.length + (j - x.length) by omega, hsh] at hb
      exact h2 _ (by omega) hb
theorem last_drop {c : UInt8} {x : List UInt8} (h : x.getLast? ≠ some c) (n : Nat) : (x.drop n).getLast? ≠ some c := by
  rw [List.getLast?_drop]
  split
  · simp
  · exact h
theorem lx_append {x : List UInt8} {a : Nat} {l : List Tok} (h : Lx x a l) : x.getLast? ≠ some 123 → ∀ {y : List UInt8} {m : List Tok}, Lx y (a + x.length) m → Lx (x ++ y) a (mergeT l m) := by
  induction h with
  | nil a => intro _ y m hm; rw [merge_nil]; exact hm
  | all x a hx hf =>
    intro hl y m hm
    have hlen : 0 < x.length := List.length_pos_iff.2 hx
    have hf2 := find2_append hf hl y
    cases hm with
    | nil => rw [List.append_nil, merge_none]; exact Lx.all x a hx hf
    | all _ _ hy hfy =>
      rw [hfy] at hf2
      exact Lx.all (x ++ y) a (by simp [hx]) hf2
    | text _ _ k ts hfy hy =>
      rw [hfy] at hf2
      have e : x.length + (k + 1) = x.length + k + 1 := by omega
      have e1 : (x ++ y).take (x.length + k + 1) = x ++ y.take (k + 1) := by rw [List.take_append, List.take_of_length_le (by omega)]; congr 2; omega
      have e2 : (x ++ y).drop (x.length + k + 1) = y.drop (k + 1) := by rw [List.drop_append, List.drop_of_length_le (by omega)]; simp; congr 1; omega
      have := Lx.text (x ++ y) a (x.length + k) ts (by rw [hf2]; simp; omega) (by rw [e2, show a + (x.length + k + 1) = a + x.length + (k + 1) by omega]; exact hy)
      rw [e1] at this
      exact this
    | dir _ _ e t ts hfy hc hd hy =>
      rw [hfy] at hf2
      obtain ⟨h1, _⟩ := dir_good hd dir_words
      have hm2 : Lx y (a + x.length) ({ t with a := a + x.length } :: ts) := Lx.dir y _ e t ts hfy hc hd hy
      obtain ⟨n, hn⟩ : ∃ n, x.length = n + 1 := ⟨x.length - 1, by omega⟩
      have := Lx.text (x ++ y) a n ({ t with a := a + x.length } :: ts) (by rw [hf2]; simp; omega) (by rw [← hn, List.drop_append, List.drop_of_length_le (by omega)]; simpa using hm2)
      rw [← hn, List.take_append, List.take_of_length_le (Nat.le_refl _), Nat.sub_self, List.take_zero, List.append_nil] at this
      have e3 : mergeT [text a x] ({ t with a := a + x.length } :: ts) = [text a x] ++ { t with a := a + x.length } :: ts := by
        simp [mergeT, text, h1]
      rw [e3]
      exact this
  | text x a k ts hf hx ih =>
    intro hl y m hm
    have hk := find2_lt hf
    have hne : ts ≠ [] := by
      intro h0
      have := (lx_empty hx).1 h0
      have := congrArg List.length this
      simp at this; omega
    rw [merge_cons (.inr hne)]
    have e1 : (x ++ y).take (k + 1) = x.take (k + 1) := List.take_append_of_le_length (by omega)
    have e2 : (x ++ y).drop (k + 1) = x.drop (k + 1) ++ y := List.drop_append_of_le_length (by omega)
    have := Lx.text (x ++ y) a k (mergeT ts m) (find2_append_some hf y) (by
      rw [e2]
      refine ih (last_drop hl _) ?_
      rw [List.length_drop, show a + (k + 1) + (x.length - (k + 1)) = a + x.length by omega]
      exact hm)
    rw [e1] at this
    exact this
  | dir x a e t ts hf hc hd hx ih =>
    intro hl y m hm
    have hk := find2_lt hf
    have he := find2_lt hc
    rw [List.length_drop] at he
    obtain ⟨h1, _⟩ := dir_good hd dir_words
    rw [merge_cons (t := { t with a := a }) (.inl h1)]
    have e0 : (x ++ y).drop 2 = x.drop 2 ++ y := List.drop_append_of_le_length (by omega)
    have e1 : ((x ++ y).drop 2).take e = (x.drop 2).take e := by rw [e0]; exact List.take_append_of_le_length (by rw [List.length_drop]; omega)
    have e2 : (x ++ y).drop (e + 4) = x.drop (e + 4) ++ y := List.drop_append_of_le_length (by omega)
    refine Lx.dir (x ++ y) a e t (mergeT ts m) (find2_append_some hf y) (by rw [e0]; exact find2_append_some hc y) (by rw [e1]; exact hd) ?_
    rw [e2]
    refine ih (last_drop hl _) ?_
    rw [List.length_drop, show a + (e + 4) + (x.length - (e + 4)) = a + x.length by omega]
    exact hm
end Go.Proofs.Yteclclidibmajaa

namespace Go.Proofs.Yteclclidibmajaa
set_option linter.unusedVariables false
set_option linter.unusedSimpArgs false

/-- The forms that the map holds. -/
def mapW (fs : List (List UInt8)) : Option Nat :=
  if fs = [[102, 108, 117, 115, 104]] then some 5 else if fs = [[99, 97, 108, 108], [110, 97, 109, 101], [46]] then some 4 else if fs = [[99, 97, 108, 108], [110, 97, 109, 101]] then some 4 else
  if fs = [[100, 101, 102, 105, 110, 101], [110, 97, 109, 101]] then some 6 else if fs = [[101, 110, 100]] then some 8 else if fs = [[114, 97, 110, 103, 101], [46]] then some 3 else
  if fs = [[101, 108, 115, 101]] then some 7 else if fs = [[105, 102], [46]] then some 2 else if fs = [[46]] then some 1 else none
def kindN (k : ByteArray) : Option Nat :=
  if k = ⟨#[102, 108, 117, 115, 104]⟩ then some 5 else if k = ⟨#[99, 97, 108, 108, 32, 110, 97, 109, 101, 32, 46]⟩ then some 4 else if k = ⟨#[99, 97, 108, 108, 32, 110, 97, 109, 101]⟩ then some 4 else
  if k = ⟨#[100, 101, 102, 105, 110, 101, 32, 110, 97, 109, 101]⟩ then some 6 else if k = ⟨#[101, 110, 100]⟩ then some 8 else if k = ⟨#[114, 97, 110, 103, 101, 32, 46]⟩ then some 3 else
  if k = ⟨#[101, 108, 115, 101]⟩ then some 7 else if k = ⟨#[105, 102, 32, 46]⟩ then some 2 else if k = ⟨#[46]⟩ then some 1 else none
theorem ofL_inj {a b : List UInt8} (h : ofL a = ofL b) : a = b := by
  have := congrArg toL h
  rwa [toL_ofL, toL_ofL] at this
theorem key_iff {fs lit : List (List UInt8)} (hf : ∀ w ∈ fs, Wd w) (hl : lit.all (fun w => decide (w ≠ []) && w.all (· != 32)) = true) {k : ByteArray} (hk : k = ofL (jn lit)) : (ofL (jn fs) = k) = (fs = lit) := by
  subst hk
  have hl' : ∀ w ∈ lit, Wd w := by
    intro w hw
    have := List.all_eq_true.1 hl w hw
    simp only [Bool.and_eq_true, decide_eq_true_eq] at this
    exact ⟨this.1, fun c hc => by simpa using List.all_eq_true.1 this.2 c hc⟩
  exact propext ⟨fun h => jn_inj hf hl' (ofL_inj h), fun h => by rw [h]⟩
theorem kindN_jn {fs : List (List UInt8)} (hf : ∀ w ∈ fs, Wd w) : kindN (ofL (jn fs)) = mapW fs := by
  unfold kindN mapW
  have e0 : (ofL (jn fs) = ⟨#[102, 108, 117, 115, 104]⟩) = (fs = [[102, 108, 117, 115, 104]]) := key_iff hf (by decide) rfl
  have e1 : (ofL (jn fs) = ⟨#[99, 97, 108, 108, 32, 110, 97, 109, 101, 32, 46]⟩) = (fs = [[99, 97, 108, 108], [110, 97, 109, 101], [46]]) := key_iff hf (by decide) rfl
  have e2 : (ofL (jn fs) = ⟨#[99, 97, 108, 108, 32, 110, 97, 109, 101]⟩) = (fs = [[99, 97, 108, 108], [110, 97, 109, 101]]) := key_iff hf (by decide) rfl
  have e3 : (ofL (jn fs) = ⟨#[100, 101, 102, 105, 110, 101, 32, 110, 97, 109, 101]⟩) = (fs = [[100, 101, 102, 105, 110, 101], [110, 97, 109, 101]]) := key_iff hf (by decide) rfl
  have e4 : (ofL (jn fs) = ⟨#[101, 110, 100]⟩) = (fs = [[101, 110, 100]]) := key_iff hf (by decide) rfl
  have e5 : (ofL (jn fs) = ⟨#[114, 97, 110, 103, 101, 32, 46]⟩) = (fs = [[114, 97, 110, 103, 101], [46]]) := key_iff hf (by decide) rfl
  have e6 : (ofL (jn fs) = ⟨#[101, 108, 115, 101]⟩) = (fs = [[101, 108, 115, 101]]) := key_iff hf (by decide) rfl
  have e7 : (ofL (jn fs) = ⟨#[105, 102, 32, 46]⟩) = (fs = [[105, 102], [46]]) := key_iff hf (by decide) rfl
  have e8 : (ofL (jn fs) = ⟨#[46]⟩) = (fs = [[46]]) := key_iff hf (by decide) rfl
  simp only [e0, e1, e2, e3, e4, e5, e6, e7, e8]
/-- A word's place in the form. -/
def fw (first : Bool) (w : List UInt8) : List UInt8 := if isP w then [46] else if first then w else [110, 97, 109, 101]
def formL : List (List UInt8) → List (List UInt8)
  | [] => []
  | w :: r => fw true w :: r.map (fw false)
theorem fw_wd {b : Bool} {w : List UInt8} (h : Wd w) : Wd (fw b w) := by
  unfold fw
  split
  · exact ⟨by simp, by intro c hc; simp at hc; subst hc; decide⟩
  · split
    · exact h
    · exact ⟨by simp, by intro c hc; simp at hc; rcases hc with rfl | rfl | rfl | rfl <;> decide⟩
theorem formL_wd {ws : List (List UInt8)} (h : ∀ w ∈ ws, Wd w) : ∀ w ∈ formL ws, Wd w := by
  cases ws with
  | nil => intro w hw; cases hw
  | cons x r =>
    intro w hw
    rcases List.mem_cons.1 hw with rfl | hw
    · exact fw_wd (h x (by simp))
    · obtain ⟨y, hy, rfl⟩ := List.mem_map.1 hw
      exact fw_wd (h y (by simp [hy]))
theorem formL_len (ws : List (List UInt8)) : (formL ws).length = ws.length := by cases ws <;> simp [formL]
theorem formL_at {ws : List (List UInt8)} {i : Nat} {w : List UInt8} (h : ws[i]? = some w) : (formL ws)[i]? = some (fw (decide (i = 0)) w) := by
  cases ws with
  | nil => simp at h
  | cons x r =>
    cases i with
    | zero => simp at h; subst h; simp [formL]
    | succ i => simp at h; simp [formL, h]
theorem jn_le : ∀ {ws : List (List UInt8)} {B : Nat}, (∀ w ∈ ws, w.length ≤ B) → (jn ws).length ≤ ws.length * (B + 1)
  | [], B, _ => by simp [jn]
  | w :: ws, B, h => by
    have h1 := h w (by simp)
    have h2 := jn_le (ws := ws) (B := B) fun x hx => h x (by simp [hx])
    rw [jn_cons_len, List.length_cons, Nat.add_mul, Nat.one_mul]
    split <;> omega
theorem fw_le {b : Bool} {w : List UInt8} {B : Nat} (h : w.length ≤ B) : (fw b w).length ≤ B + 4 := by
  unfold fw
  split
  · simp
  · split
    · omega
    · simp
theorem formL_le {ws : List (List UInt8)} {B : Nat} (h : ∀ w ∈ ws, w.length ≤ B) : ∀ w ∈ formL ws, w.length ≤ B + 4 := by
  intro w hw
  obtain ⟨i, hi, rfl⟩ := List.getElem_of_mem hw
  rw [formL_len] at hi
  have := formL_at (List.getElem?_eq_getElem hi)
  rw [List.getElem?_eq_getElem (by rw [formL_len]; exact hi)] at this
  injection this with this
  rw [this]
  exact fw_le (h _ (List.getElem_mem hi))
theorem kw_cases (w : List UInt8) : w = [105, 102] ∨ w = [114, 97, 110, 103, 101] ∨ w = [99, 97, 108, 108] ∨ w = [102, 108, 117, 115, 104] ∨ w = [100, 101, 102, 105, 110, 101] ∨ w = [101, 108, 115, 101] ∨ w = [101, 110, 100] ∨
    (isP w = true ∧ kw w = 1) ∨ (isP w = false ∧ kw w = 0 ∧ w ≠ [105, 102] ∧ w ≠ [114, 97, 110, 103, 101] ∧ w ≠ [99, 97, 108, 108] ∧ w ≠ [102, 108, 117, 115, 104] ∧ w ≠ [100, 101, 102, 105, 110, 101] ∧ w ≠ [101, 108, 115, 101] ∧ w ≠ [101, 110, 100]) := by
  by_cases h1 : w = [105, 102]; · exact .inl h1
  by_cases h2 : w = [114, 97, 110, 103, 101]; · exact .inr (.inl h2)
  by_cases h3 : w = [99, 97, 108, 108]; · exact .inr (.inr (.inl h3))
  by_cases h4 : w = [102, 108, 117, 115, 104]; · exact .inr (.inr (.inr (.inl h4)))
  by_cases h5 : w = [100, 101, 102, 105, 110, 101]; · exact .inr (.inr (.inr (.inr (.inl h5))))
  by_cases h6 : w = [101, 108, 115, 101]; · exact .inr (.inr (.inr (.inr (.inr (.inl h6)))))
  by_cases h7 : w = [101, 110, 100]; · exact .inr (.inr (.inr (.inr (.inr (.inr (.inl h7))))))
  cases hp : isP w with
  | true => exact .inr (.inr (.inr (.inr (.inr (.inr (.inr (.inl ⟨rfl, isP_kw hp⟩)))))))
  | false => exact .inr (.inr (.inr (.inr (.inr (.inr (.inr (.inr ⟨rfl, by simp [kw, h1, h2, h3, h4, h5, h6, h7, hp], h1, h2, h3, h4, h5, h6, h7⟩)))))))
theorem isP_cons (c : UInt8) (w : List UInt8) : isP (c :: w) = (c == 46) := rfl
theorem form_map (ws : List (List UInt8)) : mapW (formL ws) = (formW ws).map (·.1) := by
  match ws with
  | [] => rfl
  | [w] =>
    rcases kw_cases w with rfl | rfl | rfl | rfl | rfl | rfl | rfl | ⟨h1, h2⟩ | ⟨h1, h2, h3, h4, h5, h6, h7, h8, h9⟩
    iterate 7 rfl
    · rw [formW1]; simp [formL, fw, h1, h2, mapW]
    · rw [formW1]
      have h10 : w ≠ [46] := by rintro rfl; cases h1
      simp [formL, fw, h1, h2, mapW, h3, h4, h5, h6, h7, h8, h9, h10]
  | [w, x] =>
    rcases kw_cases w with rfl | rfl | rfl | rfl | rfl | rfl | rfl | ⟨h1, h2⟩ | ⟨h1, h2, h3, h4, h5, h6, h7, h8, h9⟩
    iterate 7 (rw [formW2]; cases hx : isP x <;> simp [formL, fw, hx, mapW, kw, isP_cons])
    · rw [formW2]; cases hx : isP x <;> simp [formL, fw, h1, h2, hx, mapW]
    · rw [formW2]; cases hx : isP x <;> simp [formL, fw, h1, h2, mapW, h3, h4, h5, h6, h7, h8, h9, hx]
  | [w, x, y] =>
    rcases kw_cases w with rfl | rfl | rfl | rfl | rfl | rfl | rfl | ⟨h1, h2⟩ | ⟨h1, h2, h3, h4, h5, h6, h7, h8, h9⟩
    iterate 7 (rw [formW3]; cases hx : isP x <;> cases hy : isP y <;> simp [formL, fw, hx, hy, mapW, kw, isP_cons])
    · rw [formW3]; cases hx : isP x <;> cases hy : isP y <;> simp [formL, fw, h1, h2, hx, hy, mapW]
    · rw [formW3]; cases hx : isP x <;> cases hy : isP y <;> simp [formL, fw, h1, h2, mapW, h3, h4, h5, h6, h7, h8, h9, hx, hy]
  | w :: x :: y :: z :: r => simp [formL, mapW, formW]

/-! ### Word by word -/
def dgo : Bool → List UInt8 × List UInt8 × Bool → List (List UInt8) → Except Nat (List UInt8 × List UInt8 × Bool)
  | _, st, [] => .ok st
  | first, (s, p, h), w :: r => if isP w then (if pathL w.tail then dgo false (s, w.tail, true) r else .error 11) else if first then dgo false (s, p, h) r else if nameL w then dgo false (w, p, h) r else .error 11
theorem kw_notP {w : List UInt8} (h : kw w ≠ 1) : isP w = false := by
  cases hp : isP w with
  | true => exact absurd (isP_kw hp) h
  | false => rfl
theorem dgo_form {ws : List (List UInt8)} {k : Nat} {n : List UInt8} {p : Option (List UInt8)} (h : formW ws = some (k, n, p)) : dgo true ([], [], false) ws = if okF k n p then .ok (n, p.getD [], p.isSome) else .error 11 := by
  match ws, h with
  | [], h => cases h
  | [w], h =>
    rw [formW1] at h
    split at h
    · rename_i h1
      simp only [Option.some.injEq, Prod.mk.injEq] at h
      obtain ⟨rfl, rfl, rfl⟩ := h
      cases hq : pathL w.tail <;> simp [dgo, kw_one h1, okF, hq]
    · rename_i h1
      split at h
      · rename_i h2
        simp only [Option.some.injEq, Prod.mk.injEq] at h
        obtain ⟨rfl, rfl, rfl⟩ := h
        have h4 : kw w ≠ 4 := by omega
        have h6 : kw w ≠ 6 := by omega
        simp [dgo, kw_notP h1, okF, h4, h6]
      · cases h
  | [w, x], h =>
    rw [formW2] at h
    split at h
    · rename_i h1
      simp only [Option.some.injEq, Prod.mk.injEq] at h
      obtain ⟨rfl, rfl, rfl⟩ := h
      have h4 : kw w ≠ 4 := by omega
      have h6 : kw w ≠ 6 := by omega
      have h0 : kw w ≠ 1 := by omega
      cases hq : pathL x.tail <;> simp [dgo, kw_notP h0, okF, h4, h6, h1.2, hq]
    · split at h
      · rename_i h1
        simp only [Option.some.injEq, Prod.mk.injEq] at h
        obtain ⟨rfl, rfl, rfl⟩ := h
        have h0 : kw w ≠ 1 := by omega
        have h46 := h1.1
        cases hq : nameL x <;> simp [dgo, kw_notP h0, okF, h1.2, hq, h46]
        all_goals rcases h46 with h46 | h46 <;> simp [h46]
      · cases h
  | [w, x, y], h =>
    rw [formW3] at h
    split at h
    · rename_i h1
      simp only [Option.some.injEq, Prod.mk.injEq] at h
      obtain ⟨rfl, rfl, rfl⟩ := h
      have h0 : kw w ≠ 1 := by omega
      cases hq : nameL x <;> cases hq2 : pathL y.tail <;> simp [dgo, kw_notP h0, okF, h1.2, hq, hq2]
    · cases h
  | _ :: _ :: _ :: _ :: _, h => cases h
theorem pathOf_isSome (s : ByteArray) : (pathOf s).isSome = pathL (toL s) := by
  unfold pathOf pathL
  by_cases h : s.size = 0
  · have : toL s = [] := List.length_eq_zero_iff.1 h
    simp [h, this]
  · have : toL s ≠ [] := fun e => h (by rw [← toL_len, e]; rfl)
    rw [if_neg h]
    by_cases h2 : (parts (toL s)).length ≤ 8 ∧ (parts (toL s)).all nameL = true
    · rw [if_pos h2]; simp [this, h2.1]; simpa using h2.2
    · rw [if_neg h2]
      rw [Bool.eq_iff_iff]
      simp only [Option.isSome_none, Bool.false_eq_true, Bool.or_eq_true, decide_eq_true_eq, Bool.and_eq_true, false_iff]
      rintro (h3 | h3)
      · exact this h3
      · exact h2 h3
end Go.Proofs.Yteclclidibmajaa
