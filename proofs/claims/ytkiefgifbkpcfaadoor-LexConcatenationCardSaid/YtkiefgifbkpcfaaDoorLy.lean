/-
  Forms of directives, tokens, the tokens of a source, as plain data. No program is imported here.
-/
import Derived.Test.YtkiefgifbkpcfaaDoorLx
namespace Go.Proofs.YtkiefgifbkpcfaaDoor
set_option linter.unusedVariables false
set_option linter.unusedSimpArgs false

/-- Does the word begin with a period? -/
def isP (w : List UInt8) : Bool := match w with | c :: _ => c == 46 | [] => false
/-- A path. -/
def pathL (q : List UInt8) : Bool := decide (q = []) || (decide ((parts q).length ≤ 8) && (parts q).all nameL)
structure Tok where
  k : Nat
  a : Nat
  s : List UInt8
  p : List UInt8
  h : Bool
  deriving DecidableEq
/-- The kind that the first word tells; 0: none. -/
def kw (w : List UInt8) : Nat :=
  if w = [105, 102] then 2 else if w = [114, 97, 110, 103, 101] then 3 else if w = [99, 97, 108, 108] then 4 else if w = [102, 108, 117, 115, 104] then 5 else
  if w = [100, 101, 102, 105, 110, 101] then 6 else if w = [101, 108, 115, 101] then 7 else if w = [101, 110, 100] then 8 else if isP w then 1 else 0
/-- The kind, the name and the path of a directive with these words. -/
def formW : List (List UInt8) → Option (Nat × List UInt8 × Option (List UInt8))
  | [] => none
  | [w] => if kw w = 1 then some (1, [], some w.tail) else if kw w = 5 ∨ kw w = 7 ∨ kw w = 8 then some (kw w, [], none) else none
  | [w, x] => if (kw w = 2 ∨ kw w = 3) ∧ isP x = true then some (kw w, [], some x.tail) else if (kw w = 4 ∨ kw w = 6) ∧ isP x = false then some (kw w, x, none) else none
  | [w, x, y] => if kw w = 4 ∧ isP x = false ∧ isP y = true then some (4, x, some y.tail) else none
  | _ => none
theorem formW1 (w : List UInt8) : formW [w] = if kw w = 1 then some (1, [], some w.tail) else if kw w = 5 ∨ kw w = 7 ∨ kw w = 8 then some (kw w, [], none) else none := rfl
theorem formW2 (w x : List UInt8) : formW [w, x] = if (kw w = 2 ∨ kw w = 3) ∧ isP x = true then some (kw w, [], some x.tail) else if (kw w = 4 ∨ kw w = 6) ∧ isP x = false then some (kw w, x, none) else none := rfl
theorem formW3 (w x y : List UInt8) : formW [w, x, y] = if kw w = 4 ∧ isP x = false ∧ isP y = true then some (4, x, some y.tail) else none := rfl
/-- Are its name and its path valid? -/
def okF (k : Nat) (n : List UInt8) (p : Option (List UInt8)) : Bool := (!(k == 4 || k == 6) || nameL n) && (match p with | some q => pathL q | none => true)
def dirOf (ws : List (List UInt8)) : Except Nat Tok :=
  match formW ws with
  | none => .error 5
  | some (k, n, p) => if okF k n p then .ok ⟨k, 0, n, p.getD [], p.isSome⟩ else .error 11

/-! ### The canonical source -/
def kwOf (k : Nat) : List (List UInt8) :=
  match k with
  | 2 => [[105, 102]]
  | 3 => [[114, 97, 110, 103, 101]]
  | 4 => [[99, 97, 108, 108]]
  | 5 => [[102, 108, 117, 115, 104]]
  | 6 => [[100, 101, 102, 105, 110, 101]]
  | 7 => [[101, 108, 115, 101]]
  | 8 => [[101, 110, 100]]
  | _ => []
def fmtW (t : Tok) : List (List UInt8) := kwOf t.k ++ (if t.s = [] then [] else [t.s]) ++ (if t.h then [46 :: t.p] else [])
def fmt (t : Tok) : List UInt8 := if t.k = 0 then t.s else 123 :: 123 :: (jn (fmtW t) ++ [125, 125])
def fmts (ts : List Tok) : List UInt8 := (ts.map fmt).flatten
theorem kw_ne {w : List UInt8} {k : Nat} (h : kw w = k) (h2 : 2 ≤ k) : kwOf k = [w] ∧ k ≤ 8 := by
  unfold kw at h
  repeat' (split at h)
  all_goals (subst h; first | (rename_i e; subst e; exact ⟨rfl, by decide⟩) | omega)
theorem isP_eq {w : List UInt8} (h : isP w = true) : w = 46 :: w.tail := by
  cases w with
  | nil => cases h
  | cons c w => simp [isP] at h; rw [h]; rfl
theorem kw_one {w : List UInt8} (h : kw w = 1) : isP w = true := by
  unfold kw at h
  repeat' (split at h)
  all_goals first | omega | assumption
theorem isP_kw {w : List UInt8} (h : isP w = true) : kw w = 1 := by
  rw [isP_eq h]
  simp [kw, isP]
/-- What a directive's token is like. -/
theorem dir_good {ws : List (List UInt8)} {t : Tok} (h : dirOf ws = .ok t) (hw : ∀ w ∈ ws, Wd w) : t.k ≠ 0 ∧ t.k ≤ 8 ∧ (t.s ≠ [] ↔ t.k = 4 ∨ t.k = 6) ∧ fmtW t = ws ∧ t.a = 0 := by
  unfold dirOf at h
  cases hf : formW ws with
  | none => rw [hf] at h; cases h
  | some r =>
    obtain ⟨k, n, p⟩ := r
    rw [hf] at h
    dsimp only at h
    split at h
    · injection h with h
      subst h
      match ws, hf, hw with
      | [], hf, _ => cases hf
      | [w], hf, hw =>
        rw [formW1] at hf
        split at hf
        · rename_i h1
          simp only [Option.some.injEq, Prod.mk.injEq] at hf
          obtain ⟨rfl, rfl, rfl⟩ := hf
          have := isP_eq (kw_one h1)
          simp [fmtW, kwOf, ← this]
        · split at hf
          · rename_i h1
            simp only [Option.some.injEq, Prod.mk.injEq] at hf
            obtain ⟨rfl, rfl, rfl⟩ := hf
            obtain ⟨h2, h3⟩ := kw_ne (w := w) rfl (by omega)
            simp [fmtW, h2]; omega
          · cases hf
      | [w, x], hf, hw =>
        rw [formW2] at hf
        split at hf
        · rename_i h1
          simp only [Option.some.injEq, Prod.mk.injEq] at hf
          obtain ⟨rfl, rfl, rfl⟩ := hf
          obtain ⟨h2, h3⟩ := kw_ne (w := w) rfl (by omega)
          have := isP_eq h1.2
          simp [fmtW, h2, ← this]; omega
        · split at hf
          · rename_i h1
            simp only [Option.some.injEq, Prod.mk.injEq] at hf
            obtain ⟨rfl, rfl, rfl⟩ := hf
            obtain ⟨h2, h3⟩ := kw_ne (w := w) rfl (by omega)
            have hx := (hw x (by simp)).1
            simp [fmtW, h2, hx]; omega
          · cases hf
      | [w, x, y], hf, hw =>
        rw [formW3] at hf
        split at hf
        · rename_i h1
          simp only [Option.some.injEq, Prod.mk.injEq] at hf
          obtain ⟨rfl, rfl, rfl⟩ := hf
          obtain ⟨h2, h3⟩ := kw_ne h1.1 (by omega)
          have hx := (hw x (by simp)).1
          have := isP_eq h1.2.2
          simp [fmtW, h2, hx, ← this]
        · cases hf
      | _ :: _ :: _ :: _ :: _, hf, _ => cases hf
    · cases h
/-- Bytes of names, of paths, of keywords. -/
theorem name_byte {n : List UInt8} (h : nameL n = true) {c : UInt8} (hc : c ∈ n) : wordB c = true := by
  cases n with
  | nil => cases hc
  | cons d n =>
    rw [nameL_cons] at h
    simp only [Bool.and_eq_true] at h
    exact List.all_eq_true.1 h.2 c hc
theorem part_byte : ∀ {q : List UInt8} {c : UInt8}, c ∈ q → c = 46 ∨ ∃ p ∈ parts q, c ∈ p
  | d :: q, c, hc => by
    by_cases hd : d = 46
    · subst hd
      rcases List.mem_cons.1 hc with h | h
      · exact .inl h
      · rcases part_byte h with h1 | ⟨p, h1, h2⟩
        · exact .inl h1
        · exact .inr ⟨p, by simp [parts, h1], h2⟩
    · obtain ⟨p, ps, h1, h2⟩ := parts_cons (l := q) hd
      rw [h2]
      rcases List.mem_cons.1 hc with h | h
      · subst h; exact .inr ⟨c :: p, by simp, by simp⟩
      · rcases part_byte h with h3 | ⟨r, h3, h4⟩
        · exact .inl h3
        · rw [h1] at h3
          rcases List.mem_cons.1 h3 with h5 | h5
          · subst h5; exact .inr ⟨d :: r, by simp, by simp [h4]⟩
          · exact .inr ⟨r, by simp [h5], h4⟩
theorem path_byte {q : List UInt8} (h : pathL q = true) {c : UInt8} (hc : c ∈ q) : c = 46 ∨ wordB c = true := by
  unfold pathL at h
  simp only [Bool.or_eq_true, Bool.and_eq_true, decide_eq_true_eq] at h
  rcases h with h | ⟨_, h⟩
  · subst h; cases hc
  · rcases part_byte hc with h1 | ⟨p, h1, h2⟩
    · exact .inl h1
    · exact .inr (name_byte (List.all_eq_true.1 h p h1) h2)
theorem word_brace {c : UInt8} (h : wordB c = true) : c ≠ 125 := by rintro rfl; revert h; decide
theorem kwOf_brace {k : Nat} {w : List UInt8} (h : w ∈ kwOf k) {c : UInt8} (hc : c ∈ w) : c ≠ 125 := by
  have H : ∀ k w, w ∈ kwOf k → w.all (· != 125) = true := by
    intro k w h
    unfold kwOf at h
    split at h
    all_goals first | (simp at h; subst h; decide) | cases h
  have := List.all_eq_true.1 (H k w h) c hc
  simpa using this
theorem dir_brace {ws : List (List UInt8)} {t : Tok} (h : dirOf ws = .ok t) (hw : ∀ w ∈ ws, Wd w) : ∀ w ∈ ws, ∀ c ∈ w, c ≠ 125 := by
  obtain ⟨_, _, hs, hf, _⟩ := dir_good h hw
  have hv : (t.s ≠ [] → nameL t.s = true) ∧ (t.h = true → pathL t.p = true) := by
    unfold dirOf at h
    cases hf : formW ws with
    | none => rw [hf] at h; cases h
    | some r =>
      obtain ⟨k, n, p⟩ := r
      rw [hf] at h
      dsimp only at h
      split at h
      · rename_i ho
        injection h with h
        subst h
        unfold okF at ho
        simp only [Bool.and_eq_true, Bool.or_eq_true, Bool.not_eq_true', beq_iff_eq] at ho
        refine ⟨fun h1 => ?_, fun h1 => ?_⟩
        · have h2 := hs.1 h1
          rcases ho.1 with h3 | h3
          · simp at h3 h2; omega
          · exact h3
        · cases p with
          | none => cases h1
          | some q => exact ho.2
      · cases h
  rw [← hf]
  intro w hwm c hc
  unfold fmtW at hwm
  rw [List.mem_append, List.mem_append] at hwm
  rcases hwm with (h1 | h1) | h1
  · exact kwOf_brace h1 hc
  · split at h1
    · cases h1
    · rename_i hne
      simp at h1; subst h1
      exact word_brace (name_byte (hv.1 hne) hc)
  · split at h1
    · rename_i hh
      simp at h1; subst h1
      rcases List.mem_cons.1 hc with h2 | h2
      · subst h2; decide
      · rcases path_byte (hv.2 hh) h2 with h3 | h3
        · subst h3; decide
        · exact word_brace h3
    · cases h1
theorem jn_mem : ∀ {ws : List (List UInt8)} {c : UInt8}, c ∈ jn ws → c = 32 ∨ ∃ w ∈ ws, c ∈ w
  | [w], c, h => .inr ⟨w, by simp, h⟩
  | w :: x :: ws, c, h => by
    unfold jn at h
    rcases List.mem_append.1 h with h1 | h1
    · exact .inr ⟨w, by simp, h1⟩
    · rcases List.mem_cons.1 h1 with h2 | h2
      · exact .inl h2
      · rcases jn_mem h2 with h3 | ⟨y, h3, h4⟩
        · exact .inl h3
        · exact .inr ⟨y, by simp [List.mem_cons.1 h3], h4⟩

/-! ### The tokens of a source -/
def text (a : Nat) (s : List UInt8) : Tok := ⟨0, a, s, [], false⟩
inductive Lx : List UInt8 → Nat → List Tok → Prop
  | nil (a : Nat) : Lx [] a []
  | all (l : List UInt8) (a : Nat) : l ≠ [] → find2 123 l = none → Lx l a [text a l]
  | text (l : List UInt8) (a k : Nat) (ts : List Tok) : find2 123 l = some (k + 1) → Lx (l.drop (k + 1)) (a + (k + 1)) ts → Lx l a (text a (l.take (k + 1)) :: ts)
  | dir (l : List UInt8) (a e : Nat) (t : Tok) (ts : List Tok) : find2 123 l = some 0 → find2 125 (l.drop 2) = some e → dirOf (words ((l.drop 2).take e)) = .ok t → Lx (l.drop (e + 4)) (a + (e + 4)) ts →
    Lx l a ({ t with a := a } :: ts)
/-- Where the first fault is, and which. -/
inductive Er : List UInt8 → Nat → Nat → Nat → Prop
  | text (l : List UInt8) (a k b c : Nat) : find2 123 l = some (k + 1) → Er (l.drop (k + 1)) (a + (k + 1)) b c → Er l a b c
  | dir (l : List UInt8) (a e : Nat) (t : Tok) (b c : Nat) : find2 123 l = some 0 → find2 125 (l.drop 2) = some e → dirOf (words ((l.drop 2).take e)) = .ok t → Er (l.drop (e + 4)) (a + (e + 4)) b c → Er l a b c
  | trunc (l : List UInt8) (a : Nat) : find2 123 l = some 0 → find2 125 (l.drop 2) = none → Er l a a 7
  | bad (l : List UInt8) (a e c : Nat) : find2 123 l = some 0 → find2 125 (l.drop 2) = some e → dirOf (words ((l.drop 2).take e)) = .error c → Er l a a c
end Go.Proofs.YtkiefgifbkpcfaaDoor
