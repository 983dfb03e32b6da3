/-
  Contracts: value.Split.
  Sources of templates as lists of bytes: braces, words, forms, tokens. No program is imported here.
  Forms of directives, tokens, the tokens of a source, as plain data. No program is imported here.
  The tokens of a source: what the laws of layer 11 say, as plain data. No program is imported here.
  The forms as the program looks them up: the form of words as one string; names and paths word by word. No program is imported here.
  The automaton of layer 15 as plain data: states, a step, a run, what is true of all states that come up; the laws' plain side. No program is imported here.
-/
import Derived.Test.YtpcapmdfjmpdiaaGreatDoorZName
import Derived.Test.YtpcapmdfjmpdiaaGreatDoorZRegion2
import Derived.Test.YtpcapmdfjmpdiaaGreatDoorShelf
import Derived.Deep.QuietTactic
import Derived.BigQuiet
import Derived.Lib.IndexMore
import Derived.Lib.Join
namespace Go.Proofs.YtpcapmdfjmpdiaaGreatDoor
open Go.RowKit Go.BigFrame
set_option linter.unusedVariables false
set_option linter.unusedSimpArgs false

/-! ### Memory that only grows -/
/-- Nothing that was there has turned. -/
def Bel (w w' : World) : Prop := Below w.heap.size w w'
theorem Bel.refl (w : World) : Bel w w := Below.refl _ _
theorem Bel.trans {w w1 w2 : World} (h1 : Bel w w1) (h2 : Bel w1 w2) : Bel w w2 := Below.trans h1 (Below.mono h2 (Below.size h1))
theorem Bel.size {w w' : World} (h : Bel w w') : w.heap.size ≤ w'.heap.size := Below.size h
theorem Bel.alloc (w : World) (o : Obj) : Bel w (w.alloc o) := (Below.refl _ _).alloc (Nat.le_refl _) _
theorem Bel.cell {w w' : World} (h : Bel w w') {b o : Nat} (hb : b < w.heap.size) : w'.cell? ⟨b, o, none⟩ = w.cell? ⟨b, o, none⟩ := Below.cell (p := ⟨b, o, none⟩) h hb
theorem Bel.draw (w : World) (n : Nat) : Bel w (w.drewN n) := by
  induction n with
  | zero => exact Below.refl _ _
  | succ n ih => exact ih.drew
theorem VT.In.bel {w w' : World} {t : VT} (h : t.In w (· < w.heap.size)) (hb : Bel w w') : t.In w' (· < w'.heap.size) :=
  h.same (fun g hg => Nat.lt_of_lt_of_le hg hb.size) fun g p hg => hb.cell hg
/-- The length at which Go's library goes over to another search: some number. -/
def MX (w : World) : Prop := 1 < w.heap.size ∧ ∃ m, w.cell? ⟨1, 0, none⟩ = some (.int .i64 m)
theorem MX.bel {w w' : World} (h : MX w) (hb : Bel w w') : MX w' := by
  obtain ⟨h1, m, h2⟩ := h
  exact ⟨Nat.lt_of_lt_of_le h1 hb.size, m, (hb.cell h1).trans h2⟩
/-- The strings l lie behind the address A, below block B. -/
def Strs (w : World) (A : Option Addr) (l : List ByteArray) : Prop :=
  l = [] ∨ ∃ g o, A = some ⟨g, o, none⟩ ∧ g < w.heap.size ∧ ∀ i, i < l.length → w.cell? ⟨g, o + i, none⟩ = some (.string (l.getD i ByteArray.empty))
theorem Strs.bel {w w' : World} {A : Option Addr} {l : List ByteArray} (h : Strs w A l) (hb : Bel w w') : Strs w' A l := by
  rcases h with h | ⟨g, o, h1, h2, h3⟩
  · exact .inl h
  · exact .inr ⟨g, o, h1, Nat.lt_of_lt_of_le h2 hb.size, fun i hi => (hb.cell h2).trans (h3 i hi)⟩
/-- strings.SplitN at the period, at most nine parts. -/
theorem splitN_c (s : ByteArray) (w : World) (hT : MX w) (hs : s.size < 4294967281) :
    Calls Tryz.prog 72 #[.string s, .string ⟨#[46]⟩, .int .i64 9] w fun e w' =>
      e = .returned (.slice (some ⟨w.heap.size, 0, none⟩) (Lib.splitB dot 0 (min 9 (s.size + 1) - 1) s).length (min 9 (s.size + 1))) ∧ w' = w.alloc (.cells (Lib.cellsOf (Lib.splitB dot 0 (min 9 (s.size + 1) - 1) s) (min 9 (s.size + 1))) 9) := by
  obtain ⟨_, m, hm⟩ := hT
  exact Any.strings_SplitN Tryz.laysSN (by kernel_rfl) s dot 9 m w hs hm (by decide) (by decide) (by decide)
end Go.Proofs.YtpcapmdfjmpdiaaGreatDoor

namespace Go.Proofs.YtpcapmdfjmpdiaaGreatDoor
set_option linter.unusedVariables false

/-! ### Two equal bytes next to each other -/
/-- At place j stand two bytes c. -/
def BB (c : UInt8) (l : List UInt8) (j : Nat) : Prop := l[j]? = some c ∧ l[j + 1]? = some c
def find2 (c : UInt8) : List UInt8 → Option Nat
  | [] => none
  | [_] => none
  | a :: b :: l => if a = c ∧ b = c then some 0 else (find2 c (b :: l)).map (· + 1)
theorem BB.succ {c a : UInt8} {l : List UInt8} {j : Nat} : BB c (a :: l) (j + 1) ↔ BB c l j := by simp [BB]
theorem find2_none : ∀ {c : UInt8} {l : List UInt8}, find2 c l = none ↔ ∀ j, ¬ BB c l j
  | c, [] => by simp [find2, BB]
  | c, [a] => by simp [find2, BB]
  | c, a :: b :: l => by
    unfold find2
    by_cases h : a = c ∧ b = c
    · rw [if_pos h]
      refine ⟨fun h => (by cases h), fun h2 => absurd ?_ (h2 0)⟩
      simp [BB, h.1, h.2]
    · rw [if_neg h]
      simp only [Option.map_eq_none_iff]
      rw [find2_none]
      refine ⟨fun h1 j hj => ?_, fun h1 j hj => h1 (j + 1) (BB.succ.2 hj)⟩
      cases j with
      | zero => simp [BB] at hj; exact h hj
      | succ j => exact h1 j (BB.succ.1 hj)
theorem find2_some : ∀ {c : UInt8} {l : List UInt8} {i : Nat}, find2 c l = some i ↔ BB c l i ∧ ∀ j, j < i → ¬ BB c l j
  | c, [], i => by simp [find2, BB]
  | c, [a], i => by simp [find2, BB]
  | c, a :: b :: l, i => by
    unfold find2
    by_cases h : a = c ∧ b = c
    · rw [if_pos h]
      obtain ⟨rfl, rfl⟩ := h
      have h0 : ∀ d : UInt8, BB d (d :: d :: l) 0 := fun d => by simp [BB]
      refine ⟨fun h => ?_, fun ⟨h1, h2⟩ => ?_⟩
      · injection h with h; subst h
        exact ⟨h0 _, fun j hj => absurd hj (Nat.not_lt_zero _)⟩
      · cases i with
        | zero => rfl
        | succ i => exact absurd (h0 _) (h2 0 (Nat.succ_pos _))
    · rw [if_neg h]
      have hn0 : ¬ BB c (a :: b :: l) 0 := by intro h1; simp [BB] at h1; exact h h1
      rw [Option.map_eq_some_iff]
      constructor
      · rintro ⟨k, hk, rfl⟩
        obtain ⟨h1, h2⟩ := find2_some.1 hk
        refine ⟨BB.succ.2 h1, fun j hj => ?_⟩
        cases j with
        | zero => exact hn0
        | succ j => exact fun h3 => h2 j (by omega) (BB.succ.1 h3)
      · rintro ⟨h1, h2⟩
        cases i with
        | zero => exact absurd h1 hn0
        | succ i => exact ⟨i, find2_some.2 ⟨BB.succ.1 h1, fun j hj h3 => h2 (j + 1) (by omega) (BB.succ.2 h3)⟩, rfl⟩
theorem find2_lt {c : UInt8} {l : List UInt8} {i : Nat} (h : find2 c l = some i) : i + 2 ≤ l.length := by
  have := (find2_some.1 h).1.2
  have := (List.getElem?_eq_some_iff.1 this).1
  omega
/-- The same as the library's index. -/
theorem occ_two {c : UInt8} {l : List UInt8} {i : Nat} : Lib.occAt l [c, c] i = true ↔ BB c l i := by
  unfold Lib.occAt BB
  have e1 : l[i]? = (l.drop i)[0]? := by rw [List.getElem?_drop]; rfl
  have e2 : l[i + 1]? = (l.drop i)[1]? := by rw [List.getElem?_drop]
  rw [e1, e2]
  match l.drop i with
  | [] => simp
  | [a] => simp [List.isPrefixOf]
  | a :: b :: r =>
    simp only [List.isPrefixOf, Bool.and_eq_true, beq_iff_eq, List.getElem?_cons_zero, List.getElem?_cons_succ, Option.some.injEq, Bool.and_true]
    exact ⟨fun ⟨h1, h2⟩ => ⟨h1.symm, h2.symm⟩, fun ⟨h1, h2⟩ => ⟨h1.symm, h2.symm⟩⟩
theorem index_two (c : UInt8) (l : List UInt8) : Lib.index l [c, c] = match find2 c l with | none => -1 | some i => (i : Int) := by
  cases h : find2 c l with
  | none =>
    refine Lib.index_none fun j _ => ?_
    rw [Bool.eq_false_iff]
    exact fun h1 => find2_none.1 h j (occ_two.1 h1)
  | some i =>
    obtain ⟨h1, h2⟩ := find2_some.1 h
    have := find2_lt h
    refine Lib.index_first (by omega) (occ_two.2 h1) fun j hj => ?_
    rw [Bool.eq_false_iff]
    exact fun h3 => h2 j hj (occ_two.1 h3)
theorem cut_two (c : UInt8) (l : List UInt8) : Lib.cut l [c, c] = match find2 c l with | none => (l, [], false) | some i => (l.take i, l.drop (i + 2), true) := by
  unfold Lib.cut
  rw [index_two]
  cases h : find2 c l with
  | none => rfl
  | some i => simp
/-! ### Words -/
/-- The words of l, of which the first goes on from cur. -/
def wl (cur : List UInt8) : List UInt8 → List (List UInt8)
  | [] => if cur = [] then [] else [cur]
  | c :: l => if c = 32 then (if cur = [] then wl [] l else cur :: wl [] l) else wl (cur ++ [c]) l
def words (l : List UInt8) : List (List UInt8) := wl [] l
/-- A word. -/
def Wd (w : List UInt8) : Prop := w ≠ [] ∧ ∀ c ∈ w, c ≠ 32
theorem wl_all : ∀ {l cur : List UInt8}, (∀ c ∈ cur, c ≠ 32) → ∀ w ∈ wl cur l, Wd w ∧ ∀ c ∈ w, c ∈ cur ∨ c ∈ l
  | [], cur, h, w, hw => by
    unfold wl at hw
    split at hw
    · cases hw
    · rename_i hne; simp at hw; subst hw; exact ⟨⟨hne, h⟩, fun c hc => .inl hc⟩
  | c :: l, cur, h, w, hw => by
    unfold wl at hw
    split at hw
    · rename_i hc
      have ih : ∀ w ∈ wl [] l, Wd w ∧ ∀ d ∈ w, d ∈ cur ∨ d ∈ c :: l := fun w hw => by
        obtain ⟨h1, h2⟩ := wl_all (l := l) (cur := []) (by simp) w hw
        exact ⟨h1, fun d hd => by rcases h2 d hd with h3 | h3 <;> simp_all⟩
      split at hw
      · exact ih w hw
      · rename_i hne
        rcases List.mem_cons.1 hw with rfl | hw
        · exact ⟨⟨hne, h⟩, fun d hd => .inl hd⟩
        · exact ih w hw
    · rename_i hc
      obtain ⟨h1, h2⟩ := wl_all (l := l) (cur := cur ++ [c]) (by intro d hd; rcases List.mem_append.1 hd with h3 | h3; exact h d h3; simp at h3; subst h3; exact hc) w hw
      refine ⟨h1, fun d hd => ?_⟩
      rcases h2 d hd with h3 | h3
      · rcases List.mem_append.1 h3 with h4 | h4
        · exact .inl h4
        · simp at h4; subst h4; exact .inr (by simp)
      · exact .inr (by simp [h3])
theorem words_wd {l w : List UInt8} (h : w ∈ words l) : Wd w := (wl_all (by simp) w h).1
/-- Words joined by single spaces. -/
def jn : List (List UInt8) → List UInt8
  | [] => []
  | [w] => w
  | w :: x :: ws => w ++ 32 :: jn (x :: ws)
theorem wl_word : ∀ {w cur l : List UInt8}, (∀ c ∈ w, c ≠ 32) → wl cur (w ++ l) = wl (cur ++ w) l
  | [], cur, l, _ => by simp
  | c :: w, cur, l, h => by
    rw [List.cons_append, wl, if_neg (h c (by simp)), wl_word (fun d hd => h d (by simp [hd]))]
    simp
theorem words_jn : ∀ {ws : List (List UInt8)}, (∀ w ∈ ws, Wd w) → words (jn ws) = ws
  | [], _ => rfl
  | [w], h => by
    have h1 := h w (by simp)
    unfold words jn
    rw [← List.append_nil w, wl_word (by simpa using h1.2), wl]
    simp [h1.1]
  | w :: x :: ws, h => by
    have h1 := h w (by simp)
    unfold words jn
    rw [wl_word h1.2, wl, if_pos rfl, List.nil_append, if_neg h1.1]
    congr 1
    exact words_jn (ws := x :: ws) fun y hy => h y (by simp [hy])
theorem jn_cons_len (w : List UInt8) (ws : List (List UInt8)) : (jn (w :: ws)).length = w.length + (if ws = [] then 0 else 1 + (jn ws).length) := by
  cases ws with
  | nil => simp [jn]
  | cons x ws => simp [jn]; omega
theorem wl_len : ∀ (l cur : List UInt8), (jn (wl cur l)).length ≤ cur.length + l.length
  | [], cur => by unfold wl; split <;> simp [jn]
  | c :: l, cur => by
    unfold wl
    split
    · have := wl_len l []
      split
      · simp at this ⊢; omega
      · rw [jn_cons_len]
        simp at this ⊢
        split <;> omega
    · have := wl_len l (cur ++ [c])
      simp at this ⊢; omega
theorem words_len (l : List UInt8) : (jn (words l)).length ≤ l.length := by have := wl_len l []; simp at this; exact this
theorem jn_inj {a b : List (List UInt8)} (ha : ∀ w ∈ a, Wd w) (hb : ∀ w ∈ b, Wd w) (h : jn a = jn b) : a = b := by
  rw [← words_jn ha, ← words_jn hb, h]
/-- As the library joins. -/
theorem join_jn : ∀ ws : List (List UInt8), Lib.join ws [32] = jn ws
  | [] => rfl
  | [w] => by simp [jn, Lib.join, List.intercalate]
  | w :: x :: ws => by
    have := join_jn (x :: ws)
    simp only [Lib.join, List.intercalate] at this ⊢
    simp only [List.intersperse, List.flatten_cons, jn] at this ⊢
    rw [this]
    simp
end Go.Proofs.YtpcapmdfjmpdiaaGreatDoor

namespace Go.Proofs.YtpcapmdfjmpdiaaGreatDoor
set_option linter.unusedVariables false
set_option linter.unusedSimpArgs false

/-- Does the word begin with a period? -/
def isP (w : List UInt8) : Bool := match w with | c :: _ => c == 46 | [] => false
/-- A path. -/
def pathL (q : List UInt8) : Bool := decide (q = []) || (decide ((parts q).length ≤ 8) && (parts q).all nameL)
structure Tok where
  k : Nat
  a : Nat
  s : List UInt8
  p : List UInt8
  h : Bool
  deriving DecidableEq
/-- The kind that the first word tells; 0: none. -/
def kw (w : List UInt8) : Nat :=
  if w = [105, 102] then 2 else if w = [114, 97, 110, 103, 101] then 3 else if w = [99, 97, 108, 108] then 4 else if w = [102, 108, 117, 115, 104] then 5 else
  if w = [100, 101, 102, 105, 110, 101] then 6 else if w = [101, 108, 115, 101] then 7 else if w = [101, 110, 100] then 8 else if isP w then 1 else 0
/-- The kind, the name and the path of a directive with these words. -/
def formW : List (List UInt8) → Option (Nat × List UInt8 × Option (List UInt8))
  | [] => none
  | [w] => if kw w = 1 then some (1, [], some w.tail) else if kw w = 5 ∨ kw w = 7 ∨ kw w = 8 then some (kw w, [], none) else none
  | [w, x] => if (kw w = 2 ∨ kw w = 3) ∧ isP x = true then some (kw w, [], some x.tail) else if (kw w = 4 ∨ kw w = 6) ∧ isP x = false then some (kw w, x, none) else none
  | [w, x, y] => if kw w = 4 ∧ isP x = false ∧ isP y = true then some (4, x, some y.tail) else none
  | _ => none
theorem formW1 (w : List UInt8) : formW [w] = if kw w = 1 then some (1, [], some w.tail) else if kw w = 5 ∨ kw w = 7 ∨ kw w = 8 then some (kw w, [], none) else none := rfl
theorem formW2 (w x : List UInt8) : formW [w, x] = if (kw w = 2 ∨ kw w = 3) ∧ isP x = true then some (kw w, [], some x.tail) else if (kw w = 4 ∨ kw w = 6) ∧ isP x = false then some (kw w, x, none) else none := rfl
theorem formW3 (w x y : List UInt8) : formW [w, x, y] = if kw w = 4 ∧ isP x = false ∧ isP y = true then some (4, x, some y.tail) else none := rfl
/-- Are its name and its path valid? -/
def okF (k : Nat) (n : List UInt8) (p : Option (List UInt8)) : Bool := (!(k == 4 || k == 6) || nameL n) && (match p with | some q => pathL q | none => true)
def dirOf (ws : List (List UInt8)) : Except Nat Tok :=
  match formW ws with
  | none => .error 5
  | some (k, n, p) => if okF k n p then .ok ⟨k, 0, n, p.getD [], p.isSome⟩ else .error 11
/-! ### The canonical source -/
def kwOf (k : Nat) : List (List UInt8) :=
  match k with
  | 2 => [[105, 102]]
  | 3 => [[114, 97, 110, 103, 101]]
  | 4 => [[99, 97, 108, 108]]
  | 5 => [[102, 108, 117, 115, 104]]
  | 6 => [[100, 101, 102, 105, 110, 101]]
  | 7 => [[101, 108, 115, 101]]
  | 8 => [[101, 110, 100]]
  | _ => []
def fmtW (t : Tok) : List (List UInt8) := kwOf t.k ++ (if t.s = [] then [] else [t.s]) ++ (if t.h then [46 :: t.p] else [])
def fmt (t : Tok) : List UInt8 := if t.k = 0 then t.s else 123 :: 123 :: (jn (fmtW t) ++ [125, 125])
def fmts (ts : List Tok) : List UInt8 := (ts.map fmt).flatten
theorem kw_ne {w : List UInt8} {k : Nat} (h : kw w = k) (h2 : 2 ≤ k) : kwOf k = [w] ∧ k ≤ 8 := by
  unfold kw at h
  repeat' (split at h)
  all_goals (subst h; first | (rename_i e; subst e; exact ⟨rfl, by decide⟩) | omega)
theorem isP_eq {w : List UInt8} (h : isP w = true) : w = 46 :: w.tail := by
  cases w with
  | nil => cases h
  | cons c w => simp [isP] at h; rw [h]; rfl
theorem kw_one {w : List UInt8} (h : kw w = 1) : isP w = true := by
  unfold kw at h
  repeat' (split at h)
  all_goals first | omega | assumption
theorem isP_kw {w : List UInt8} (h : isP w = true) : kw w = 1 := by
  rw [isP_eq h]
  simp [kw, isP]
/-- What a directive's token is like. -/
theorem dir_good {ws : List (List UInt8)} {t : Tok} (h : dirOf ws = .ok t) (hw : ∀ w ∈ ws, Wd w) : t.k ≠ 0 ∧ t.k ≤ 8 ∧ (t.s ≠ [] ↔ t.k = 4 ∨ t.k = 6) ∧ fmtW t = ws ∧ t.a = 0 := by
  unfold dirOf at h
  cases hf : formW ws with
  | none => rw [hf] at h; cases h
  | some r =>
    obtain ⟨k, n, p⟩ := r
    rw [hf] at h
    dsimp only at h
    split at h
    · injection h with h
      subst h
      match ws, hf, hw with
      | [], hf, _ => cases hf
      | [w], hf, hw =>
        rw [formW1] at hf
        split at hf
        · rename_i h1
          simp only [Option.some.injEq, Prod.mk.injEq] at hf
          obtain ⟨rfl, rfl, rfl⟩ := hf
          have := isP_eq (kw_one h1)
          simp [fmtW, kwOf, ← this]
        · split at hf
          · rename_i h1
            simp only [Option.some.injEq, Prod.mk.injEq] at hf
            obtain ⟨rfl, rfl, rfl⟩ := hf
            obtain ⟨h2, h3⟩ := kw_ne (w := w) rfl (by omega)
            simp [fmtW, h2]; omega
          · cases hf
      | [w, x], hf, hw =>
        rw [formW2] at hf
        split at hf
        · rename_i h1
          simp only [Option.some.injEq, Prod.mk.injEq] at hf
          obtain ⟨rfl, rfl, rfl⟩ := hf
          obtain ⟨h2, h3⟩ := kw_ne (w := w) rfl (by omega)
          have := isP_eq h1.2
          simp [fmtW, h2, ← this]; omega
        · split at hf
          · rename_i h1
            simp only [Option.some.injEq, Prod.mk.injEq] at hf
            obtain ⟨rfl, rfl, rfl⟩ := hf
            obtain ⟨h2, h3⟩ := kw_ne (w := w) rfl (by omega)
            have hx := (hw x (by simp)).1
            simp [fmtW, h2, hx]; omega
          · cases hf
      | [w, x, y], hf, hw =>
        rw [formW3] at hf
        split at hf
        · rename_i h1
          simp only [Option.some.injEq, Prod.mk.injEq] at hf
          obtain ⟨rfl, rfl, rfl⟩ := hf
          obtain ⟨h2, h3⟩ := kw_ne h1.1 (by omega)
          have hx := (hw x (by simp)).1
          have := isP_eq h1.2.2
          simp [fmtW, h2, hx, ← this]
        · cases hf
      | _ :: _ :: _ :: _ :: _, hf, _ => cases hf
    · cases h
/-- Bytes of names, of paths, of keywords. -/
theorem name_byte {n : List UInt8} (h : nameL n = true) {c : UInt8} (hc : c ∈ n) : wordB c = true := by
  cases n with
  | nil => cases hc
  | cons d n =>
    rw [nameL_cons] at h
    simp only [Bool.and_eq_true] at h
    exact List.all_eq_true.1 h.2 c hc
theorem part_byte : ∀ {q : List UInt8} {c : UInt8}, c ∈ q → c = 46 ∨ ∃ p ∈ parts q, c ∈ p
  | d :: q, c, hc => by
    by_cases hd : d = 46
    · subst hd
      rcases List.mem_cons.1 hc with h | h
      · exact .inl h
      · rcases part_byte h with h1 | ⟨p, h1, h2⟩
        · exact .inl h1
        · exact .inr ⟨p, by simp [parts, h1], h2⟩
    · obtain ⟨p, ps, h1, h2⟩ := parts_cons (l := q) hd
      rw [h2]
      rcases List.mem_cons.1 hc with h | h
      · subst h; exact .inr ⟨c :: p, by simp, by simp⟩
      · rcases part_byte h with h3 | ⟨r, h3, h4⟩
        · exact .inl h3
        · rw [h1] at h3
          rcases List.mem_cons.1 h3 with h5 | h5
          · subst h5; exact .inr ⟨d :: r, by simp, by simp [h4]⟩
          · exact .inr ⟨r, by simp [h5], h4⟩
theorem path_byte {q : List UInt8} (h : pathL q = true) {c : UInt8} (hc : c ∈ q) : c = 46 ∨ wordB c = true := by
  unfold pathL at h
  simp only [Bool.or_eq_true, Bool.and_eq_true, decide_eq_true_eq] at h
  rcases h with h | ⟨_, h⟩
  · subst h; cases hc
  · rcases part_byte hc with h1 | ⟨p, h1, h2⟩
    · exact .inl h1
    · exact .inr (name_byte (List.all_eq_true.1 h p h1) h2)
theorem word_brace {c : UInt8} (h : wordB c = true) : c ≠ 125 := by rintro rfl; revert h; decide
theorem kwOf_brace {k : Nat} {w : List UInt8} (h : w ∈ kwOf k) {c : UInt8} (hc : c ∈ w) : c ≠ 125 := by
  have H : ∀ k w, w ∈ kwOf k → w.all (· != 125) = true := by
    intro k w h
    unfold kwOf at h
    split at h
    all_goals first | (simp at h; subst h; decide) | cases h
  have := List.all_eq_true.1 (H k w h) c hc
  simpa using this
theorem dir_brace {ws : List (List UInt8)} {t : Tok} (h : dirOf ws = .ok t) (hw : ∀ w ∈ ws, Wd w) : ∀ w ∈ ws, ∀ c ∈ w, c ≠ 125 := by
  obtain ⟨_, _, hs, hf, _⟩ := dir_good h hw
  have hv : (t.s ≠ [] → nameL t.s = true) ∧ (t.h = true → pathL t.p = true) := by
    unfold dirOf at h
    cases hf : formW ws with
    | none => rw [hf] at h; cases h
    | some r =>
      obtain ⟨k, n, p⟩ := r
      rw [hf] at h
      dsimp only at h
      split at h
      · rename_i ho
        injection h with h
        subst h
        unfold okF at ho
        simp only [Bool.and_eq_true, Bool.or_eq_true, Bool.not_eq_true', beq_iff_eq] at ho
        refine ⟨fun h1 => ?_, fun h1 => ?_⟩
        · have h2 := hs.1 h1
          rcases ho.1 with h3 | h3
          · simp at h3 h2; omega
          · exact h3
        · cases p with
          | none => cases h1
          | some q => exact ho.2
      · cases h
  rw [← hf]
  intro w hwm c hc
  unfold fmtW at hwm
  rw [List.mem_append, List.mem_append] at hwm
  rcases hwm with (h1 | h1) | h1
  · exact kwOf_brace h1 hc
  · split at h1
    · cases h1
    · rename_i hne
      simp at h1; subst h1
      exact word_brace (name_byte (hv.1 hne) hc)
  · split at h1
    · rename_i hh
      simp at h1; subst h1
      rcases List.mem_cons.1 hc with h2 | h2
      · subst h2; decide
      · rcases path_byte (hv.2 hh) h2 with h3 | h3
        · subst h3; decide
        · exact word_brace h3
    · cases h1
theorem jn_mem : ∀ {ws : List (List UInt8)} {c : UInt8}, c ∈ jn ws → c = 32 ∨ ∃ w ∈ ws, c ∈ w
  | [w], c, h => .inr ⟨w, by simp, h⟩
  | w :: x :: ws, c, h => by
    unfold jn at h
    rcases List.mem_append.1 h with h1 | h1
    · exact .inr ⟨w, by simp, h1⟩
    · rcases List.mem_cons.1 h1 with h2 | h2
      · exact .inl h2
      · rcases jn_mem h2 with h3 | ⟨y, h3, h4⟩
        · exact .inl h3
        · exact .inr ⟨y, by simp [List.mem_cons.1 h3], h4⟩
/-! ### The tokens of a source -/
def text (a : Nat) (s : List UInt8) : Tok := ⟨0, a, s, [], false⟩
inductive Lx : List UInt8 → Nat → List Tok → Prop
  | nil (a : Nat) : Lx [] a []
  | all (l : List UInt8) (a : Nat) : l ≠ [] → find2 123 l = none → Lx l a [text a l]
  | text (l : List UInt8) (a k : Nat) (ts : List Tok) : find2 123 l = some (k + 1) → Lx (l.drop (k + 1)) (a + (k + 1)) ts → Lx l a (text a (l.take (k + 1)) :: ts)
  | dir (l : List UInt8) (a e : Nat) (t : Tok) (ts : List Tok) : find2 123 l = some 0 → find2 125 (l.drop 2) = some e → dirOf (words ((l.drop 2).take e)) = .ok t → Lx (l.drop (e + 4)) (a + (e + 4)) ts →
    Lx l a ({ t with a := a } :: ts)
/-- Where the first fault is, and which. -/
inductive Er : List UInt8 → Nat → Nat → Nat → Prop
  | text (l : List UInt8) (a k b c : Nat) : find2 123 l = some (k + 1) → Er (l.drop (k + 1)) (a + (k + 1)) b c → Er l a b c
  | dir (l : List UInt8) (a e : Nat) (t : Tok) (b c : Nat) : find2 123 l = some 0 → find2 125 (l.drop 2) = some e → dirOf (words ((l.drop 2).take e)) = .ok t → Er (l.drop (e + 4)) (a + (e + 4)) b c → Er l a b c
  | trunc (l : List UInt8) (a : Nat) : find2 123 l = some 0 → find2 125 (l.drop 2) = none → Er l a a 7
  | bad (l : List UInt8) (a e c : Nat) : find2 123 l = some 0 → find2 125 (l.drop 2) = some e → dirOf (words ((l.drop 2).take e)) = .error c → Er l a a c
end Go.Proofs.YtpcapmdfjmpdiaaGreatDoor

namespace Go.Proofs.YtpcapmdfjmpdiaaGreatDoor
set_option linter.unusedVariables false
set_option linter.unusedSimpArgs false

theorem dir_words {l : List UInt8} : ∀ w ∈ words l, Wd w := fun _ h => words_wd h
/-- One of the two holds, and only one, with one result. -/
theorem lx_total : ∀ (n : Nat) (l : List UInt8) (a : Nat), l.length ≤ n → (∃ ts, Lx l a ts) ∨ ∃ b c, Er l a b c := by
  intro n
  induction n with
  | zero =>
    intro l a h
    obtain rfl : l = [] := List.length_eq_zero_iff.1 (by omega)
    exact .inl ⟨[], Lx.nil a⟩
  | succ n ih =>
    intro l a h
    by_cases hl : l = []
    · subst hl; exact .inl ⟨[], Lx.nil a⟩
    · have hp : 0 < l.length := List.length_pos_iff.2 hl
      cases hf : find2 123 l with
      | none => exact .inl ⟨_, Lx.all l a hl hf⟩
      | some k =>
        cases k with
        | succ k =>
          rcases ih (l.drop (k + 1)) (a + (k + 1)) (by rw [List.length_drop]; omega) with ⟨ts, h1⟩ | ⟨b, c, h1⟩
          · exact .inl ⟨_, Lx.text l a k ts hf h1⟩
          · exact .inr ⟨b, c, Er.text l a k b c hf h1⟩
        | zero =>
          cases hc : find2 125 (l.drop 2) with
          | none => exact .inr ⟨_, _, Er.trunc l a hf hc⟩
          | some e =>
            cases hd : dirOf (words ((l.drop 2).take e)) with
            | error c => exact .inr ⟨_, _, Er.bad l a e c hf hc hd⟩
            | ok t =>
              rcases ih (l.drop (e + 4)) (a + (e + 4)) (by rw [List.length_drop]; omega) with ⟨ts, h1⟩ | ⟨b, c, h1⟩
              · exact .inl ⟨_, Lx.dir l a e t ts hf hc hd h1⟩
              · exact .inr ⟨b, c, Er.dir l a e t b c hf hc hd h1⟩
theorem lx_fun {l : List UInt8} {a : Nat} {ts : List Tok} (h : Lx l a ts) : ∀ {us : List Tok}, Lx l a us → ts = us := by
  induction h with
  | nil a =>
    intro us h2
    cases h2 with
    | nil => rfl
    | all _ _ h3 => exact absurd rfl h3
    | text _ _ k ts hf => simp [find2] at hf
    | dir _ _ e t ts hf => simp [find2] at hf
  | all l a hl hf =>
    intro us h2
    cases h2 with
    | nil => exact absurd rfl hl
    | all => rfl
    | text _ _ k ts hf2 => rw [hf] at hf2; cases hf2
    | dir _ _ e t ts hf2 => rw [hf] at hf2; cases hf2
  | text l a k ts hf _ ih =>
    intro us h2
    cases h2 with
    | nil => simp [find2] at hf
    | all _ _ _ hf2 => rw [hf] at hf2; cases hf2
    | text _ _ k2 ts2 hf2 h3 =>
      rw [hf] at hf2
      simp only [Option.some.injEq, Nat.add_right_cancel_iff] at hf2
      subst hf2
      rw [ih h3]
    | dir _ _ e t ts hf2 => rw [hf] at hf2; cases hf2
  | dir l a e t ts hf hc hd _ ih =>
    intro us h2
    cases h2 with
    | nil => simp [find2] at hf
    | all _ _ _ hf2 => rw [hf] at hf2; cases hf2
    | text _ _ k2 ts2 hf2 h3 => rw [hf] at hf2; cases hf2
    | dir _ _ e2 t2 ts2 hf2 hc2 hd2 h3 =>
      rw [hc] at hc2; injection hc2 with hc2; subst hc2
      rw [hd] at hd2; injection hd2 with hd2; subst hd2
      rw [ih h3]
theorem er_not {l : List UInt8} {a b c : Nat} (h : Er l a b c) : ∀ {us : List Tok}, ¬ Lx l a us := by
  induction h with
  | text l a k b c hf _ ih =>
    intro us h2
    cases h2 with
    | nil => simp [find2] at hf
    | all _ _ _ hf2 => rw [hf] at hf2; cases hf2
    | text _ _ k2 ts2 hf2 h3 =>
      rw [hf] at hf2
      simp only [Option.some.injEq, Nat.add_right_cancel_iff] at hf2
      subst hf2
      exact ih h3
    | dir _ _ e t ts hf2 => rw [hf] at hf2; cases hf2
  | dir l a e t b c hf hc hd _ ih =>
    intro us h2
    cases h2 with
    | nil => simp [find2] at hf
    | all _ _ _ hf2 => rw [hf] at hf2; cases hf2
    | text _ _ k2 ts2 hf2 h3 => rw [hf] at hf2; cases hf2
    | dir _ _ e2 t2 ts2 hf2 hc2 hd2 h3 =>
      rw [hc] at hc2; injection hc2 with hc2; subst hc2
      exact ih h3
  | trunc l a hf hc =>
    intro us h2
    cases h2 with
    | nil => simp [find2] at hf
    | all _ _ _ hf2 => rw [hf] at hf2; cases hf2
    | text _ _ k2 ts2 hf2 h3 => rw [hf] at hf2; cases hf2
    | dir _ _ e2 t2 ts2 hf2 hc2 => rw [hc] at hc2; cases hc2
  | bad l a e c hf hc hd =>
    intro us h2
    cases h2 with
    | nil => simp [find2] at hf
    | all _ _ _ hf2 => rw [hf] at hf2; cases hf2
    | text _ _ k2 ts2 hf2 h3 => rw [hf] at hf2; cases hf2
    | dir _ _ e2 t2 ts2 hf2 hc2 hd2 =>
      rw [hc] at hc2; injection hc2 with hc2; subst hc2
      rw [hd] at hd2; cases hd2
theorem er_fun {l : List UInt8} {a b c : Nat} (h : Er l a b c) : ∀ {b2 c2 : Nat}, Er l a b2 c2 → b = b2 ∧ c = c2 := by
  induction h with
  | text l a k b c hf _ ih =>
    intro b2 c2 h2
    cases h2 with
    | text _ _ k2 _ _ hf2 h3 =>
      rw [hf] at hf2
      simp only [Option.some.injEq, Nat.add_right_cancel_iff] at hf2
      subst hf2
      exact ih h3
    | dir _ _ e t _ _ hf2 => rw [hf] at hf2; cases hf2
    | trunc _ _ hf2 => rw [hf] at hf2; cases hf2
    | bad _ _ e _ hf2 => rw [hf] at hf2; cases hf2
  | dir l a e t b c hf hc hd _ ih =>
    intro b2 c2 h2
    cases h2 with
    | text _ _ k2 _ _ hf2 h3 => rw [hf] at hf2; cases hf2
    | dir _ _ e2 t2 _ _ hf2 hc2 hd2 h3 =>
      rw [hc] at hc2; injection hc2 with hc2; subst hc2
      exact ih h3
    | trunc _ _ hf2 hc2 => rw [hc] at hc2; cases hc2
    | bad _ _ e2 _ hf2 hc2 hd2 =>
      rw [hc] at hc2; injection hc2 with hc2; subst hc2
      rw [hd] at hd2; cases hd2
  | trunc l a hf hc =>
    intro b2 c2 h2
    cases h2 with
    | text _ _ k2 _ _ hf2 h3 => rw [hf] at hf2; cases hf2
    | dir _ _ e2 t2 _ _ hf2 hc2 hd2 h3 => rw [hc] at hc2; cases hc2
    | trunc _ _ hf2 hc2 => exact ⟨rfl, rfl⟩
    | bad _ _ e2 _ hf2 hc2 hd2 => rw [hc] at hc2; cases hc2
  | bad l a e c hf hc hd =>
    intro b2 c2 h2
    cases h2 with
    | text _ _ k2 _ _ hf2 h3 => rw [hf] at hf2; cases hf2
    | dir _ _ e2 t2 _ _ hf2 hc2 hd2 h3 =>
      rw [hc] at hc2; injection hc2 with hc2; subst hc2
      rw [hd] at hd2; cases hd2
    | trunc _ _ hf2 hc2 => rw [hc] at hc2; cases hc2
    | bad _ _ e2 _ hf2 hc2 hd2 =>
      rw [hc] at hc2; injection hc2 with hc2; subst hc2
      rw [hd] at hd2; injection hd2 with hd2
      exact ⟨rfl, hd2⟩
/-! ### Other offsets -/
/-- What tokens are like. -/
def Good (t : Tok) : Prop := (t.k = 0 → t.p = [] ∧ t.h = false ∧ t.s ≠ []) ∧ (t.k ≠ 0 → t.k ≤ 8 ∧ (t.s ≠ [] ↔ t.k = 4 ∨ t.k = 6)) ∧ (t.h = false → t.p = [])
theorem dir_path {ws : List (List UInt8)} {t : Tok} (h : dirOf ws = .ok t) : t.h = false → t.p = [] := by
  unfold dirOf at h
  cases hf : formW ws with
  | none => rw [hf] at h; cases h
  | some r =>
    obtain ⟨k, n, p⟩ := r
    rw [hf] at h
    dsimp only at h
    split at h
    · injection h with h
      subst h
      intro h1
      cases p with
      | none => rfl
      | some q => cases h1
    · cases h
theorem lx_good {l : List UInt8} {a : Nat} {ts : List Tok} (h : Lx l a ts) : ∀ t ∈ ts, Good t ∧ t.s.length ≤ l.length ∧ t.p.length ≤ l.length ∧ t.a < a + l.length := by
  induction h with
  | nil a => simp
  | all l a hl hf =>
    intro t ht
    simp at ht; subst ht
    have : 0 < l.length := List.length_pos_iff.2 hl
    exact ⟨⟨fun _ => ⟨rfl, rfl, hl⟩, fun h => absurd rfl h, fun _ => rfl⟩, Nat.le_refl _, Nat.zero_le _, by simp [text]; omega⟩
  | text l a k ts hf _ ih =>
    have := find2_lt hf
    intro t ht
    rcases List.mem_cons.1 ht with rfl | ht
    · refine ⟨⟨fun _ => ⟨rfl, rfl, ?_⟩, fun h => absurd rfl h, fun _ => rfl⟩, by simp [text]; omega, by simp [text], by simp [text]; omega⟩
      intro h0
      have h9 := congrArg List.length h0
      simp only [text, List.length_take, List.length_nil] at h9
      omega
    · obtain ⟨h1, h2, h3, h4⟩ := ih t ht
      rw [List.length_drop] at h2 h3 h4
      exact ⟨h1, by omega, by omega, by omega⟩
  | dir l a e t ts hf hc hd _ ih =>
    have hl := find2_lt hf
    have he := find2_lt hc
    rw [List.length_drop] at he
    intro u hu
    rcases List.mem_cons.1 hu with rfl | hu
    · obtain ⟨h1, h2, h3, h4, _⟩ := dir_good hd dir_words
      refine ⟨⟨fun h => absurd h h1, fun _ => ⟨h2, h3⟩, fun h => dir_path (t := t) hd h⟩, ?_, ?_, by dsimp only; omega⟩
      · dsimp only
        by_cases h5 : t.s = []
        · rw [h5]; exact Nat.zero_le _
        · have hm : t.s ∈ words ((l.drop 2).take e) := by rw [← h4]; simp [fmtW, h5]
          have hw := words_len ((l.drop 2).take e)
          have : t.s.length ≤ (jn (words ((l.drop 2).take e))).length := by
            revert hm
            generalize words ((l.drop 2).take e) = ws
            intro hm
            clear hw h4 hd
            induction ws with
            | nil => cases hm
            | cons w ws ihw =>
              rw [jn_cons_len]
              rcases List.mem_cons.1 hm with h6 | h6
              · subst h6; omega
              · have := ihw h6
                rw [if_neg (by intro h7; subst h7; cases h6)]; omega
          rw [List.length_take, List.length_drop] at hw
          omega
      · dsimp only
        cases h5 : t.h with
        | false => rw [dir_path hd h5]; exact Nat.zero_le _
        | true =>
          have hm : 46 :: t.p ∈ words ((l.drop 2).take e) := by rw [← h4]; simp [fmtW, h5]
          have hw := words_len ((l.drop 2).take e)
          have : (46 :: t.p).length ≤ (jn (words ((l.drop 2).take e))).length := by
            revert hm
            generalize words ((l.drop 2).take e) = ws
            intro hm
            clear hw h4 hd
            induction ws with
            | nil => cases hm
            | cons w ws ihw =>
              rw [jn_cons_len]
              rcases List.mem_cons.1 hm with h6 | h6
              · subst h6; omega
              · have := ihw h6
                rw [if_neg (by intro h7; subst h7; cases h6)]; omega
          rw [List.length_take, List.length_drop] at hw
          rw [List.length_cons] at this
          omega
    · obtain ⟨h1, h2, h3, h4⟩ := ih u hu
      rw [List.length_drop] at h2 h3 h4
      exact ⟨h1, by omega, by omega, by omega⟩
theorem lx_count {l : List UInt8} {a : Nat} {ts : List Tok} (h : Lx l a ts) : ts.length ≤ l.length := by
  induction h with
  | nil a => simp
  | all l a hl hf => have : 0 < l.length := List.length_pos_iff.2 hl; simp; omega
  | text l a k ts hf _ ih => have := find2_lt hf; rw [List.length_drop] at ih; simp; omega
  | dir l a e t ts hf hc hd _ ih => have := find2_lt hf; rw [List.length_drop] at ih; simp; omega
/-- The canonical sources are not longer. -/
theorem fmts_cons (t : Tok) (ts : List Tok) : fmts (t :: ts) = fmt t ++ fmts ts := rfl
theorem fmts_nil : fmts [] = [] := rfl
theorem fmt_dir {ws : List (List UInt8)} {t : Tok} (h : dirOf ws = .ok t) (hw : ∀ w ∈ ws, Wd w) (a : Nat) : fmt { t with a := a } = 123 :: 123 :: (jn ws ++ [125, 125]) := by
  obtain ⟨h1, _, _, h4, _⟩ := dir_good h hw
  have : fmtW { t with a := a } = fmtW t := rfl
  unfold fmt
  rw [if_neg h1, this, h4]
theorem lx_len {l : List UInt8} {a : Nat} {ts : List Tok} (h : Lx l a ts) : (fmts ts).length ≤ l.length := by
  induction h with
  | nil a => simp [fmts]
  | all l a hl hf => simp [fmts, fmt, text]
  | text l a k ts hf _ ih =>
    have := find2_lt hf
    rw [List.length_drop] at ih
    rw [fmts_cons, List.length_append]
    have : (fmt (text a (l.take (k + 1)))).length = k + 1 := by simp [fmt, text]; omega
    omega
  | dir l a e t ts hf hc hd _ ih =>
    have hl := find2_lt hf
    have he := find2_lt hc
    rw [List.length_drop] at ih he
    rw [fmts_cons, fmt_dir hd dir_words, List.length_append]
    have hw := words_len ((l.drop 2).take e)
    rw [List.length_take, List.length_drop] at hw
    simp only [List.length_cons, List.length_append, List.length_nil]
    omega
/-- With the braces of the first directive at its start. -/
theorem lx_head {l : List UInt8} {a : Nat} {ts : List Tok} (h : Lx l a ts) (h0 : find2 123 l = some 0) : ∃ r, fmts ts = 123 :: 123 :: r := by
  cases h with
  | nil => simp [find2] at h0
  | all _ _ _ hf => rw [h0] at hf; cases hf
  | text _ _ k ts hf => rw [h0] at hf; cases hf
  | dir _ _ e t ts hf hc hd =>
    rw [fmts_cons, fmt_dir hd dir_words]
    exact ⟨_, rfl⟩
theorem find2_start {c : UInt8} {l : List UInt8} : find2 c (c :: c :: l) = some 0 := by simp [find2]
theorem find2_drop {c : UInt8} {l : List UInt8} {i : Nat} (h : find2 c l = some i) : find2 c (l.drop i) = some 0 := by
  obtain ⟨h1, h2⟩ := find2_some.1 h
  refine find2_some.2 ⟨?_, fun j hj => absurd hj (Nat.not_lt_zero _)⟩
  unfold BB at h1 ⊢
  rw [List.getElem?_drop, List.getElem?_drop]
  simpa using h1
/-- The same tokens, with other offsets. -/
theorem round_trip {l : List UInt8} {a : Nat} {ts : List Tok} (h : Lx l a ts) : ∀ b, ∃ us, Lx (fmts ts) b us ∧ us.map (fun t => { t with a := 0 }) = ts.map (fun t => { t with a := 0 }) := by
  induction h with
  | nil a => exact fun b => ⟨[], Lx.nil b, rfl⟩
  | all l a hl hf =>
    intro b
    have : fmts [text a l] = l := by simp [fmts, fmt, text]
    rw [this]
    exact ⟨_, Lx.all l b hl hf, rfl⟩
  | text l a k ts hf hx ih =>
    intro b
    obtain ⟨us, h1, h2⟩ := ih (b + (k + 1))
    obtain ⟨r, hr⟩ := lx_head hx (find2_drop hf)
    obtain ⟨b1, b2⟩ := find2_some.1 hf
    have hk := find2_lt hf
    have e : fmts (text a (l.take (k + 1)) :: ts) = l.take (k + 1) ++ fmts ts := by simp [fmts_cons, fmt, text]
    have hlen : (l.take (k + 1)).length = k + 1 := by rw [List.length_take]; omega
    have hf2 : find2 123 (l.take (k + 1) ++ fmts ts) = some (k + 1) := by
      refine find2_some.2 ⟨?_, fun j hj hb => b2 j hj ?_⟩
      · unfold BB
        rw [List.getElem?_append_right (by omega), List.getElem?_append_right (by omega), hr, hlen]
        simp
      · unfold BB at hb ⊢
        obtain ⟨c1, c2⟩ := hb
        rw [List.getElem?_append_left (by omega), List.getElem?_take, if_pos hj] at c1
        refine ⟨c1, ?_⟩
        by_cases e : j = k
        · subst e; exact b1.1
        · rw [List.getElem?_append_left (by omega), List.getElem?_take, if_pos (by omega)] at c2
          exact c2
    refine ⟨text b (l.take (k + 1)) :: us, ?_, by rw [List.map_cons, List.map_cons, h2]; rfl⟩
    rw [e]
    have e1 : (l.take (k + 1) ++ fmts ts).take (k + 1) = l.take (k + 1) := by rw [List.take_append_of_le_length (by omega), List.take_take, Nat.min_self]
    have e2 : (l.take (k + 1) ++ fmts ts).drop (k + 1) = fmts ts := by rw [List.drop_append, hlen, Nat.sub_self, List.drop_of_length_le (by omega)]; rfl
    have := Lx.text (l.take (k + 1) ++ fmts ts) b k us hf2 (by rw [e2]; exact h1)
    rw [e1] at this
    exact this
  | dir l a e t ts hf hc hd hx ih =>
    intro b
    have hws : ∀ w ∈ words ((l.drop 2).take e), Wd w := dir_words
    generalize hws' : words ((l.drop 2).take e) = ws at hws hd
    obtain ⟨us, h1, h2⟩ := ih (b + ((jn ws).length + 4))
    have hb := dir_brace hd hws
    have hj : ∀ c ∈ jn ws, c ≠ 125 := fun c hc => by
      rcases jn_mem hc with h3 | ⟨w, h3, h4⟩
      · subst h3; decide
      · exact hb w h3 c h4
    have ef : fmts ({ t with a := a } :: ts) = 123 :: 123 :: (jn ws ++ 125 :: 125 :: fmts ts) := by rw [fmts_cons, fmt_dir hd hws]; simp
    have hc2 : find2 125 (jn ws ++ 125 :: 125 :: fmts ts) = some (jn ws).length := by
      refine find2_some.2 ⟨?_, fun j hjl hbb => ?_⟩
      · unfold BB
        rw [List.getElem?_append_right (Nat.le_refl _), List.getElem?_append_right (by omega)]
        simp
      · unfold BB at hbb
        obtain ⟨c1, _⟩ := hbb
        rw [List.getElem?_append_left hjl] at c1
        exact hj 125 (List.mem_of_getElem? c1) rfl
    refine ⟨{ t with a := b } :: us, ?_, by rw [List.map_cons, List.map_cons, h2]⟩
    rw [ef]
    have e1 : ((123 :: 123 :: (jn ws ++ 125 :: 125 :: fmts ts)).drop 2).take (jn ws).length = jn ws := by simp
    have e2 : (123 :: 123 :: (jn ws ++ 125 :: 125 :: fmts ts)).drop ((jn ws).length + 4) = fmts ts := by
      rw [show (jn ws).length + 4 = (jn ws).length + 2 + 1 + 1 by omega, List.drop_succ_cons, List.drop_succ_cons, List.drop_append, List.drop_of_length_le (by omega)]
      rw [show (jn ws).length + 2 - (jn ws).length = 2 by omega]
      rfl
    have := Lx.dir (123 :: 123 :: (jn ws ++ 125 :: 125 :: fmts ts)) b (jn ws).length t us find2_start (by simpa using hc2) (by rw [e1, words_jn hws]; exact hd) (by rw [e2]; exact h1)
    exact this
/-! ### Offsets -/
/-! ### Two sources in sequence -/
theorem find2_append_some {c : UInt8} {x : List UInt8} {i : Nat} (h : find2 c x = some i) (y : List UInt8) : find2 c (x ++ y) = some i := by
  have hl := find2_lt h
  obtain ⟨h1, h2⟩ := find2_some.1 h
  refine find2_some.2 ⟨?_, fun j hj hb => h2 j hj ?_⟩
  · unfold BB at h1 ⊢
    rw [List.getElem?_append_left (by omega), List.getElem?_append_left (by omega)]
    exact h1
  · unfold BB at hb ⊢
    rw [List.getElem?_append_left (by omega), List.getElem?_append_left (by omega)] at hb
    exact hb
end Go.Proofs.YtpcapmdfjmpdiaaGreatDoor

namespace Go.Proofs.YtpcapmdfjmpdiaaGreatDoor
set_option linter.unusedVariables false
set_option linter.unusedSimpArgs false

/-- The forms that the map holds. -/
def mapW (fs : List (List UInt8)) : Option Nat :=
  if fs = [[102, 108, 117, 115, 104]] then some 5 else if fs = [[99, 97, 108, 108], [110, 97, 109, 101], [46]] then some 4 else if fs = [[99, 97, 108, 108], [110, 97, 109, 101]] then some 4 else
  if fs = [[100, 101, 102, 105, 110, 101], [110, 97, 109, 101]] then some 6 else if fs = [[101, 110, 100]] then some 8 else if fs = [[114, 97, 110, 103, 101], [46]] then some 3 else
  if fs = [[101, 108, 115, 101]] then some 7 else if fs = [[105, 102], [46]] then some 2 else if fs = [[46]] then some 1 else none
def kindN (k : ByteArray) : Option Nat :=
  if k = ⟨#[102, 108, 117, 115, 104]⟩ then some 5 else if k = ⟨#[99, 97, 108, 108, 32, 110, 97, 109, 101, 32, 46]⟩ then some 4 else if k = ⟨#[99, 97, 108, 108, 32, 110, 97, 109, 101]⟩ then some 4 else
  if k = ⟨#[100, 101, 102, 105, 110, 101, 32, 110, 97, 109, 101]⟩ then some 6 else if k = ⟨#[101, 110, 100]⟩ then some 8 else if k = ⟨#[114, 97, 110, 103, 101, 32, 46]⟩ then some 3 else
  if k = ⟨#[101, 108, 115, 101]⟩ then some 7 else if k = ⟨#[105, 102, 32, 46]⟩ then some 2 else if k = ⟨#[46]⟩ then some 1 else none
theorem ofL_inj {a b : List UInt8} (h : ofL a = ofL b) : a = b := by
  have := congrArg toL h
  rwa [toL_ofL, toL_ofL] at this
theorem key_iff {fs lit : List (List UInt8)} (hf : ∀ w ∈ fs, Wd w) (hl : lit.all (fun w => decide (w ≠ []) && w.all (· != 32)) = true) {k : ByteArray} (hk : k = ofL (jn lit)) : (ofL (jn fs) = k) = (fs = lit) := by
  subst hk
  have hl' : ∀ w ∈ lit, Wd w := by
    intro w hw
    have := List.all_eq_true.1 hl w hw
    simp only [Bool.and_eq_true, decide_eq_true_eq] at this
    exact ⟨this.1, fun c hc => by simpa using List.all_eq_true.1 this.2 c hc⟩
  exact propext ⟨fun h => jn_inj hf hl' (ofL_inj h), fun h => by rw [h]⟩
theorem kindN_jn {fs : List (List UInt8)} (hf : ∀ w ∈ fs, Wd w) : kindN (ofL (jn fs)) = mapW fs := by
  unfold kindN mapW
  have e0 : (ofL (jn fs) = ⟨#[102, 108, 117, 115, 104]⟩) = (fs = [[102, 108, 117, 115, 104]]) := key_iff hf (by decide) rfl
  have e1 : (ofL (jn fs) = ⟨#[99, 97, 108, 108, 32, 110, 97, 109, 101, 32, 46]⟩) = (fs = [[99, 97, 108, 108], [110, 97, 109, 101], [46]]) := key_iff hf (by decide) rfl
  have e2 : (ofL (jn fs) = ⟨#[99, 97, 108, 108, 32, 110, 97, 109, 101]⟩) = (fs = [[99, 97, 108, 108], [110, 97, 109, 101]]) := key_iff hf (by decide) rfl
  have e3 : (ofL (jn fs) = ⟨#[100, 101, 102, 105, 110, 101, 32, 110, 97, 109, 101]⟩) = (fs = [[100, 101, 102, 105, 110, 101], [110, 97, 109, 101]]) := key_iff hf (by decide) rfl
  have e4 : (ofL (jn fs) = ⟨#[101, 110, 100]⟩) = (fs = [[101, 110, 100]]) := key_iff hf (by decide) rfl
  have e5 : (ofL (jn fs) = ⟨#[114, 97, 110, 103, 101, 32, 46]⟩) = (fs = [[114, 97, 110, 103, 101], [46]]) := key_iff hf (by decide) rfl
  have e6 : (ofL (jn fs) = ⟨#[101, 108, 115, 101]⟩) = (fs = [[101, 108, 115, 101]]) := key_iff hf (by decide) rfl
  have e7 : (ofL (jn fs) = ⟨#[105, 102, 32, 46]⟩) = (fs = [[105, 102], [46]]) := key_iff hf (by decide) rfl
  have e8 : (ofL (jn fs) = ⟨#[46]⟩) = (fs = [[46]]) := key_iff hf (by decide) rfl
  simp only [e0, e1, e2, e3, e4, e5, e6, e7, e8]
/-- A word's place in the form. -/
def fw (first : Bool) (w : List UInt8) : List UInt8 := if isP w then [46] else if first then w else [110, 97, 109, 101]
def formL : List (List UInt8) → List (List UInt8)
  | [] => []
  | w :: r => fw true w :: r.map (fw false)
theorem fw_wd {b : Bool} {w : List UInt8} (h : Wd w) : Wd (fw b w) := by
  unfold fw
  split
  · exact ⟨by simp, by intro c hc; simp at hc; subst hc; decide⟩
  · split
    · exact h
    · exact ⟨by simp, by intro c hc; simp at hc; rcases hc with rfl | rfl | rfl | rfl <;> decide⟩
theorem formL_wd {ws : List (List UInt8)} (h : ∀ w ∈ ws, Wd w) : ∀ w ∈ formL ws, Wd w := by
  cases ws with
  | nil => intro w hw; cases hw
  | cons x r =>
    intro w hw
    rcases List.mem_cons.1 hw with rfl | hw
    · exact fw_wd (h x (by simp))
    · obtain ⟨y, hy, rfl⟩ := List.mem_map.1 hw
      exact fw_wd (h y (by simp [hy]))
theorem formL_len (ws : List (List UInt8)) : (formL ws).length = ws.length := by cases ws <;> simp [formL]
theorem formL_at {ws : List (List UInt8)} {i : Nat} {w : List UInt8} (h : ws[i]? = some w) : (formL ws)[i]? = some (fw (decide (i = 0)) w) := by
  cases ws with
  | nil => simp at h
  | cons x r =>
    cases i with
    | zero => simp at h; subst h; simp [formL]
    | succ i => simp at h; simp [formL, h]
theorem jn_le : ∀ {ws : List (List UInt8)} {B : Nat}, (∀ w ∈ ws, w.length ≤ B) → (jn ws).length ≤ ws.length * (B + 1)
  | [], B, _ => by simp [jn]
  | w :: ws, B, h => by
    have h1 := h w (by simp)
    have h2 := jn_le (ws := ws) (B := B) fun x hx => h x (by simp [hx])
    rw [jn_cons_len, List.length_cons, Nat.add_mul, Nat.one_mul]
    split <;> omega
theorem fw_le {b : Bool} {w : List UInt8} {B : Nat} (h : w.length ≤ B) : (fw b w).length ≤ B + 4 := by
  unfold fw
  split
  · simp
  · split
    · omega
    · simp
theorem formL_le {ws : List (List UInt8)} {B : Nat} (h : ∀ w ∈ ws, w.length ≤ B) : ∀ w ∈ formL ws, w.length ≤ B + 4 := by
  intro w hw
  obtain ⟨i, hi, rfl⟩ := List.getElem_of_mem hw
  rw [formL_len] at hi
  have := formL_at (List.getElem?_eq_getElem hi)
  rw [List.getElem?_eq_getElem (by rw [formL_len]; exact hi)] at this
  injection this with this
  rw [this]
  exact fw_le (h _ (List.getElem_mem hi))
theorem kw_cases (w : List UInt8) : w = [105, 102] ∨ w = [114, 97, 110, 103, 101] ∨ w = [99, 97, 108, 108] ∨ w = [102, 108, 117, 115, 104] ∨ w = [100, 101, 102, 105, 110, 101] ∨ w = [101, 108, 115, 101] ∨ w = [101, 110, 100] ∨
    (isP w = true ∧ kw w = 1) ∨ (isP w = false ∧ kw w = 0 ∧ w ≠ [105, 102] ∧ w ≠ [114, 97, 110, 103, 101] ∧ w ≠ [99, 97, 108, 108] ∧ w ≠ [102, 108, 117, 115, 104] ∧ w ≠ [100, 101, 102, 105, 110, 101] ∧ w ≠ [101, 108, 115, 101] ∧ w ≠ [101, 110, 100]) := by
  by_cases h1 : w = [105, 102]; · exact .inl h1
  by_cases h2 : w = [114, 97, 110, 103, 101]; · exact .inr (.inl h2)
  by_cases h3 : w = [99, 97, 108, 108]; · exact .inr (.inr (.inl h3))
  by_cases h4 : w = [102, 108, 117, 115, 104]; · exact .inr (.inr (.inr (.inl h4)))
  by_cases h5 : w = [100, 101, 102, 105, 110, 101]; · exact .inr (.inr (.inr (.inr (.inl h5))))
  by_cases h6 : w = [101, 108, 115, 101]; · exact .inr (.inr (.inr (.inr (.inr (.inl h6)))))
  by_cases h7 : w = [101, 110, 100]; · exact .inr (.inr (.inr (.inr (.inr (.inr (.inl h7))))))
  cases hp : isP w with
  | true => exact .inr (.inr (.inr (.inr (.inr (.inr (.inr (.inl ⟨rfl, isP_kw hp⟩)))))))
  | false => exact .inr (.inr (.inr (.inr (.inr (.inr (.inr (.inr ⟨rfl, by simp [kw, h1, h2, h3, h4, h5, h6, h7, hp], h1, h2, h3, h4, h5, h6, h7⟩)))))))
theorem isP_cons (c : UInt8) (w : List UInt8) : isP (c :: w) = (c == 46) := rfl
theorem form_map (ws : List (List UInt8)) : mapW (formL ws) = (formW ws).map (·.1) := by
  match ws with
  | [] => rfl
  | [w] =>
    rcases kw_cases w with rfl | rfl | rfl | rfl | rfl | rfl | rfl | ⟨h1, h2⟩ | ⟨h1, h2, h3, h4, h5, h6, h7, h8, h9⟩
    iterate 7 rfl
    · rw [formW1]; simp [formL, fw, h1, h2, mapW]
    · rw [formW1]
      have h10 : w ≠ [46] := by rintro rfl; cases h1
      simp [formL, fw, h1, h2, mapW, h3, h4, h5, h6, h7, h8, h9, h10]
  | [w, x] =>
    rcases kw_cases w with rfl | rfl | rfl | rfl | rfl | rfl | rfl | ⟨h1, h2⟩ | ⟨h1, h2, h3, h4, h5, h6, h7, h8, h9⟩
    iterate 7 (rw [formW2]; cases hx : isP x <;> simp [formL, fw, hx, mapW, kw, isP_cons])
    · rw [formW2]; cases hx : isP x <;> simp [formL, fw, h1, h2, hx, mapW]
    · rw [formW2]; cases hx : isP x <;> simp [formL, fw, h1, h2, mapW, h3, h4, h5, h6, h7, h8, h9, hx]
  | [w, x, y] =>
    rcases kw_cases w with rfl | rfl | rfl | rfl | rfl | rfl | rfl | ⟨h1, h2⟩ | ⟨h1, h2, h3, h4, h5, h6, h7, h8, h9⟩
    iterate 7 (rw [formW3]; cases hx : isP x <;> cases hy : isP y <;> simp [formL, fw, hx, hy, mapW, kw, isP_cons])
    · rw [formW3]; cases hx : isP x <;> cases hy : isP y <;> simp [formL, fw, h1, h2, hx, hy, mapW]
    · rw [formW3]; cases hx : isP x <;> cases hy : isP y <;> simp [formL, fw, h1, h2, mapW, h3, h4, h5, h6, h7, h8, h9, hx, hy]
  | w :: x :: y :: z :: r => simp [formL, mapW, formW]
/-! ### Word by word -/
def dgo : Bool → List UInt8 × List UInt8 × Bool → List (List UInt8) → Except Nat (List UInt8 × List UInt8 × Bool)
  | _, st, [] => .ok st
  | first, (s, p, h), w :: r => if isP w then (if pathL w.tail then dgo false (s, w.tail, true) r else .error 11) else if first then dgo false (s, p, h) r else if nameL w then dgo false (w, p, h) r else .error 11
theorem kw_notP {w : List UInt8} (h : kw w ≠ 1) : isP w = false := by
  cases hp : isP w with
  | true => exact absurd (isP_kw hp) h
  | false => rfl
theorem dgo_form {ws : List (List UInt8)} {k : Nat} {n : List UInt8} {p : Option (List UInt8)} (h : formW ws = some (k, n, p)) : dgo true ([], [], false) ws = if okF k n p then .ok (n, p.getD [], p.isSome) else .error 11 := by
  match ws, h with
  | [], h => cases h
  | [w], h =>
    rw [formW1] at h
    split at h
    · rename_i h1
      simp only [Option.some.injEq, Prod.mk.injEq] at h
      obtain ⟨rfl, rfl, rfl⟩ := h
      cases hq : pathL w.tail <;> simp [dgo, kw_one h1, okF, hq]
    · rename_i h1
      split at h
      · rename_i h2
        simp only [Option.some.injEq, Prod.mk.injEq] at h
        obtain ⟨rfl, rfl, rfl⟩ := h
        have h4 : kw w ≠ 4 := by omega
        have h6 : kw w ≠ 6 := by omega
        simp [dgo, kw_notP h1, okF, h4, h6]
      · cases h
  | [w, x], h =>
    rw [formW2] at h
    split at h
    · rename_i h1
      simp only [Option.some.injEq, Prod.mk.injEq] at h
      obtain ⟨rfl, rfl, rfl⟩ := h
      have h4 : kw w ≠ 4 := by omega
      have h6 : kw w ≠ 6 := by omega
      have h0 : kw w ≠ 1 := by omega
      cases hq : pathL x.tail <;> simp [dgo, kw_notP h0, okF, h4, h6, h1.2, hq]
    · split at h
      · rename_i h1
        simp only [Option.some.injEq, Prod.mk.injEq] at h
        obtain ⟨rfl, rfl, rfl⟩ := h
        have h0 : kw w ≠ 1 := by omega
        have h46 := h1.1
        cases hq : nameL x <;> simp [dgo, kw_notP h0, okF, h1.2, hq, h46]
        all_goals rcases h46 with h46 | h46 <;> simp [h46]
      · cases h
  | [w, x, y], h =>
    rw [formW3] at h
    split at h
    · rename_i h1
      simp only [Option.some.injEq, Prod.mk.injEq] at h
      obtain ⟨rfl, rfl, rfl⟩ := h
      have h0 : kw w ≠ 1 := by omega
      cases hq : nameL x <;> cases hq2 : pathL y.tail <;> simp [dgo, kw_notP h0, okF, h1.2, hq, hq2]
    · cases h
  | _ :: _ :: _ :: _ :: _, h => cases h
theorem pathOf_isSome (s : ByteArray) : (pathOf s).isSome = pathL (toL s) := by
  unfold pathOf pathL
  by_cases h : s.size = 0
  · have : toL s = [] := List.length_eq_zero_iff.1 h
    simp [h, this]
  · have : toL s ≠ [] := fun e => h (by rw [← toL_len, e]; rfl)
    rw [if_neg h]
    by_cases h2 : (parts (toL s)).length ≤ 8 ∧ (parts (toL s)).all nameL = true
    · rw [if_pos h2]; simp [this, h2.1]; simpa using h2.2
    · rw [if_neg h2]
      rw [Bool.eq_iff_iff]
      simp only [Option.isSome_none, Bool.false_eq_true, Bool.or_eq_true, decide_eq_true_eq, Bool.and_eq_true, false_iff]
      rintro (h3 | h3)
      · exact this h3
      · exact h2 h3
end Go.Proofs.YtpcapmdfjmpdiaaGreatDoor

namespace Go.Proofs.YtpcapmdfjmpdiaaGreatDoor
set_option linter.unusedVariables false
set_option linter.unusedSimpArgs false

/-- A state: the context, the name, the attribute, the part. -/
structure HS where
  c : Nat
  n : List UInt8
  a : List UInt8
  p : List UInt8
namespace HS
theorem ext_ {s t : HS} (h1 : s.c = t.c) (h2 : s.n = t.n) (h3 : s.a = t.a) (h4 : s.p = t.p) : s = t := by
  cases s; cases t; simp only at h1 h2 h3 h4; subst h1 h2 h3 h4; rfl
end HS
def s0 (c : Nat) : HS := ⟨c, [], [], []⟩
def lowB (c : UInt8) : UInt8 := if 65 ≤ c.toNat ∧ c.toNat ≤ 90 then c + 32 else c
def ltrB (c : UInt8) : Bool := decide (97 ≤ (lowB c).toNat) && decide ((lowB c).toNat ≤ 122)
def spcB (c : UInt8) : Bool := c == 32 || (c == 9 || (c == 10 || (c == 12 || c == 13)))
def addL (s : List UInt8) (c : UInt8) : List UInt8 := if 16 ≤ s.length then s else s ++ [lowB c]
def scriptL : List UInt8 := [115, 99, 114, 105, 112, 116]
def styleL : List UInt8 := [115, 116, 121, 108, 101]
def openS (n : List UInt8) : HS := if n = scriptL then s0 16 else if n = styleL then s0 19 else s0 0
def textS (p : List UInt8) (c : UInt8) : HS :=
  if p = [60] then
    if ltrB c = true then ⟨2, addL [] c, [], []⟩
    else if c = 47 ∨ c = 33 then ⟨0, [], [], [60, c]⟩
    else if c = 60 then ⟨0, [], [], [60]⟩ else s0 0
  else if p = [60, 47] then
    if ltrB c = true then s0 15
    else if c = 60 then ⟨0, [], [], [60]⟩ else s0 0
  else if p = [60, 33] then
    if c = 45 then ⟨0, [], [], [60, 33, 45]⟩ else if c = 62 then s0 0 else s0 14
  else if p = [60, 33, 45] then
    if c = 45 then s0 13 else if c = 62 then s0 0 else s0 14
  else if c = 60 then ⟨0, [], [], [60]⟩ else s0 0
def commentS (p : List UInt8) (c : UInt8) : HS :=
  if p = [45, 45] ∧ c = 62 then s0 0 else if c ≠ 45 then s0 13 else if p = [] then ⟨13, [], [], [45]⟩ else ⟨13, [], [], [45, 45]⟩
def urlA (a : List UInt8) : Bool := decide (a = [104, 114, 101, 102]) || (decide (a = [115, 114, 99]) || (decide (a = [97, 99, 116, 105, 111, 110]) || decide (a = [102, 111, 114, 109, 97, 99, 116, 105, 111, 110])))
def rawA (a : List UInt8) : Bool := decide (a = [115, 116, 121, 108, 101]) || (decide (a = [115, 114, 99, 100, 111, 99]) || decide (a.take 2 = [111, 110]))
def quotedC (a : List UInt8) (c : UInt8) : Nat := (if rawA a = true then 11 else if urlA a = true then 9 else 7) + (if c = 39 then 1 else 0)
def tagS (s : HS) (c : UInt8) : HS :=
  if c = 62 ∧ s.c ≤ 6 then openS s.n
  else if s.c = 2 then (if spcB c = true ∨ c = 47 then ⟨1, s.n, [], []⟩ else ⟨2, addL s.n c, s.a, s.p⟩)
  else if s.c = 1 then (if spcB c = false ∧ c ≠ 47 then ⟨3, s.n, addL [] c, []⟩ else s)
  else if s.c = 3 ∨ s.c = 4 then
    (if spcB c = true then ⟨4, s.n, s.a, s.p⟩ else if c = 47 then ⟨1, s.n, [], []⟩ else if c = 61 then ⟨5, s.n, s.a, s.p⟩ else if s.c = 4 then ⟨3, s.n, addL [] c, []⟩ else ⟨s.c, s.n, addL s.a c, s.p⟩)
  else if s.c = 5 then (if c = 34 ∨ c = 39 then ⟨quotedC s.a c, s.n, [], []⟩ else if spcB c = false then ⟨6, s.n, [], []⟩ else s)
  else if s.c = 6 then (if spcB c = true then ⟨1, s.n, [], []⟩ else s)
  else if s.c = 7 ∨ s.c = 9 ∨ s.c = 11 then (if c = 34 then ⟨1, s.n, [], []⟩ else s)
  else if s.c = 8 ∨ s.c = 10 ∨ s.c = 12 then (if c = 39 then ⟨1, s.n, [], []⟩ else s)
  else s
def codeC (k : Nat) : Nat := if 19 ≤ k then 19 else 16
def endL (k : Nat) : List UInt8 := 60 :: 47 :: (if 19 ≤ k then styleL else scriptL)
def rawS (s : HS) (c : UInt8) : HS :=
  if s.p.head? = some 60 ∧ (endL s.c)[s.p.length]? = some (lowB c) then
    (if s.p ++ [lowB c] = endL s.c then s0 15 else ⟨s.c, s.n, s.a, s.p ++ [lowB c]⟩)
  else if c = 60 then ⟨s.c, s.n, s.a, [60]⟩
  else if s.p = [92] then ⟨s.c, s.n, s.a, []⟩
  else if s.c = codeC s.c then ⟨if c = 34 then codeC s.c + 1 else if c = 39 then codeC s.c + 2 else s.c, s.n, s.a, []⟩
  else ⟨if c = (if s.c = codeC s.c + 2 then 39 else 34) ∨ c = 10 then codeC s.c else s.c, s.n, s.a, if c = 92 then [92] else []⟩
def stepS (s : HS) (c : UInt8) : HS :=
  if s.c = 0 then textS s.p c else if s.c ≤ 12 then tagS s c else if s.c = 13 then commentS s.p c else if s.c ≤ 15 then (if c = 62 then s0 0 else s) else rawS s c
def runS (s : HS) (t : List UInt8) : HS := t.foldl stepS s
theorem runS_cons (s : HS) (c : UInt8) (t : List UInt8) : runS s (c :: t) = runS (stepS s c) t := rfl
theorem runS_append (s : HS) (t u : List UInt8) : runS s (t ++ u) = runS (runS s t) u := List.foldl_append
theorem runS_take {s : HS} {t : List UInt8} {i : Nat} {c : UInt8} (h : t[i]? = some c) : runS s (t.take (i + 1)) = stepS (runS s (t.take i)) c := by
  have e : t.take (i + 1) = t.take i ++ [c] := by rw [List.take_add_one, h]; rfl
  rw [e, runS_append]
  rfl
/-- The escaper of a state. -/
def escS (s : HS) : Nat × Bool :=
  if s.p ≠ [] then (0, false)
  else if s.c = 0 then (0, true)
  else if s.c = 7 ∨ s.c = 8 then (1, true)
  else if s.c = 9 ∨ s.c = 10 then (2, true)
  else if s.c = 17 ∨ s.c = 18 then (3, true)
  else if s.c = 20 ∨ s.c = 21 then (4, true)
  else (0, false)
/-! ### What is true of all states that come up -/
/-- A name: at most 16 bytes, none a capital letter. -/
def NmOk (l : List UInt8) : Prop := l.length ≤ 16 ∧ ∀ b, b ∈ l → ¬ (65 ≤ b.toNat ∧ b.toNat ≤ 90)
def PtOk (k : Nat) (p : List UInt8) : Prop := p = [] ∨ (p = [92] ∧ k ≠ codeC k) ∨ (0 < p.length ∧ p.length < (endL k).length ∧ p = (endL k).take p.length)
structure Inv (s : HS) : Prop where
  c : s.c ≤ 21
  n : NmOk s.n
  a : NmOk s.a
  n0 : s.c = 0 ∨ 13 ≤ s.c → s.n = []
  a0 : s.c ≠ 3 ∧ s.c ≠ 4 ∧ s.c ≠ 5 → s.a = []
  p1 : 1 ≤ s.c ∧ s.c ≤ 12 → s.p = []
  p0 : s.c = 0 → s.p = [] ∨ s.p = [60] ∨ s.p = [60, 47] ∨ s.p = [60, 33] ∨ s.p = [60, 33, 45]
  p13 : s.c = 13 → s.p = [] ∨ s.p = [45] ∨ s.p = [45, 45]
  p14 : s.c = 14 ∨ s.c = 15 → s.p = []
  p16 : 16 ≤ s.c → PtOk s.c s.p
theorem nm_nil : NmOk [] := ⟨by simp, fun b h => by cases h⟩
theorem low_all : ∀ c : UInt8, ¬ (65 ≤ (lowB c).toNat ∧ (lowB c).toNat ≤ 90) := by
  intro c h
  unfold lowB at h
  split at h
  · rename_i hc
    have : (c + 32).toNat = c.toNat + 32 := by
      rw [UInt8.toNat_add]
      show (c.toNat + 32) % 256 = _
      omega
    omega
  · rename_i hc
    exact hc h
theorem nm_add {l : List UInt8} (h : NmOk l) (c : UInt8) : NmOk (addL l c) := by
  unfold addL
  split
  · exact h
  · rename_i hl
    refine ⟨by rw [List.length_append]; simp; omega, fun b hb => ?_⟩
    rcases List.mem_append.1 hb with h1 | h1
    · exact h.2 b h1
    · rw [List.mem_singleton] at h1; subst h1; exact low_all c
theorem Inv.init : Inv (s0 0) := by
  refine ⟨?_, nm_nil, nm_nil, fun _ => rfl, fun _ => rfl, fun h => ?_, fun _ => .inl rfl, fun h => ?_, fun h => ?_, fun h => ?_⟩ <;> simp [s0] at * <;> omega
theorem inv_s0 {k : Nat} (hk : k ≤ 21) (h : k = 0 ∨ 13 ≤ k) : Inv (s0 k) := by
  refine ⟨hk, nm_nil, nm_nil, fun _ => rfl, fun _ => rfl, fun _ => rfl, fun _ => .inl rfl, fun _ => .inl rfl, fun _ => rfl, fun _ => .inl rfl⟩
/-- States of tags: no part, a name. -/
theorem inv_tag {k : Nat} {n : List UInt8} (h1 : 1 ≤ k) (h2 : k ≤ 12) (hn : NmOk n) : Inv ⟨k, n, [], []⟩ := by
  refine ⟨by show k ≤ 21; omega, hn, nm_nil, fun h => ?_, fun _ => rfl, fun _ => rfl, fun _ => .inl rfl, fun _ => .inl rfl, fun _ => rfl, fun _ => .inl rfl⟩
  have : k = 0 ∨ 13 ≤ k := h
  omega
theorem inv_attr {k : Nat} {n a : List UInt8} (h : k = 3 ∨ k = 4 ∨ k = 5) (hn : NmOk n) (ha : NmOk a) : Inv ⟨k, n, a, []⟩ := by
  refine ⟨by show k ≤ 21; omega, hn, ha, fun h => ?_, fun h => ?_, fun _ => rfl, fun _ => .inl rfl, fun _ => .inl rfl, fun _ => rfl, fun _ => .inl rfl⟩
  · have : k = 0 ∨ 13 ≤ k := h
    omega
  · have : k ≠ 3 ∧ k ≠ 4 ∧ k ≠ 5 := h
    omega
theorem inv_part {p : List UInt8} (h : p = [] ∨ p = [60] ∨ p = [60, 47] ∨ p = [60, 33] ∨ p = [60, 33, 45]) : Inv ⟨0, [], [], p⟩ := by
  refine ⟨by show 0 ≤ 21; omega, nm_nil, nm_nil, fun _ => rfl, fun _ => rfl, fun h => ?_, fun _ => h, fun h => ?_, fun h => ?_, fun h => ?_⟩
  · have : 1 ≤ 0 ∧ 0 ≤ 12 := h; omega
  · have : 0 = 13 := h; omega
  · have : 0 = 14 ∨ 0 = 15 := h; omega
  · have : 16 ≤ 0 := h; omega
theorem inv_com {p : List UInt8} (h : p = [] ∨ p = [45] ∨ p = [45, 45]) : Inv ⟨13, [], [], p⟩ := by
  refine ⟨by show 13 ≤ 21; omega, nm_nil, nm_nil, fun _ => rfl, fun _ => rfl, fun h => ?_, fun h => ?_, fun _ => h, fun h => ?_, fun h => ?_⟩
  · have : 1 ≤ 13 ∧ 13 ≤ 12 := h; omega
  · have : 13 = 0 := h; omega
  · have : 13 = 14 ∨ 13 = 15 := h; omega
  · have : 16 ≤ 13 := h; omega
theorem inv_raw {k : Nat} {p : List UInt8} (h1 : 16 ≤ k) (h2 : k ≤ 21) (h : PtOk k p) : Inv ⟨k, [], [], p⟩ := by
  refine ⟨h2, nm_nil, nm_nil, fun _ => rfl, fun _ => rfl, fun h => ?_, fun h => ?_, fun h => ?_, fun h => ?_, fun _ => h⟩
  · have : 1 ≤ k ∧ k ≤ 12 := h; omega
  · have : k = 0 := h; omega
  · have : k = 13 := h; omega
  · have : k = 14 ∨ k = 15 := h; omega
theorem inv_open (n : List UInt8) : Inv (openS n) := by
  unfold openS
  split
  · exact inv_s0 (by omega) (by omega)
  · split
    · exact inv_s0 (by omega) (by omega)
    · exact inv_s0 (by omega) (by omega)
theorem quoted_range (a : List UInt8) (c : UInt8) : 7 ≤ quotedC a c ∧ quotedC a c ≤ 12 := by
  unfold quotedC
  constructor <;> (split <;> split) <;> (try split) <;> omega
theorem inv_step {s : HS} (h : Inv s) (c : UInt8) : Inv (stepS s c) := by
  unfold stepS
  split
  · unfold textS
    split
    · split
      · exact inv_tag (by omega) (by omega) (nm_add nm_nil c)
      · split
        · rename_i hc
          rcases hc with rfl | rfl
          · exact inv_part (by simp)
          · exact inv_part (by simp)
        · split
          · exact inv_part (by simp)
          · exact Inv.init
    · split
      · split
        · exact inv_s0 (by omega) (by omega)
        · split
          · exact inv_part (by simp)
          · exact Inv.init
      · split
        · split
          · exact inv_part (by simp)
          · split
            · exact Inv.init
            · exact inv_s0 (by omega) (by omega)
        · split
          · split
            · exact inv_s0 (by omega) (by omega)
            · split
              · exact Inv.init
              · exact inv_s0 (by omega) (by omega)
          · split
            · exact inv_part (by simp)
            · exact Inv.init
  · rename_i h0
    split
    · rename_i h12
      have hp := h.p1 ⟨by omega, h12⟩
      unfold tagS
      split
      · exact inv_open _
      split
      · rename_i hc
        have ha := h.a0 (by omega)
        split
        · exact inv_tag (by omega) (by omega) h.n
        · rw [ha, hp]; exact inv_tag (by omega) (by omega) (nm_add h.n c)
      split
      · split
        · exact inv_attr (by omega) h.n (nm_add nm_nil c)
        · exact h
      split
      · rename_i hc
        split
        · rw [hp]; exact inv_attr (by omega) h.n h.a
        split
        · exact inv_tag (by omega) (by omega) h.n
        split
        · rw [hp]; exact inv_attr (by omega) h.n h.a
        split
        · exact inv_attr (by omega) h.n (nm_add nm_nil c)
        · rw [hp]; exact inv_attr (by omega) h.n (nm_add h.a c)
      split
      · split
        · have := quoted_range s.a c
          exact inv_tag (by omega) (by omega) h.n
        split
        · exact inv_tag (by omega) (by omega) h.n
        · exact h
      split
      · split
        · exact inv_tag (by omega) (by omega) h.n
        · exact h
      split
      · split
        · exact inv_tag (by omega) (by omega) h.n
        · exact h
      split
      · split
        · exact inv_tag (by omega) (by omega) h.n
        · exact h
      · exact h
    split
    · unfold commentS
      split
      · exact Inv.init
      split
      · exact inv_com (by simp)
      split
      · exact inv_com (by simp)
      · exact inv_com (by simp)
    split
    · split
      · exact Inv.init
      · exact h
    · have h16 : 16 ≤ s.c := by omega
      have hn := h.n0 (by omega)
      have ha := h.a0 (by omega)
      have hc := h.c
      have hp := h.p16 h16
      have hcode : codeC s.c = 16 ∨ codeC s.c = 19 := by unfold codeC; split <;> simp
      have hcc : ∀ j, j ≤ 2 → codeC s.c ≤ s.c → codeC (codeC s.c + j) = codeC s.c ∧ 16 ≤ codeC s.c + j ∧ codeC s.c + j ≤ 21 := fun j hj hle => by
        unfold codeC
        split <;> split <;> omega
      have hle : codeC s.c ≤ s.c := by unfold codeC; split <;> omega
      unfold rawS
      rw [hn, ha]
      split
      · rename_i hr
        split
        · exact inv_s0 (by omega) (by omega)
        · rename_i hne
          refine inv_raw h16 hc (.inr (.inr ?_))
          have hlt : s.p.length < (endL s.c).length := (List.getElem?_eq_some_iff.1 hr.2).1
          have hpe : s.p = (endL s.c).take s.p.length := by
            rcases hp with h1 | h1 | h1
            · rw [h1]; rfl
            · have := hr.1; rw [h1.1] at this; simp at this
            · exact h1.2.2
          have e : s.p ++ [lowB c] = (endL s.c).take (s.p ++ [lowB c]).length := by
            rw [List.length_append, List.length_singleton, List.take_add_one, hr.2, ← hpe]
            rfl
          refine ⟨by simp, ?_, e⟩
          rw [List.length_append, List.length_singleton]
          rcases Nat.lt_or_ge (s.p.length + 1) (endL s.c).length with h1 | h1
          · exact h1
          · exfalso
            rw [List.length_append, List.length_singleton, List.take_of_length_le h1] at e
            exact hne e
      split
      · exact inv_raw h16 hc (.inr (.inr (by
          have : (endL s.c).length = 7 ∨ (endL s.c).length = 8 := by unfold endL; split <;> simp [styleL, scriptL]
          refine ⟨by simp, by simp; omega, ?_⟩
          unfold endL
          rfl)))
      split
      · exact inv_raw h16 hc (.inl rfl)
      split
      · have h1 := hcc 1 (by omega) hle
        have h2 := hcc 2 (by omega) hle
        refine inv_raw ?_ ?_ (.inl rfl)
        · split
          · omega
          · split <;> omega
        · split
          · omega
          · split <;> omega
      · rename_i hnc
        by_cases hb : c = 92
        · subst hb
          have : ¬ ((92 : UInt8) = (if s.c = codeC s.c + 2 then 39 else 34) ∨ (92 : UInt8) = 10) := by
            split <;> decide
          rw [if_neg this, if_pos rfl]
          exact inv_raw h16 hc (.inr (.inl ⟨rfl, hnc⟩))
        · rw [if_neg hb]
          generalize (if s.c = codeC s.c + 2 then (39 : UInt8) else 34) = q
          refine inv_raw ?_ ?_ (.inl rfl)
          · split <;> omega
          · split <;> omega
theorem inv_run {s : HS} (h : Inv s) : ∀ t : List UInt8, Inv (runS s t) := by
  intro t
  induction t generalizing s with
  | nil => exact h
  | cons c t ih => exact ih (inv_step h c)
end Go.Proofs.YtpcapmdfjmpdiaaGreatDoor
