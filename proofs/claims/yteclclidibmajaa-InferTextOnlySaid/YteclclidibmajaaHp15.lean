/-
  The automaton of layer 15 as plain data: states, a step, a run, what is true of all states that come up; the laws' plain side. No program is imported here.
-/
import Derived.Test.YteclclidibmajaaParts
namespace Go.Proofs.Yteclclidibmajaa
set_option linter.unusedVariables false
set_option linter.unusedSimpArgs false

/-- A state: the context, the name, the attribute, the part. -/
structure HS where
  c : Nat
  n : List UInt8
  a : List UInt8
  p : List UInt8
namespace HS
theorem ext_ {s t : HS} (h1 : s.c = t.c) (h2 : s.n = t.n) (h3 : s.a = t.a) (h4 : s.p = t.p) : s = t := by
  cases s; cases t; simp only at h1 h2 h3 h4; subst h1 h2 h3 h4; rfl
end HS
def s0 (c : Nat) : HS := ⟨c, [], [], []⟩
def lowB (c : UInt8) : UInt8 := if 65 ≤ c.toNat ∧ c.toNat ≤ 90 then c + 32 else c
def ltrB (c : UInt8) : Bool := decide (97 ≤ (lowB c).toNat) && decide ((lowB c).toNat ≤ 122)
def spcB (c : UInt8) : Bool := c == 32 || (c == 9 || (c == 10 || (c == 12 || c == 13)))
def addL (s : List UInt8) (c : UInt8) : List UInt8 := if 16 ≤ s.length then s else s ++ [lowB c]
def scriptL : List UInt8 := [115, 99, 114, 105, 112, 116]
def styleL : List UInt8 := [115, 116, 121, 108, 101]
def openS (n : List UInt8) : HS := if n = scriptL then s0 16 else if n = styleL then s0 19 else s0 0
def textS (p : List UInt8) (c : UInt8) : HS :=
  if p = [60] then
    if ltrB c = true then ⟨2, addL [] c, [], []⟩
    else if c = 47 ∨ c = 33 then ⟨0, [], [], [60, c]⟩
    else if c = 60 then ⟨0, [], [], [60]⟩ else s0 0
  else if p = [60, 47] then
    if ltrB c = true then s0 15
    else if c = 60 then ⟨0, [], [], [60]⟩ else s0 0
  else if p = [60, 33] then
    if c = 45 then ⟨0, [], [], [60, 33, 45]⟩ else if c = 62 then s0 0 else s0 14
  else if p = [60, 33, 45] then
    if c = 45 then s0 13 else if c = 62 then s0 0 else s0 14
  else if c = 60 then ⟨0, [], [], [60]⟩ else s0 0
def commentS (p : List UInt8) (c : UInt8) : HS :=
  if p = [45, 45] ∧ c = 62 then s0 0 else if c ≠ 45 then s0 13 else if p = [] then ⟨13, [], [], [45]⟩ else ⟨13, [], [], [45, 45]⟩
def urlA (a : List UInt8) : Bool := decide (a = [104, 114, 101, 102]) || (decide (a = [115, 114, 99]) || (decide (a = [97, 99, 116, 105, 111, 110]) || decide (a = [102, 111, 114, 109, 97, 99, 116, 105, 111, 110])))
def rawA (a : List UInt8) : Bool := decide (a = [115, 116, 121, 108, 101]) || (decide (a = [115, 114, 99, 100, 111, 99]) || decide (a.take 2 = [111, 110]))
def quotedC (a : List UInt8) (c : UInt8) : Nat := (if rawA a = true then 11 else if urlA a = true then 9 else 7) + (if c = 39 then 1 else 0)
def tagS (s : HS) (c : UInt8) : HS :=
  if c = 62 ∧ s.c ≤ 6 then openS s.n
  else if s.c = 2 then (if spcB c = true ∨ c = 47 then ⟨1, s.n, [], []⟩ else ⟨2, addL s.n c, s.a, s.p⟩)
  else if s.c = 1 then (if spcB c = false ∧ c ≠ 47 then ⟨3, s.n, addL [] c, []⟩ else s)
  else if s.c = 3 ∨ s.c = 4 then
    (if spcB c = true then ⟨4, s.n, s.a, s.p⟩ else if c = 47 then ⟨1, s.n, [], []⟩ else if c = 61 then ⟨5, s.n, s.a, s.p⟩ else if s.c = 4 then ⟨3, s.n, addL [] c, []⟩ else ⟨s.c, s.n, addL s.a c, s.p⟩)
  else if s.c = 5 then (if c = 34 ∨ c = 39 then ⟨quotedC s.a c, s.n, [], []⟩ else if spcB c = false then ⟨6, s.n, [], []⟩ else s)
  else if s.c = 6 then (if spcB c = true then ⟨1, s.n, [], []⟩ else s)
  else if s.c = 7 ∨ s.c = 9 ∨ s.c = 11 then (if c = 34 then ⟨1, s.n, [], []⟩ else s)
  else if s.c = 8 ∨ s.c = 10 ∨ s.c = 12 then (if c = 39 then ⟨1, s.n, [], []⟩ else s)
  else s
def codeC (k : Nat) : Nat := if 19 ≤ k then 19 else 16
def endL (k : Nat) : List UInt8 := 60 :: 47 :: (if 19 ≤ k then styleL else scriptL)
def rawS (s : HS) (c : UInt8) : HS :=
  if s.p.head? = some 60 ∧ (endL s.c)[s.p.length]? = some (lowB c) then
    (if s.p ++ [lowB c] = endL s.c then s0 15 else ⟨s.c, s.n, s.a, s.p ++ [lowB c]⟩)
  else if c = 60 then ⟨s.c, s.n, s.a, [60]⟩
  else if s.p = [92] then ⟨s.c, s.n, s.a, []⟩
  else if s.c = codeC s.c then ⟨if c = 34 then codeC s.c + 1 else if c = 39 then codeC s.c + 2 else s.c, s.n, s.a, []⟩
  else ⟨if c = (if s.c = codeC s.c + 2 then 39 else 34) ∨ c = 10 then codeC s.c else s.c, s.n, s.a, if c = 92 then [92] else []⟩
def stepS (s : HS) (c : UInt8) : HS :=
  if s.c = 0 then textS s.p c else if s.c ≤ 12 then tagS s c else if s.c = 13 then commentS s.p c else if s.c ≤ 15 then (if c = 62 then s0 0 else s) else rawS s c
def runS (s : HS) (t : List UInt8) : HS := t.foldl stepS s
theorem runS_nil (s : HS) : runS s [] = s := rfl
theorem runS_cons (s : HS) (c : UInt8) (t : List UInt8) : runS s (c :: t) = runS (stepS s c) t := rfl
theorem runS_append (s : HS) (t u : List UInt8) : runS s (t ++ u) = runS (runS s t) u := List.foldl_append
theorem runS_take {s : HS} {t : List UInt8} {i : Nat} {c : UInt8} (h : t[i]? = some c) : runS s (t.take (i + 1)) = stepS (runS s (t.take i)) c := by
  have e : t.take (i + 1) = t.take i ++ [c] := by rw [List.take_add_one, h]; rfl
  rw [e, runS_append]
  rfl
/-- The escaper of a state. -/
def escS (s : HS) : Nat × Bool :=
  if s.p ≠ [] then (0, false)
  else if s.c = 0 then (0, true)
  else if s.c = 7 ∨ s.c = 8 then (1, true)
  else if s.c = 9 ∨ s.c = 10 then (2, true)
  else if s.c = 17 ∨ s.c = 18 then (3, true)
  else if s.c = 20 ∨ s.c = 21 then (4, true)
  else (0, false)

/-! ### What is true of all states that come up -/
/-- A name: at most 16 bytes, none a capital letter. -/
def NmOk (l : List UInt8) : Prop := l.length ≤ 16 ∧ ∀ b, b ∈ l → ¬ (65 ≤ b.toNat ∧ b.toNat ≤ 90)
def PtOk (k : Nat) (p : List UInt8) : Prop := p = [] ∨ (p = [92] ∧ k ≠ codeC k) ∨ (0 < p.length ∧ p.length < (endL k).length ∧ p = (endL k).take p.length)
structure Inv (s : HS) : Prop where
  c : s.c ≤ 21
  n : NmOk s.n
  a : NmOk s.a
  n0 : s.c = 0 ∨ 13 ≤ s.c → s.n = []
  a0 : s.c ≠ 3 ∧ s.c ≠ 4 ∧ s.c ≠ 5 → s.a = []
  p1 : 1 ≤ s.c ∧ s.c ≤ 12 → s.p = []
  p0 : s.c = 0 → s.p = [] ∨ s.p = [60] ∨ s.p = [60, 47] ∨ s.p = [60, 33] ∨ s.p = [60, 33, 45]
  p13 : s.c = 13 → s.p = [] ∨ s.p = [45] ∨ s.p = [45, 45]
  p14 : s.c = 14 ∨ s.c = 15 → s.p = []
  p16 : 16 ≤ s.c → PtOk s.c s.p
theorem nm_nil : NmOk [] := ⟨by simp, fun b h => by cases h⟩
theorem low_all : ∀ c : UInt8, ¬ (65 ≤ (lowB c).toNat ∧ (lowB c).toNat ≤ 90) := by
  intro c h
  unfold lowB at h
  split at h
  · rename_i hc
    have : (c + 32).toNat = c.toNat + 32 := by
      rw [UInt8.toNat_add]
      show (c.toNat + 32) % 256 = _
      omega
    omega
  · rename_i hc
    exact hc h
theorem nm_add {l : List UInt8} (h : NmOk l) (c : UInt8) : NmOk (addL l c) := by
  unfold addL
  split
  · exact h
  · rename_i hl
    refine ⟨by rw [List.length_append]; simp; omega, fun b hb => ?_⟩
    rcases List.mem_append.1 hb with h1 | h1
    · exact h.2 b h1
    · rw [List.mem_singleton] at h1; subst h1; exact low_all c
theorem Inv.init : Inv (s0 0) := by
  refine ⟨?_, nm_nil, nm_nil, fun _ => rfl, fun _ => rfl, fun h => ?_, fun _ => .inl rfl, fun h => ?_, fun h => ?_, fun h => ?_⟩ <;> simp [s0] at * <;> omega
theorem inv_s0 {k : Nat} (hk : k ≤ 21) (h : k = 0 ∨ 13 ≤ k) : Inv (s0 k) := by
  refine ⟨hk, nm_nil, nm_nil, fun _ => rfl, fun _ => rfl, fun _ => rfl, fun _ => .inl rfl, fun _ => .inl rfl, fun _ => rfl, fun _ => .inl rfl⟩
/-- States of tags: no part, a name. -/
theorem inv_tag {k : Nat} {n : List UInt8} (h1 : 1 ≤ k) (h2 : k ≤ 12) (hn : NmOk n) : Inv ⟨k, n, [], []⟩ := by
  refine ⟨by show k ≤ 21; omega, hn, nm_nil, fun h => ?_, fun _ => rfl, fun _ => rfl, fun _ => .inl rfl, fun _ => .inl rfl, fun _ => rfl, fun _ => .inl rfl⟩
  have : k = 0 ∨ 13 ≤ k := h
  omega
theorem inv_attr {k : Nat} {n a : List UInt8} (h : k = 3 ∨ k = 4 ∨ k = 5) (hn : NmOk n) (ha : NmOk a) : Inv ⟨k, n, a, []⟩ := by
  refine ⟨by show k ≤ 21; omega, hn, ha, fun h => ?_, fun h => ?_, fun _ => rfl, fun _ => .inl rfl, fun _ => .inl rfl, fun _ => rfl, fun _ => .inl rfl⟩
  · have : k = 0 ∨ 13 ≤ k := h
    omega
  · have : k ≠ 3 ∧ k ≠ 4 ∧ k ≠ 5 := h
    omega
theorem inv_part {p : List UInt8} (h : p = [] ∨ p = [60] ∨ p = [60, 47] ∨ p = [60, 33] ∨ p = [60, 33, 45]) : Inv ⟨0, [], [], p⟩ := by
  refine ⟨by show 0 ≤ 21; omega, nm_nil, nm_nil, fun _ => rfl, fun _ => rfl, fun h => ?_, fun _ => h, fun h => ?_, fun h => ?_, fun h => ?_⟩
  · have : 1 ≤ 0 ∧ 0 ≤ 12 := h; omega
  · have : 0 = 13 := h; omega
  · have : 0 = 14 ∨ 0 = 15 := h; omega
  · have : 16 ≤ 0 := h; omega
theorem inv_com {p : List UInt8} (h : p = [] ∨ p = [45] ∨ p = [45, 45]) : Inv ⟨13, [], [], p⟩ := by
  refine ⟨by show 13 ≤ 21; omega, nm_nil, nm_nil, fun _ => rfl, fun _ => rfl, fun h => ?_, fun h => ?_, fun _ => h, fun h => ?_, fun h => ?_⟩
  · have : 1 ≤ 13 ∧ 13 ≤ 12 := h; omega
  · have : 13 = 0 := h; omega
  · have : 13 = 14 ∨ 13 = 15 := h; omega
  · have : 16 ≤ 13 := h; omega
theorem inv_raw {k : Nat} {p : List UInt8} (h1 : 16 ≤ k) (h2 : k ≤ 21) (h : PtOk k p) : Inv ⟨k, [], [], p⟩ := by
  refine ⟨h2, nm_nil, nm_nil, fun _ => rfl, fun _ => rfl, fun h => ?_, fun h => ?_, fun h => ?_, fun h => ?_, fun _ => h⟩
  · have : 1 ≤ k ∧ k ≤ 12 := h; omega
  · have : k = 0 := h; omega
  · have : k = 13 := h; omega
  · have : k = 14 ∨ k = 15 := h; omega
theorem inv_open (n : List UInt8) : Inv (openS n) := by
  unfold openS
  split
  · exact inv_s0 (by omega) (by omega)
  · split
    · exact inv_s0 (by omega) (by omega)
    · exact inv_s0 (by omega) (by omega)
theorem quoted_range (a : List UInt8) (c : UInt8) : 7 ≤ quotedC a c ∧ quotedC a c ≤ 12 := by
  unfold quotedC
  constructor <;> (split <;> split) <;> (try split) <;> omega
theorem inv_step {s : HS} (h : Inv s) (c : UInt8) : Inv (stepS s c) := by
  unfold stepS
  split
  · unfold textS
    split
    · split
      · exact inv_tag (by omega) (by omega) (nm_add nm_nil c)
      · split
        · rename_i hc
          rcases hc with rfl | rfl
          · exact inv_part (by simp)
          · exact inv_part (by simp)
        · split
          · exact inv_part (by simp)
          · exact Inv.init
    · split
      · split
        · exact inv_s0 (by omega) (by omega)
        · split
          · exact inv_part (by simp)
          · exact Inv.init
      · split
        · split
          · exact inv_part (by simp)
          · split
            · exact Inv.init
            · exact inv_s0 (by omega) (by omega)
        · split
          · split
            · exact inv_s0 (by omega) (by omega)
            · split
              · exact Inv.init
              · exact inv_s0 (by omega) (by omega)
          · split
            · exact inv_part (by simp)
            · exact Inv.init
  · rename_i h0
    split
    · rename_i h12
      have hp := h.p1 ⟨by omega, h12⟩
      unfold tagS
      split
      · exact inv_open _
      split
      · rename_i hc
        have ha := h.a0 (by omega)
        split
        · exact inv_tag (by omega) (by omega) h.n
        · rw [ha, hp]; exact inv_tag (by omega) (by omega) (nm_add h.n c)
      split
      · split
        · exact inv_attr (by omega) h.n (nm_add nm_nil c)
        · exact h
      split
      · rename_i hc
        split
        · rw [hp]; exact inv_attr (by omega) h.n h.a
        split
        · exact inv_tag (by omega) (by omega) h.n
        split
        · rw [hp]; exact inv_attr (by omega) h.n h.a
        split
        · exact inv_attr (by omega) h.n (nm_add nm_nil c)
        · rw [hp]; exact inv_attr (by omega) h.n (nm_add h.a c)
      split
      · split
        · have := quoted_range s.a c
          exact inv_tag (by omega) (by omega) h.n
        split
        · exact inv_tag (by omega) (by omega) h.n
        · exact h
      split
      · split
        · exact inv_tag (by omega) (by omega) h.n
        · exact h
      split
      · split
        · exact inv_tag (by omega) (by omega) h.n
        · exact h
      split
      · split
        · exact inv_tag (by omega) (by omega) h.n
        · exact h
      · exact h
    split
    · unfold commentS
      split
      · exact Inv.init
      split
      · exact inv_com (by simp)
      split
      · exact inv_com (by simp)
      · exact inv_com (by simp)
    split
    · split
      · exact Inv.init
      · exact h
    · have h16 : 16 ≤ s.c := by omega
      have hn := h.n0 (by omega)
      have ha := h.a0 (by omega)
      have hc := h.c
      have hp := h.p16 h16
      have hcode : codeC s.c = 16 ∨ codeC s.c = 19 := by unfold codeC; split <;> simp
      have hcc : ∀ j, j ≤ 2 → codeC s.c ≤ s.c → codeC (codeC s.c + j) = codeC s.c ∧ 16 ≤ codeC s.c + j ∧ codeC s.c + j ≤ 21 := fun j hj hle => by
        unfold codeC
        split <;> split <;> omega
      have hle : codeC s.c ≤ s.c := by unfold codeC; split <;> omega
      unfold rawS
      rw [hn, ha]
      split
      · rename_i hr
        split
        · exact inv_s0 (by omega) (by omega)
        · rename_i hne
          refine inv_raw h16 hc (.inr (.inr ?_))
          have hlt : s.p.length < (endL s.c).length := (List.getElem?_eq_some_iff.1 hr.2).1
          have hpe : s.p = (endL s.c).take s.p.length := by
            rcases hp with h1 | h1 | h1
            · rw [h1]; rfl
            · have := hr.1; rw [h1.1] at this; simp at this
            · exact h1.2.2
          have e : s.p ++ [lowB c] = (endL s.c).take (s.p ++ [lowB c]).length := by
            rw [List.length_append, List.length_singleton, List.take_add_one, hr.2, ← hpe]
            rfl
          refine ⟨by simp, ?_, e⟩
          rw [List.length_append, List.length_singleton]
          rcases Nat.lt_or_ge (s.p.length + 1) (endL s.c).length with h1 | h1
          · exact h1
          · exfalso
            rw [List.length_append, List.length_singleton, List.take_of_length_le h1] at e
            exact hne e
      split
      · exact inv_raw h16 hc (.inr (.inr (by
          have : (endL s.c).length = 7 ∨ (endL s.c).length = 8 := by unfold endL; split <;> simp [styleL, scriptL]
          refine ⟨by simp, by simp; omega, ?_⟩
          unfold endL
          rfl)))
      split
      · exact inv_raw h16 hc (.inl rfl)
      split
      · have h1 := hcc 1 (by omega) hle
        have h2 := hcc 2 (by omega) hle
        refine inv_raw ?_ ?_ (.inl rfl)
        · split
          · omega
          · split <;> omega
        · split
          · omega
          · split <;> omega
      · rename_i hnc
        by_cases hb : c = 92
        · subst hb
          have : ¬ ((92 : UInt8) = (if s.c = codeC s.c + 2 then 39 else 34) ∨ (92 : UInt8) = 10) := by
            split <;> decide
          rw [if_neg this, if_pos rfl]
          exact inv_raw h16 hc (.inr (.inl ⟨rfl, hnc⟩))
        · rw [if_neg hb]
          generalize (if s.c = codeC s.c + 2 then (39 : UInt8) else 34) = q
          refine inv_raw ?_ ?_ (.inl rfl)
          · split <;> omega
          · split <;> omega
theorem inv_run {s : HS} (h : Inv s) : ∀ t : List UInt8, Inv (runS s t) := by
  intro t
  induction t generalizing s with
  | nil => exact h
  | cons c t ih => exact ih (inv_step h c)
end Go.Proofs.Yteclclidibmajaa
