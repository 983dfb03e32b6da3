/-
  The laws of layer 15 as plain data: elements and their ends, the bounds of names. No program is imported here.
-/
import Derived.Test.YteclclidibmajaaHp15
namespace Go.Proofs.Yteclclidibmajaa
set_option linter.unusedVariables false
set_option linter.unusedSimpArgs false

/-! ### Bounds -/
theorem end_low (k : Nat) : ∀ b, b ∈ endL k → ¬ (65 ≤ b.toNat ∧ b.toNat ≤ 90) := by
  unfold endL
  split <;> intro b hb <;> simp [styleL, scriptL] at hb <;> rcases hb with rfl | rfl | rfl | rfl | rfl | rfl | rfl | rfl <;> decide
theorem end_len (k : Nat) : (endL k).length ≤ 8 := by unfold endL; split <;> simp [styleL, scriptL]
theorem Inv.part {s : HS} (h : Inv s) : s.p.length ≤ 7 ∧ ∀ b, b ∈ s.p → ¬ (65 ≤ b.toNat ∧ b.toNat ≤ 90) := by
  have key : ∀ q : List UInt8, s.p = q → q.length ≤ 7 → (q.all fun b => decide (¬ (65 ≤ b.toNat ∧ b.toNat ≤ 90))) = true → s.p.length ≤ 7 ∧ ∀ b, b ∈ s.p → ¬ (65 ≤ b.toNat ∧ b.toNat ≤ 90) := fun q e h1 h2 => by
    rw [e]
    exact ⟨h1, fun b hb => of_decide_eq_true (List.all_eq_true.1 h2 b hb)⟩
  rcases Nat.lt_or_ge s.c 16 with h16 | h16
  · rcases Nat.lt_or_ge s.c 13 with h13 | h13
    · rcases Nat.eq_zero_or_pos s.c with h0 | h0
      · rcases h.p0 h0 with e | e | e | e | e <;> exact key _ e (by decide) (by decide)
      · exact key _ (h.p1 ⟨h0, by omega⟩) (by decide) (by decide)
    · by_cases h13e : s.c = 13
      · rcases h.p13 h13e with e | e | e <;> exact key _ e (by decide) (by decide)
      · exact key _ (h.p14 (by omega)) (by decide) (by decide)
  · rcases h.p16 h16 with e | e | e
    · exact key _ e (by decide) (by decide)
    · exact key _ e.1 (by decide) (by decide)
    · have := end_len s.c
      refine ⟨by omega, fun b hb => ?_⟩
      rw [e.2.2] at hb
      exact end_low s.c b (List.mem_of_mem_take hb)

/-! ### Elements -/
def lowerL (l : List UInt8) : Prop := ∀ b, b ∈ l → 97 ≤ b.toNat ∧ b.toNat ≤ 122
theorem low_id {c : UInt8} (h : 97 ≤ c.toNat ∧ c.toNat ≤ 122) : lowB c = c := by
  unfold lowB
  rw [if_neg (by omega)]
theorem ltr_low {c : UInt8} (h : 97 ≤ c.toNat ∧ c.toNat ≤ 122) : ltrB c = true := by
  unfold ltrB
  rw [low_id h]
  simp [h.1, h.2]
theorem ne_of_nat {c d : UInt8} (h : c.toNat ≠ d.toNat) : c ≠ d := fun e => h (by rw [e])
theorem spc_low {c : UInt8} (h : 97 ≤ c.toNat ∧ c.toNat ≤ 122) : spcB c = false := by
  have h1 : c ≠ 32 := ne_of_nat (by show c.toNat ≠ 32; omega)
  have h2 : c ≠ 9 := ne_of_nat (by show c.toNat ≠ 9; omega)
  have h3 : c ≠ 10 := ne_of_nat (by show c.toNat ≠ 10; omega)
  have h4 : c ≠ 12 := ne_of_nat (by show c.toNat ≠ 12; omega)
  have h5 : c ≠ 13 := ne_of_nat (by show c.toNat ≠ 13; omega)
  unfold spcB
  simp [h1, h2, h3, h4, h5]
theorem add_take (n : List UInt8) {c : UInt8} (h : lowB c = c) : addL (n.take 16) c = (n ++ [c]).take 16 := by
  unfold addL
  rw [h]
  rcases Nat.lt_or_ge n.length 16 with h1 | h1
  · rw [if_neg (by rw [List.length_take]; omega), List.take_of_length_le (by omega), List.take_of_length_le (by rw [List.length_append]; simp; omega)]
  · rw [if_pos (by rw [List.length_take]; omega), List.take_append_of_le_length h1]
theorem tag_run : ∀ (l n : List UInt8), lowerL l → runS ⟨2, n.take 16, [], []⟩ l = ⟨2, (n ++ l).take 16, [], []⟩
  | [], n, _ => by rw [runS_nil, List.append_nil]
  | c :: l, n, h => by
    have hc := h c (by simp)
    have h1 : c ≠ 62 := ne_of_nat (by show c.toNat ≠ 62; omega)
    have h2 : c ≠ 47 := ne_of_nat (by show c.toNat ≠ 47; omega)
    have e : stepS ⟨2, n.take 16, [], []⟩ c = ⟨2, (n ++ [c]).take 16, [], []⟩ := by
      unfold stepS
      simp only [show ¬ (2 : Nat) = 0 by decide, if_false, show (2 : Nat) ≤ 12 by decide, if_true]
      unfold tagS
      simp only [h1, h2, spc_low hc, false_and, if_false, if_true, Bool.false_eq_true, false_or]
      rw [add_take n (low_id hc)]
    rw [runS_cons, e, tag_run l (n ++ [c]) (fun b hb => h b (by simp [hb])), List.append_assoc]
    rfl
theorem open_take (n : List UInt8) : openS (n.take 16) = openS n := by
  have key : ∀ q : List UInt8, q.length < 16 → (n.take 16 = q ↔ n = q) := fun q hq => by
    rcases Nat.lt_or_ge n.length 16 with h | h
    · rw [List.take_of_length_le (by omega)]
    · constructor
      · intro e
        have := congrArg List.length e
        rw [List.length_take] at this
        omega
      · intro e; subst e; omega
  unfold openS
  simp only [key scriptL (by decide), key styleL (by decide)]
/-- What follows the name of a start tag: an attribute and its value. -/
def idL : List UInt8 := [32, 105, 100, 61, 34, 120, 34, 62]
theorem id_run (n : List UInt8) : runS ⟨2, n, [], []⟩ idL = openS n := by
  have e1 : stepS ⟨2, n, [], []⟩ 32 = ⟨1, n, [], []⟩ := rfl
  have e2 : stepS ⟨1, n, [], []⟩ 105 = ⟨3, n, [105], []⟩ := rfl
  have e3 : stepS ⟨3, n, [105], []⟩ 100 = ⟨3, n, [105, 100], []⟩ := rfl
  have e4 : stepS ⟨3, n, [105, 100], []⟩ 61 = ⟨5, n, [105, 100], []⟩ := rfl
  have e5 : stepS ⟨5, n, [105, 100], []⟩ 34 = ⟨7, n, [], []⟩ := rfl
  have e6 : stepS ⟨7, n, [], []⟩ 120 = ⟨7, n, [], []⟩ := rfl
  have e7 : stepS ⟨7, n, [], []⟩ 34 = ⟨1, n, [], []⟩ := rfl
  have e8 : stepS ⟨1, n, [], []⟩ 62 = openS n := rfl
  unfold idL
  rw [runS_cons, e1, runS_cons, e2, runS_cons, e3, runS_cons, e4, runS_cons, e5, runS_cons, e6, runS_cons, e7, runS_cons, e8, runS_nil]
/-- A start tag of an element. -/
theorem elem_run {n : List UInt8} (h : lowerL n) (h0 : n ≠ []) : runS (s0 0) (60 :: (n ++ idL)) = openS n := by
  cases n with
  | nil => exact absurd rfl h0
  | cons c l =>
    have hc := h c (by simp)
    have e1 : stepS (s0 0) 60 = ⟨0, [], [], [60]⟩ := rfl
    have e2 : stepS ⟨0, [], [], [60]⟩ c = ⟨2, [c].take 16, [], []⟩ := by
      show textS [60] c = _
      unfold textS
      rw [if_pos rfl, if_pos (ltr_low hc)]
      show HS.mk 2 (addL [] c) [] [] = _
      rw [show addL [] c = [lowB c] from rfl, low_id hc]
      rfl
    rw [runS_cons, e1, List.cons_append, runS_cons, e2, runS_append, tag_run l [c] (fun b hb => h b (by simp [hb])), id_run, List.singleton_append, open_take]
/-- Inside text. -/
theorem in_text : ∀ {l : List UInt8}, (∀ b, b ∈ l → b ≠ 60) → runS (s0 0) l = s0 0
  | [], _ => rfl
  | c :: l, h => by
    have hc : c ≠ 60 := h c (by simp)
    have e : stepS (s0 0) c = s0 0 := by
      show textS [] c = _
      unfold textS
      simp [hc]
    rw [runS_cons, e]
    exact in_text fun b hb => h b (by simp [hb])
/-- Inside code: the code or one of its strings, no end begun. -/
def InCode (k : Nat) (s : HS) : Prop := ∃ j p, j ≤ 2 ∧ (p = [] ∨ p = [92]) ∧ s = ⟨k + j, [], [], p⟩
theorem code_k {k j : Nat} (hk : k = 16 ∨ k = 19) (hj : j ≤ 2) : codeC (k + j) = k := by
  unfold codeC
  split <;> omega
theorem in_code_step {k : Nat} (hk : k = 16 ∨ k = 19) {s : HS} (h : InCode k s) {c : UInt8} (hc : c ≠ 60) : InCode k (stepS s c) := by
  obtain ⟨j, p, hj, hp, rfl⟩ := h
  have hp60 : ¬ (p.head? = some 60 ∧ (endL (k + j))[p.length]? = some (lowB c)) := by
    rcases hp with rfl | rfl <;> simp
  unfold stepS
  simp only
  rw [if_neg (by omega), if_neg (by omega), if_neg (by omega), if_neg (by omega)]
  unfold rawS
  simp only
  rw [if_neg hp60, if_neg hc, code_k hk hj]
  split
  · exact ⟨j, [], hj, .inl rfl, rfl⟩
  split
  · rename_i hkj
    by_cases h34 : c = 34
    · rw [if_pos h34]; exact ⟨1, [], by omega, .inl rfl, rfl⟩
    · rw [if_neg h34]
      by_cases h39 : c = 39
      · rw [if_pos h39]; exact ⟨2, [], by omega, .inl rfl, rfl⟩
      · rw [if_neg h39]; exact ⟨j, [], hj, .inl rfl, rfl⟩
  · have hpp : ∀ q : List UInt8, q = (if c = 92 then [92] else []) → q = [] ∨ q = [92] := fun q e => by rw [e]; split <;> simp
    generalize (if k + j = k + 2 then (39 : UInt8) else 34) = q
    split
    · exact ⟨0, _, by omega, hpp _ rfl, rfl⟩
    · exact ⟨j, _, hj, hpp _ rfl, rfl⟩
theorem in_code {k : Nat} (hk : k = 16 ∨ k = 19) : ∀ {l : List UInt8} {s : HS}, InCode k s → (∀ b, b ∈ l → b ≠ 60) → InCode k (runS s l)
  | [], s, h, _ => h
  | c :: l, s, h, hl => by
    rw [runS_cons]
    exact in_code hk (in_code_step hk h (hl c (by simp))) fun b hb => hl b (by simp [hb])
theorem code_start {k : Nat} : InCode k (s0 k) := ⟨0, [], by omega, .inl rfl, rfl⟩
/-- The end tag leaves the code. -/
theorem code_end {k : Nat} (hk : k = 16 ∨ k = 19) {s : HS} (h : InCode k s) : runS s (endL k ++ [62]) = s0 0 := by
  obtain ⟨j, p, hj, hp, rfl⟩ := h
  have hjj : j = 0 ∨ j = 1 ∨ j = 2 := by omega
  rcases hk with rfl | rfl <;> rcases hjj with rfl | rfl | rfl <;> rcases hp with rfl | rfl <;> rfl
end Go.Proofs.Yteclclidibmajaa
