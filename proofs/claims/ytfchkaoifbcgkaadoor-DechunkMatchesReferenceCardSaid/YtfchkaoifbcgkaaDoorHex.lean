/-
  Chunk-size lines as lists of bytes: no program is imported here.
-/
import Derived.Test.YtfchkaoifbcgkaaDoorBase
namespace Go.Proofs.YtfchkaoifbcgkaaDoor

/-- The lower-case digit for d. -/
def dg (d : Nat) : UInt8 := if d < 10 then UInt8.ofNat (48 + d) else UInt8.ofNat (87 + d)
/-- The number that a lower-case digit stands for. -/
def hv (c : UInt8) : Option Nat := if 48 ≤ c.toNat ∧ c.toNat ≤ 57 then some (c.toNat - 48) else if 97 ≤ c.toNat ∧ c.toNat ≤ 102 then some (c.toNat - 87) else none
def hexOf (n : Nat) : List UInt8 := if n < 16 then [dg n] else hexOf (n / 16) ++ [dg (n % 16)]
termination_by n
def hexLine (n : Nat) : List UInt8 := hexOf n ++ [13, 10]

theorem dg_nat {d : Nat} (h : d < 16) : (dg d).toNat = if d < 10 then 48 + d else 87 + d := by
  unfold dg
  split <;> simp <;> omega
theorem hv_dg {d : Nat} (h : d < 16) : hv (dg d) = some d := by
  unfold hv
  rw [dg_nat h]
  by_cases h1 : d < 10
  · rw [if_pos h1, if_pos (by omega)]; congr 1; omega
  · rw [if_neg h1, if_neg (by omega), if_pos (by omega)]; congr 1; omega
theorem hv_lt {c : UInt8} {d : Nat} (h : hv c = some d) : d < 16 := by
  unfold hv at h
  split at h
  · injection h with h; omega
  · split at h
    · injection h with h; omega
    · cases h
theorem dg_hv {c : UInt8} {d : Nat} (h : hv c = some d) : dg d = c := by
  have h1 := hv_lt h
  apply UInt8.toNat.inj
  rw [dg_nat h1]
  unfold hv at h
  split at h
  · injection h with h
    rw [if_pos (by omega)]; omega
  · split at h
    · injection h with h
      rw [if_neg (by omega)]; omega
    · cases h
theorem hexOf_small {n : Nat} (h : n < 16) : hexOf n = [dg n] := by rw [hexOf, if_pos h]
theorem hexOf_big {n : Nat} (h : 16 ≤ n) : hexOf n = hexOf (n / 16) ++ [dg (n % 16)] := by rw [hexOf, if_neg (by omega)]
theorem hexOf_pos (n : Nat) : 0 < (hexOf n).length := by rw [hexOf]; split <;> simp
theorem hexOf_mono : ∀ (m n : Nat), n ≤ m → (hexOf n).length ≤ (hexOf m).length := by
  intro m
  induction m using Nat.strongRecOn with
  | ind m ih =>
    intro n h
    by_cases h1 : n < 16
    · rw [hexOf_small h1]; exact hexOf_pos m
    · rw [hexOf_big (by omega : 16 ≤ n), hexOf_big (by omega : 16 ≤ m)]
      have := ih (m / 16) (by omega) (n / 16) (Nat.div_le_div_right h)
      simpa using this
theorem hexOf_le {n : Nat} (h : n ≤ 65536) : (hexOf n).length ≤ 5 := by
  have := hexOf_mono 65536 n h
  have e : (hexOf 65536).length = 5 := by
    rw [hexOf_big (by omega), hexOf_big (by omega), hexOf_big (by omega), hexOf_big (by omega), hexOf_small (by omega)]; rfl
  omega
theorem hexLine_length (n : Nat) : (hexLine n).length = (hexOf n).length + 2 := by simp [hexLine]
theorem hexOf_head {n : Nat} (h : 0 < n) : ∃ c r, hexOf n = c :: r ∧ c ≠ 48 := by
  induction n using Nat.strongRecOn with
  | ind n ih =>
    by_cases h1 : n < 16
    · refine ⟨dg n, [], hexOf_small h1, fun e => ?_⟩
      have := congrArg UInt8.toNat e
      rw [dg_nat h1] at this
      split at this <;> simp at this <;> omega
    · obtain ⟨c, r, e, hc⟩ := ih (n / 16) (by omega) (by omega)
      exact ⟨c, r ++ [dg (n % 16)], by rw [hexOf_big (by omega), e]; rfl, hc⟩
theorem hexOf_zero : hexOf 0 = [48] := by rw [hexOf_small (by omega)]; rfl

/-- What the digits at the start stand for, behind s. -/
def lead : Nat → List UInt8 → Nat
  | s, [] => s
  | s, c :: r => match hv c with
    | none => s
    | some d => if 65536 < s * 16 + d then s * 16 + d else lead (s * 16 + d) r
theorem lead_none {s : Nat} {c : UInt8} {r : List UInt8} (h : hv c = none) : lead s (c :: r) = s := by simp [lead, h]
theorem lead_some {s d : Nat} {c : UInt8} {r : List UInt8} (h : hv c = some d) (h2 : s * 16 + d ≤ 65536) : lead s (c :: r) = lead (s * 16 + d) r := by
  simp [lead, h]; omega
theorem lead_far {s d : Nat} {c : UInt8} {r : List UInt8} (h : hv c = some d) (h2 : 65536 < s * 16 + d) : lead s (c :: r) = s * 16 + d := by
  simp [lead, h]; omega
theorem lead_hex : ∀ (n : Nat) (r : List UInt8), n ≤ 65536 → lead 0 (hexOf n ++ r) = lead n r := by
  intro n
  induction n using Nat.strongRecOn with
  | ind n ih =>
    intro r h
    by_cases h1 : n < 16
    · rw [hexOf_small h1, List.singleton_append, lead_some (hv_dg h1) (by omega)]
      simp
    · rw [hexOf_big (by omega), List.append_assoc, ih (n / 16) (by omega) _ (by omega), List.singleton_append, lead_some (hv_dg (Nat.mod_lt _ (by omega))) (by omega)]
      congr 1
      omega
theorem lead_le : ∀ (r : List UInt8) (s : Nat), s ≤ 65536 → lead s r ≤ 1048591
  | [], s, h => by simp [lead]; omega
  | c :: r, s, h => by
    cases hc : hv c with
    | none => rw [lead_none hc]; omega
    | some d =>
      have := hv_lt hc
      by_cases h2 : 65536 < s * 16 + d
      · rw [lead_far hc h2]; omega
      · rw [lead_some hc (by omega)]; exact lead_le r _ (by omega)

/-- The answer: size, length, error. -/
abbrev Ans := Nat × Nat × Nat
def parseAt (s : Nat) (l : List UInt8) : Ans :=
  if 65536 < s then (0, 0, 5) else if (hexLine s).isPrefixOf l then (s, (hexLine s).length, 0) else if l.isPrefixOf (hexLine s) then (0, 0, 7) else (0, 0, 5)
def parseOf (l : List UInt8) : Ans := parseAt (lead 0 l) l

def rtail (n i : Nat) : List UInt8 → Ans
  | [] => (0, 0, 7)
  | c :: r => if i = 0 ∨ c ≠ 13 then (0, 0, 5) else match r with
    | [] => (0, 0, 7)
    | d :: _ => if d ≠ 10 then (0, 0, 5) else (n, i + 2, 0)
def rloop (z : Bool) : Nat → Nat → List UInt8 → Ans
  | _, _, [] => (0, 0, 7)
  | n, i, c :: r => match hv c with
    | none => rtail n i (c :: r)
    | some d => if 65536 < 16 * n + d ∨ (1 < i + 1 ∧ z = true) then (0, 0, 5) else rloop z (16 * n + d) (i + 1) r
def refOf (l : List UInt8) : Ans := rloop (l.head? == some 48) 0 0 l

theorem parseAt_zero {s : Nat} {c : UInt8} {d : Nat} {r : List UInt8} (h : hv c = some d) : parseAt s (48 :: c :: r) = (0, 0, 5) := by
  have hc13 : c ≠ 13 := by rintro rfl; simp [hv] at h
  unfold parseAt
  split
  · rfl
  · by_cases h0 : s = 0
    · subst h0
      simp [hexLine, hexOf_zero, List.isPrefixOf, hc13, Ne.symm hc13]
    · obtain ⟨c', r', e, hc'⟩ := hexOf_head (Nat.pos_of_ne_zero h0)
      simp [hexLine, e, List.isPrefixOf, hc', Ne.symm hc']
theorem parseAt_line {n : Nat} (h : n ≤ 65536) (r : List UInt8) : parseAt n (hexOf n ++ r) =
    if [13, 10].isPrefixOf r then (n, (hexLine n).length, 0) else if r.isPrefixOf [13, 10] then (0, 0, 7) else (0, 0, 5) := by
  have e1 : (hexLine n).isPrefixOf (hexOf n ++ r) = [13, 10].isPrefixOf r := by
    rw [Bool.eq_iff_iff, List.isPrefixOf_iff_prefix, List.isPrefixOf_iff_prefix, hexLine, List.prefix_append_right_inj]
  have e2 : (hexOf n ++ r).isPrefixOf (hexLine n) = r.isPrefixOf [13, 10] := by
    rw [Bool.eq_iff_iff, List.isPrefixOf_iff_prefix, List.isPrefixOf_iff_prefix, hexLine, List.prefix_append_right_inj]
  unfold parseAt
  rw [if_neg (by omega), e1, e2]

theorem crlf_tail (n i : Nat) (hi : 0 < i) (k : Nat) (hk : k = i + 2) : ∀ r : List UInt8,
    (if [13, 10].isPrefixOf r then (n, k, 0) else if r.isPrefixOf [13, 10] then (0, 0, 7) else (0, 0, 5) : Ans) = rtail n i r
  | [] => by simp [rtail]
  | [c] => by
    by_cases h : c = 13
    · subst h
      simp [rtail, Nat.ne_of_gt hi]
    · have h' : (13 : UInt8) ≠ c := Ne.symm h
      simp [rtail, h, h']
  | c :: d :: r => by
    by_cases h : c = 13
    · subst h
      by_cases h2 : d = 10
      · subst h2
        simp [rtail, Nat.ne_of_gt hi, hk]
      · have h' : (10 : UInt8) ≠ d := Ne.symm h2
        simp [rtail, Nat.ne_of_gt hi, h2, h']
    · have h' : (13 : UInt8) ≠ c := Ne.symm h
      simp [rtail, h, h']
theorem parse_go : ∀ (r p : List UInt8) (n : Nat), n ≤ 65536 → (p = [] ∧ n = 0 ∨ p = hexOf n) → parseAt (lead n r) (p ++ r) = rloop ((p ++ r).head? == some 48) n p.length r
  | [], p, n, hn, hp => by
    simp only [lead, rloop, List.append_nil]
    rcases hp with ⟨rfl, rfl⟩ | rfl
    · simp [parseAt, hexLine, List.isPrefixOf, hexOf_zero]
    · have := parseAt_line hn []
      rw [List.append_nil] at this
      rw [this]
      rfl
  | c :: r, p, n, hn, hp => by
    cases hc : hv c with
    | none =>
      rw [lead_none hc, rloop, hc]
      simp only
      rcases hp with ⟨rfl, rfl⟩ | rfl
      · have h48 : c ≠ 48 := by rintro rfl; simp [hv] at hc
        simp [parseAt, hexLine, List.isPrefixOf, hexOf_zero, rtail, h48, Ne.symm h48]
      · rw [parseAt_line hn, crlf_tail n _ (hexOf_pos n) _ (hexLine_length n)]
    | some d =>
      have hd := hv_lt hc
      rw [rloop, hc]
      simp only
      by_cases hbig : 65536 < 16 * n + d
      · rw [if_pos (.inl hbig), lead_far hc (by omega)]
        unfold parseAt
        rw [if_pos (by omega)]
      · rcases hp with ⟨rfl, rfl⟩ | rfl
        · rw [if_neg (by simp; omega), lead_some hc (by omega)]
          have := parse_go r [c] d (by omega) (.inr (by rw [hexOf_small hd, dg_hv hc]))
          simpa using this
        · by_cases h0 : n = 0
          · subst h0
            rw [hexOf_zero]
            rw [if_pos (.inr ⟨by simp, by simp⟩)]
            exact parseAt_zero hc
          · obtain ⟨c', r', e, hc'⟩ := hexOf_head (Nat.pos_of_ne_zero h0)
            have hz : ((hexOf n ++ c :: r).head? == some 48) = false := by rw [e]; simpa using hc'
            rw [hz, if_neg (by simp; omega), lead_some hc (by omega)]
            have en : hexOf n ++ [c] = hexOf (n * 16 + d) := by
              rw [hexOf_big (by omega : 16 ≤ n * 16 + d), show (n * 16 + d) / 16 = n by omega, show (n * 16 + d) % 16 = d by omega, dg_hv hc]
            have := parse_go r (hexOf n ++ [c]) (n * 16 + d) (by omega) (.inr en)
            rw [List.append_assoc, List.singleton_append, hz, List.length_append] at this
            rw [this, Nat.mul_comm n 16]
            rfl
theorem parse_ref (l : List UInt8) : parseOf l = refOf l := by
  have := parse_go l [] 0 (by omega) (.inl ⟨rfl, rfl⟩)
  simpa [parseOf, refOf] using this

/-! ### The laws, as lists -/
theorem parse_line {n : Nat} (h : n ≤ 65536) (more : List UInt8) : parseOf (hexLine n ++ more) = (n, (hexLine n).length, 0) := by
  unfold parseOf
  rw [hexLine, List.append_assoc, lead_hex n _ h, List.cons_append, lead_none (by rfl), parseAt_line h]
  simp [List.isPrefixOf, hexLine]
theorem hexOf_prefix : ∀ (n i : Nat), 0 < i → i ≤ (hexOf n).length → ∃ m, m ≤ n ∧ (hexOf n).take i = hexOf m := by
  intro n
  induction n using Nat.strongRecOn with
  | ind n ih =>
    intro i h0 h1
    by_cases h : n < 16
    · rw [hexOf_small h] at h1 ⊢
      simp at h1
      have : i = 1 := by omega
      subst this
      exact ⟨n, Nat.le_refl _, by rw [hexOf_small h]; rfl⟩
    · by_cases hi : i ≤ (hexOf (n / 16)).length
      · obtain ⟨m, hm, e⟩ := ih (n / 16) (by omega) i h0 hi
        refine ⟨m, by omega, ?_⟩
        rw [hexOf_big (by omega), List.take_append_of_le_length hi, e]
      · refine ⟨n, Nat.le_refl _, List.take_of_length_le ?_⟩
        rw [hexOf_big (by omega)] at h1 ⊢
        simp at h1 ⊢
        omega
theorem parse_prefix {n i : Nat} (h : n ≤ 65536) (hi : i < (hexLine n).length) : parseOf ((hexLine n).take i) = (0, 0, 7) := by
  rw [hexLine_length] at hi
  unfold parseOf
  by_cases h0 : i = 0
  · subst h0
    simp [lead, parseAt, hexLine, hexOf_zero]
  · by_cases h1 : i ≤ (hexOf n).length
    · obtain ⟨m, hm, e⟩ := hexOf_prefix n i (by omega) h1
      rw [hexLine, List.take_append_of_le_length h1, e]
      have e1 := lead_hex m [] (by omega)
      have e2 := parseAt_line (n := m) (by omega) []
      rw [List.append_nil] at e1 e2
      rw [e1, lead, e2]
      rfl
    · have : i = (hexOf n).length + 1 := by omega
      subst this
      have e : (hexLine n).take ((hexOf n).length + 1) = hexOf n ++ [13] := by
        rw [hexLine, List.take_append, List.take_of_length_le (by omega)]
        simp
      rw [e, lead_hex n _ h, lead_none (by rfl), parseAt_line h]
      rfl
theorem line_differs {n m : Nat} (h : n < m) (hm : m ≤ 65536) : (hexLine m).take (hexLine n).length ≠ hexLine n := by
  intro e
  have e1 : hexLine n ++ (hexLine m).drop (hexLine n).length = hexLine m := by
    conv => rhs; rw [← List.take_append_drop (hexLine n).length (hexLine m), e]
  have h1 := parse_line (n := n) (by omega) ((hexLine m).drop (hexLine n).length)
  have h2 := parse_line hm []
  rw [e1] at h1
  rw [List.append_nil, h1] at h2
  injection h2 with h2
  omega
theorem line_mono {n m : Nat} (h : n ≤ m) : (hexLine n).length ≤ (hexLine m).length := by
  rw [hexLine_length, hexLine_length]
  have := hexOf_mono m n h
  omega
/-- What is accepted is the line of the size. -/
theorem parse_ok {l : List UInt8} {n k : Nat} (h : parseOf l = (n, k, 0)) : n ≤ 65536 ∧ k = (hexLine n).length ∧ k ≤ l.length ∧ l.take k = hexLine n := by
  unfold parseOf parseAt at h
  split at h
  · simp at h
  · split at h
    · rename_i h1 h2
      simp only [Prod.mk.injEq, and_true] at h
      obtain ⟨rfl, rfl⟩ := h
      obtain ⟨t, ht⟩ := List.isPrefixOf_iff_prefix.1 h2
      refine ⟨by omega, rfl, ?_, ?_⟩
      · have := congrArg List.length ht
        rw [List.length_append] at this
        omega
      · have h3 : (hexLine (lead 0 l) ++ t).take (hexLine (lead 0 l)).length = hexLine (lead 0 l) := List.take_left
        rwa [ht] at h3
    · split at h <;> simp at h
theorem parse_err (l : List UInt8) : (parseOf l).2.2 = 0 ∨ (parseOf l).1 = 0 ∧ (parseOf l).2.1 = 0 ∧ ((parseOf l).2.2 = 5 ∨ (parseOf l).2.2 = 7) := by
  unfold parseOf parseAt
  split
  · simp
  · split
    · simp
    · split <;> simp

end Go.Proofs.YtfchkaoifbcgkaaDoor
