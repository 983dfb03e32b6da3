/-
  The parts of a path, as lists of bytes; what splitting into at most so many gives. No program is imported here.
-/
import Derived.Test.YteclclidibmajaaVal
import Derived.Lib.Split
import Derived.Lib.IndexLaws
import Derived.Lib.IndexBytes
namespace Go.Proofs.Yteclclidibmajaa

/-- The parts of a list of bytes between the periods. -/
def parts : List UInt8 → List (List UInt8)
  | [] => [[]]
  | c :: l => if c = 46 then [] :: parts l else match parts l with
    | p :: ps => (c :: p) :: ps
    | [] => [[c]]
theorem parts_ne : ∀ l, parts l ≠ [] := by
  intro l
  cases l with
  | nil => simp [parts]
  | cons c l => unfold parts; split; · simp
                split <;> simp
theorem parts_cons {c : UInt8} {l : List UInt8} (h : c ≠ 46) : ∃ p ps, parts l = p :: ps ∧ parts (c :: l) = (c :: p) :: ps := by
  cases hp : parts l with
  | nil => exact absurd hp (parts_ne l)
  | cons p ps => exact ⟨p, ps, rfl, by rw [parts, if_neg h, hp]⟩
theorem parts_plain : ∀ {a : List UInt8}, (∀ c ∈ a, c ≠ 46) → parts a = [a] := by
  intro a
  induction a with
  | nil => intro _; rfl
  | cons c a ih =>
    intro h
    obtain ⟨p, ps, h1, h2⟩ := parts_cons (l := a) (h c (by simp))
    rw [ih fun d hd => h d (by simp [hd])] at h1
    injection h1 with h3 h4
    subst h3 h4
    exact h2
theorem parts_dot : ∀ {a b : List UInt8}, (∀ c ∈ a, c ≠ 46) → parts (a ++ 46 :: b) = a :: parts b := by
  intro a
  induction a with
  | nil => intro b _; simp [parts]
  | cons c a ih =>
    intro b h
    obtain ⟨p, ps, h1, h2⟩ := parts_cons (l := a ++ 46 :: b) (h c (by simp))
    rw [ih fun d hd => h d (by simp [hd])] at h1
    injection h1 with h3 h4
    subst h3 h4
    exact h2
theorem parts_append : ∀ {a b : List UInt8}, parts (a ++ 46 :: b) = parts a ++ parts b := by
  intro a
  induction a with
  | nil => intro b; simp [parts]
  | cons c a ih =>
    intro b
    by_cases h : c = 46
    · subst h
      simp [parts, ih]
    · obtain ⟨p, ps, h1, h2⟩ := parts_cons (l := a) h
      obtain ⟨p', ps', h3, h4⟩ := parts_cons (l := a ++ 46 :: b) h
      rw [List.cons_append, h4, h2]
      rw [ih, h1] at h3
      simp only [List.cons_append, List.cons.injEq] at h3
      obtain ⟨rfl, rfl⟩ := h3
      rfl
theorem parts_len : ∀ l : List UInt8, (parts l).length ≤ l.length + 1 := by
  intro l
  induction l with
  | nil => simp [parts]
  | cons c l ih =>
    by_cases h : c = 46
    · subst h; simp [parts]; omega
    · obtain ⟨p, ps, h1, h2⟩ := parts_cons (l := l) h
      rw [h2]
      rw [h1] at ih
      simp at ih ⊢
      omega

def toL (s : ByteArray) : List UInt8 := s.data.toList
def ofL (l : List UInt8) : ByteArray := ⟨l.toArray⟩
theorem toL_ofL (l : List UInt8) : toL (ofL l) = l := rfl
theorem ofL_toL (s : ByteArray) : ofL (toL s) = s := by cases s; rfl
theorem toL_len (s : ByteArray) : (toL s).length = s.size := rfl
theorem toL_inj {s t : ByteArray} (h : toL s = toL t) : s = t := by rw [← ofL_toL s, ← ofL_toL t, h]
theorem toL_extract (s : ByteArray) (a b : Nat) : toL (s.extract a b) = ((toL s).take b).drop a := by
  unfold toL
  rw [ByteArray.data_extract, Array.toList_extract, List.extract_eq_take_drop]
  rw [List.take_drop]
  by_cases h : a ≤ b
  · rw [show a + (b - a) = b by omega]
  · rw [List.drop_eq_nil_of_le (by simp; omega), List.drop_eq_nil_of_le (by simp; omega)]
theorem nameB_toL (s : ByteArray) : nameB s = nameL (toL s) := rfl

def dot : ByteArray := ⟨#[46]⟩
theorem index_dot {s : ByteArray} : (Lib.indexB s dot = -1 ∧ ∀ c ∈ toL s, c ≠ 46) ∨
    ∃ i : Nat, Lib.indexB s dot = i ∧ i < s.size ∧ (∀ c ∈ (toL s).take i, c ≠ 46) ∧ toL s = (toL s).take i ++ 46 :: (toL s).drop (i + 1) := by
  have e : Lib.indexB s dot = Lib.indexByte (toL s) 46 := Lib.index_one _ _
  rw [e]
  by_cases h : Lib.indexByte (toL s) 46 = -1
  · refine .inl ⟨h, fun c hc hc46 => ?_⟩
    subst hc46
    obtain ⟨k, hk, hk'⟩ := List.getElem_of_mem hc
    exact Lib.indexByte_none h k (by rw [List.getElem?_eq_getElem hk, hk'])
  · have hge := Lib.indexByte_ge (toL s) 46
    obtain ⟨i, hi⟩ : ∃ i : Nat, Lib.indexByte (toL s) 46 = i := ⟨(Lib.indexByte (toL s) 46).toNat, by omega⟩
    obtain ⟨h1, h2⟩ := Lib.indexByte_some hi
    obtain ⟨h3, h4⟩ := List.getElem?_eq_some_iff.1 h1
    refine .inr ⟨i, hi, h3, fun c hc hc46 => ?_, ?_⟩
    · subst hc46
      obtain ⟨k, hk, hk'⟩ := List.getElem_of_mem hc
      rw [List.getElem_take] at hk'
      simp at hk
      exact h2 k (by omega) (by rw [List.getElem?_eq_getElem (by omega), hk'])
    · conv => lhs; rw [← List.take_append_drop i (toL s)]
      rw [List.drop_eq_getElem_cons h3, h4]

/-- What is split at most k times: all the parts where there are at most k + 1, and k + 1 of them where there are more. -/
theorem split_parts : ∀ (k : Nat) (s : ByteArray), ((parts (toL s)).length ≤ k + 1 → (Lib.splitB dot 0 k s).map toL = parts (toL s)) ∧
    (Lib.splitB dot 0 k s).length = min (k + 1) (parts (toL s)).length := by
  intro k
  induction k with
  | zero =>
    intro s
    rw [Lib.splitB_zero]
    have h1 := parts_ne (toL s)
    refine ⟨fun h => ?_, ?_⟩
    · rcases index_dot (s := s) with ⟨_, h2⟩ | ⟨i, _, hi, h2, h3⟩
      · rw [parts_plain h2]; rfl
      · rw [h3, parts_dot h2] at h
        have h4 : 0 < (parts ((toL s).drop (i + 1))).length := List.length_pos_iff.2 (parts_ne _)
        simp only [List.length_cons] at h
        omega
    · have : 0 < (parts (toL s)).length := List.length_pos_iff.2 h1
      simp only [List.length_singleton]; omega
  | succ k ih =>
    intro s
    rcases index_dot (s := s) with ⟨h1, h2⟩ | ⟨i, h1, hi, h2, h3⟩
    · rw [Lib.splitB_miss _ _ _ _ h1, parts_plain h2]
      refine ⟨fun _ => rfl, ?_⟩
      simp only [List.length_singleton]; omega
    · rw [Lib.splitB_hit _ _ _ _ _ h1]
      have e1 : toL (s.extract 0 (i + 0)) = (toL s).take i := by rw [toL_extract]; simp
      have e2 : toL (s.extract (i + dot.size) s.size) = (toL s).drop (i + 1) := by
        rw [toL_extract, show dot.size = 1 from rfl, List.take_of_length_le (Nat.le_of_eq (toL_len s))]
      have e3 : parts (toL s) = (toL s).take i :: parts ((toL s).drop (i + 1)) := by
        conv => lhs; rw [h3]
        exact parts_dot h2
      obtain ⟨i1, i2⟩ := ih (s.extract (i + dot.size) s.size)
      rw [e2] at i1 i2
      rw [e3]
      refine ⟨fun h => ?_, ?_⟩
      · rw [List.map_cons, e1, i1 (by simpa using h)]
      · rw [List.length_cons, i2, List.length_cons]; omega

/-- A path's names, or none. -/
def pathOf (s : ByteArray) : Option (List ByteArray) :=
  if s.size = 0 then some [] else if (parts (toL s)).length ≤ 8 ∧ (parts (toL s)).all nameL = true then some ((parts (toL s)).map ofL) else none
end Go.Proofs.Yteclclidibmajaa
