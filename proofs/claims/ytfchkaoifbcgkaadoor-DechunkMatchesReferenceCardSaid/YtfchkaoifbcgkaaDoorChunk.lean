/-
  Chunks and the framer's steps as lists of bytes: no program is imported here.
-/
import Derived.Test.YtfchkaoifbcgkaaDoorHex
namespace Go.Proofs.YtfchkaoifbcgkaaDoor
set_option linter.unusedVariables false

/-- The encoding of a chunk; that of the last one has no payload. -/
def chunkOf (p : List UInt8) : List UInt8 := hexLine p.length ++ p ++ [13, 10]
theorem chunkOf_length (p : List UInt8) : (chunkOf p).length = (hexOf p.length).length + p.length + 4 := by
  simp [chunkOf, hexLine_length]; omega
theorem chunkOf_le {p : List UInt8} (h : p.length ≤ 65536) : (chunkOf p).length ≤ p.length + 9 := by
  rw [chunkOf_length]; have := hexOf_le h; omega
theorem chunkOf_pos (p : List UInt8) : 0 < (chunkOf p).length := by rw [chunkOf_length]; omega
theorem chunkOf_nil : chunkOf [] = [48, 13, 10, 13, 10] := by simp [chunkOf, hexLine, hexOf_zero]

/-- The chunks of a payload, k bytes each, without the last one. -/
def chunksOf (k : Nat) (l : List UInt8) : List UInt8 :=
  if h : l = [] ∨ k = 0 then [] else chunkOf (l.take k) ++ chunksOf k (l.drop k)
termination_by l.length
decreasing_by
  have h1 : l ≠ [] := fun e => h (.inl e)
  have h2 : k ≠ 0 := fun e => h (.inr e)
  have := List.length_pos_iff.2 h1
  simp; omega
/-- The body of a payload. -/
def bodyOf (k : Nat) (l : List UInt8) : List UInt8 := chunksOf k l ++ chunkOf []
theorem chunksOf_nil (k : Nat) : chunksOf k [] = [] := by rw [chunksOf]; simp
theorem chunksOf_pos {k : Nat} (hk : 0 < k) {l : List UInt8} (hl : 0 < l.length) : chunksOf k l = chunkOf (l.take k) ++ chunksOf k (l.drop k) := by
  rw [chunksOf, dif_neg]
  rintro (h | h)
  · rw [h] at hl; simp at hl
  · omega
theorem chunksOf_le {k : Nat} (hk : k ≤ 65536) : ∀ (n : Nat) (l : List UInt8), l.length ≤ n → (chunksOf k l).length ≤ 10 * l.length := by
  intro n
  induction n with
  | zero =>
    intro l hn
    have : l = [] := List.eq_nil_of_length_eq_zero (by omega)
    rw [this, chunksOf_nil]; simp
  | succ n ih =>
    intro l hn
    rw [chunksOf]
    split
    · simp
    · rename_i h
      have h2 : k ≠ 0 := fun e => h (.inr e)
      have h1 := List.length_pos_iff.2 (fun e => h (.inl e) : l ≠ [])
      have := ih (l.drop k) (by simp; omega)
      have h3 := chunkOf_le (p := l.take k) (by simp; omega)
      rw [List.length_append]
      simp only [List.length_drop, List.length_take] at this h3
      omega

/-- What a framer holds. -/
structure FSt where
  most : Nat
  pend : List UInt8
  fin : Bool
/-- No chunk may become pending. -/
def FSt.busy (s : FSt) : Prop := 0 < s.pend.length ∨ s.fin = true
instance (s : FSt) : Decidable s.busy := inferInstanceAs (Decidable (_ ∨ _))
def startS (s : FSt) (p : List UInt8) : Nat × FSt := if s.busy then (4, s) else if p.length = 0 ∨ s.most < p.length then (3, s) else (0, ⟨s.most, chunkOf p, s.fin⟩)
def finishS (s : FSt) : Nat × FSt := if s.busy then (4, s) else (0, ⟨s.most, chunkOf [], true⟩)
def advS (s : FSt) (n : Int) : Nat × FSt := if n < 0 ∨ s.pend.length < n then (3, s) else (0, ⟨s.most, s.pend.drop n.toNat, s.fin⟩)
end Go.Proofs.YtfchkaoifbcgkaaDoor
