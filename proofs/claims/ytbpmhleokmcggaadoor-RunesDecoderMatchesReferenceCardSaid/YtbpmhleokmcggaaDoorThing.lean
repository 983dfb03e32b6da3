/-
  Two things side by side, each with blocks of its own: no program is imported here.
-/
import Derived.Test.YtbpmhleokmcggaaDoorBase
namespace Go.Proofs.YtbpmhleokmcggaaDoor
open Go.RowKit
set_option linter.unusedVariables false

/-- Something that lies in a world, with the blocks that belong to it. -/
structure IsThing (P : World → List Nat → Prop) : Prop where
  only : ∀ {w w' : World} {T S : List Nat}, P w T → Only S w w' → (∀ k, k ∈ T → k ∉ S) → P w' T
  lt : ∀ {w : World} {T : List Nat}, P w T → ∀ k, k ∈ T → k < w.heap.size

/-- What comes out of a call on it: whatever new blocks it took, and only its own blocks turned. -/
def Turned (P : World → List Nat → Prop) (w : World) (T : List Nat) (w' : World) : Prop := ∃ T', P w' T' ∧ (∀ k, k ∈ T' → k ∈ T ∨ w.heap.size ≤ k) ∧ Only T w w'
theorem Turned.refl {P : World → List Nat → Prop} {w : World} {T : List Nat} (h : P w T) : Turned P w T w := ⟨T, h, fun k hk => .inl hk, Only.refl _ _⟩
theorem Turned.trans {P Q : World → List Nat → Prop} {w w1 w2 : World} {T : List Nat} (h : Turned P w T w1) (h2 : ∀ T', P w1 T' → Turned Q w1 T' w2) : Turned Q w T w2 := by
  obtain ⟨T1, hP, hk, hO⟩ := h
  obtain ⟨T2, hQ, hk2, hO2⟩ := h2 T1 hP
  refine ⟨T2, hQ, fun k hk' => ?_, hO.join hO2 hk⟩
  rcases hk2 k hk' with h | h
  · exact hk k h
  · exact .inr (Nat.le_trans hO.size h)

/-- Both, apart from one another, in blocks from B on; from the start w0 on nothing old has turned. -/
def Pair (P Q : World → List Nat → Prop) (w0 : World) (B : Nat) (w : World) : Prop :=
  ∃ T U, P w T ∧ Q w U ∧ (∀ k, k ∈ T → k ∉ U) ∧ (∀ k, k ∈ T → B ≤ k) ∧ (∀ k, k ∈ U → B ≤ k) ∧ Below w0.heap.size w0 w ∧ w0.heap.size ≤ B ∧ B ≤ w.heap.size

section
variable {P P' Q : World → List Nat → Prop} {w0 w w' : World} {B : Nat}
theorem Pair.swap (h : Pair P Q w0 B w) : Pair Q P w0 B w := by
  obtain ⟨T, U, hP, hQ, hd, hT, hU, hb, hB⟩ := h
  exact ⟨U, T, hQ, hP, fun k hk hk' => hd k hk' hk, hU, hT, hb, hB⟩
theorem Pair.below (h : Pair P Q w0 B w) : Below w0.heap.size w0 w := by obtain ⟨T, U, _, _, _, _, _, hb, _⟩ := h; exact hb
theorem Pair.first (h : Pair P Q w0 B w) : ∃ T, P w T ∧ ∀ k, k ∈ T → B ≤ k := by obtain ⟨T, U, hP, _, _, hT, _⟩ := h; exact ⟨T, hP, hT⟩
theorem Pair.second (h : Pair P Q w0 B w) : ∃ U, Q w U ∧ ∀ k, k ∈ U → B ≤ k := h.swap.first
theorem Pair.only (h : Pair P Q w0 B w) (hP : IsThing P) (hQ : IsThing Q) {S : List Nat} (hO : Only S w w') (hS : ∀ k, k ∈ S → w0.heap.size ≤ k ∧ k < B) : Pair P Q w0 B w' := by
  obtain ⟨T, U, h1, h2, hd, hT, hU, hb, hB, hB2⟩ := h
  exact ⟨T, U, hP.only h1 hO (fun k hk hk' => by have := hT k hk; have := (hS k hk').2; omega), hQ.only h2 hO (fun k hk hk' => by have := hU k hk; have := (hS k hk').2; omega), hd, hT, hU, Only.below hb hO hb.size (fun k hk => (hS k hk).1), hB, Nat.le_trans hB2 hO.size⟩
theorem Pair.quiet (h : Pair P Q w0 B w) (hP : IsThing P) (hQ : IsThing Q) (hO : Only [] w w') : Pair P Q w0 B w' := h.only hP hQ hO (by simp)
theorem pair_call1b {p : Program} {f : FuncId} {args : Array Value} {x : Ending} (h : Pair P Q w0 B w) (hQ : IsThing Q)
    (hc : ∀ T, P w T → (∀ k, k ∈ T → w0.heap.size ≤ k) → Calls p f args w fun e w' => e = x ∧ Turned P' w T w') :
    Calls p f args w fun e w' => e = x ∧ Pair P' Q w0 B w' ∧ Below B w w' := by
  obtain ⟨T, U, h1, h2, hd, hT, hU, hb, hB, hB2⟩ := h
  refine (hc T h1 (fun k hk => Nat.le_trans hB (hT k hk))).mono ?_
  rintro e w' ⟨rfl, T', h1', hk, hO⟩
  refine ⟨rfl, ⟨T', U, h1', hQ.only h2 hO (fun k hk hk' => hd k hk' hk), fun k hk' hk2 => ?_, fun k hk' => (hk k hk').elim (hT k) (fun h => Nat.le_trans hB2 h), hU, Only.below hb hO hb.size (fun k hk => Nat.le_trans hB (hT k hk)), hB, Nat.le_trans hB2 hO.size⟩, hO.to_below hB2 hT⟩
  rcases hk k hk' with h | h
  · exact hd k h hk2
  · have := hQ.lt h2 k hk2
    omega
theorem pair_call1 {p : Program} {f : FuncId} {args : Array Value} {x : Ending} (h : Pair P Q w0 B w) (hQ : IsThing Q)
    (hc : ∀ T, P w T → (∀ k, k ∈ T → w0.heap.size ≤ k) → Calls p f args w fun e w' => e = x ∧ Turned P' w T w') :
    Calls p f args w fun e w' => e = x ∧ Pair P' Q w0 B w' := by
  refine (pair_call1b h hQ hc).mono ?_
  rintro e w' ⟨rfl, h', _⟩
  exact ⟨rfl, h'⟩
theorem pair_call2 {p : Program} {f : FuncId} {args : Array Value} {x : Ending} (h : Pair Q P w0 B w) (hQ : IsThing Q)
    (hc : ∀ T, P w T → (∀ k, k ∈ T → w0.heap.size ≤ k) → Calls p f args w fun e w' => e = x ∧ Turned P' w T w') :
    Calls p f args w fun e w' => e = x ∧ Pair Q P' w0 B w' := by
  refine (pair_call1 h.swap hQ hc).mono ?_
  rintro e w' ⟨rfl, h'⟩
  exact ⟨rfl, h'.swap⟩
/-- One behind the other, made apart. -/
theorem pair_made {w1 w2 w3 : World} {T U : List Nat} (hP : IsThing P) (h1 : P w2 T) (hT : ∀ k, k ∈ T → w1.heap.size ≤ k) (h2 : Q w3 U) (hU : ∀ k, k ∈ U → w2.heap.size ≤ k)
    (hb : Below w0.heap.size w0 w1) (hO : Only [] w1 w2) (hO2 : Only [] w2 w3) : Pair P Q w0 w1.heap.size w3 := by
  have a1 := hO.size
  have a2 := hO2.size
  refine ⟨T, U, hP.only h1 hO2 (by simp), h2, fun k hk hk' => ?_, hT, fun k hk => by have := hU k hk; omega, Only.below hb (hO.trans hO2) hb.size (by simp), hb.size, by omega⟩
  have := hP.lt h1 k hk
  have := hU k hk'
  omega
/-- Whatever is read below the start lies in none of the new blocks. -/
theorem apart_of {n : Nat} {X : Option Addr} {xs : List Value} {T : List Nat} (hb : Reads w w0.heap.size X n xs) (hT : ∀ k, k ∈ T → w0.heap.size ≤ k) : 0 < n → ∀ ad, X = some ad → ad.block ∉ T := by
  intro h0 ad e' hk
  obtain ⟨ad', e1, hl, _⟩ := hb.2 h0
  rw [e'] at e1
  injection e1 with e1
  subst e1
  have := hT _ hk
  omega
end
/-- Nothing as a thing. -/
def Nil : World → List Nat → Prop := fun _ T => T = []
theorem nil_thing : IsThing Nil := ⟨fun h _ _ => h, fun h k hk => by rw [h] at hk; cases hk⟩
section
variable {P : World → List Nat → Prop} {w0 W : World} {B : Nat}
/-- A thing alone, then beside nothing. -/
theorem pair_solo {P : World → List Nat → Prop} {T : List Nat} (h : P W T) (hT : ∀ k, k ∈ T → B ≤ k) (hb : Below w0.heap.size w0 W) (hB : w0.heap.size ≤ B) (hB2 : B ≤ W.heap.size) : Pair P Nil w0 B W :=
  ⟨T, [], h, rfl, by simp, hT, by simp, hb, hB, hB2⟩
/-- The other thing forgotten. -/
theorem pair_drop {Q : World → List Nat → Prop} (h : Pair P Q w0 B W) : Pair P Nil w0 B W := by
  obtain ⟨T, U, h1, h2, hd, hT, hU, hb, hB, hB2⟩ := h
  exact ⟨T, [], h1, rfl, by simp, hT, by simp, hb, hB, hB2⟩
end

/-! ### Both as one thing -/
def Both (P Q : World → List Nat → Prop) : World → List Nat → Prop := fun w V => ∃ T U, V = T ++ U ∧ P w T ∧ Q w U ∧ ∀ k, k ∈ T → k ∉ U
section
variable {P P' Q : World → List Nat → Prop} {w0 w w' : World} {B : Nat}
theorem both_thing (hP : IsThing P) (hQ : IsThing Q) : IsThing (Both P Q) :=
  ⟨fun ⟨T, U, hV, h1, h2, hd⟩ ho hS => ⟨T, U, hV, hP.only h1 ho (fun k hk => hS k (by rw [hV]; simp [hk])), hQ.only h2 ho (fun k hk => hS k (by rw [hV]; simp [hk])), hd⟩,
   fun ⟨T, U, hV, h1, h2, hd⟩ k hk => by rw [hV] at hk; rcases List.mem_append.1 hk with h | h; exact hP.lt h1 k h; exact hQ.lt h2 k h⟩
theorem Both.swap {V : List Nat} (h : Both P Q w V) : ∃ V', Both Q P w V' ∧ ∀ k, k ∈ V' ↔ k ∈ V := by
  obtain ⟨T, U, rfl, h1, h2, hd⟩ := h
  exact ⟨U ++ T, ⟨U, T, rfl, h2, h1, fun k hk hk' => hd k hk' hk⟩, fun k => by simp [or_comm]⟩
theorem both_call1 {p : Program} {f : FuncId} {args : Array Value} {x : Ending} {V : List Nat} (h : Both P Q w V) (hQ : IsThing Q)
    (hc : ∀ T, P w T → Calls p f args w fun e w' => e = x ∧ Turned P' w T w') : Calls p f args w fun e w' => e = x ∧ Turned (Both P' Q) w V w' := by
  obtain ⟨T, U, rfl, h1, h2, hd⟩ := h
  refine (hc T h1).mono ?_
  rintro e w' ⟨rfl, T', h1', hk, hO⟩
  refine ⟨rfl, T' ++ U, ⟨T', U, rfl, h1', hQ.only h2 hO (fun k hk hk' => hd k hk' hk), fun k hk1 hk2 => ?_⟩, fun k hk1 => ?_, hO.more (fun k hk => by simp [hk])⟩
  · rcases hk k hk1 with h | h
    · exact hd k h hk2
    · have := hQ.lt h2 k hk2; omega
  · rcases List.mem_append.1 hk1 with h | h
    · exact (hk k h).imp (fun h => by simp [h]) id
    · exact .inl (by simp [h])
theorem both_call2 {p : Program} {f : FuncId} {args : Array Value} {x : Ending} {V : List Nat} (h : Both Q P w V) (hQ : IsThing Q)
    (hc : ∀ T, P w T → Calls p f args w fun e w' => e = x ∧ Turned P' w T w') : Calls p f args w fun e w' => e = x ∧ Turned (Both Q P') w V w' := by
  obtain ⟨V', h', hV⟩ := h.swap
  refine (both_call1 h' hQ hc).mono ?_
  rintro e w' ⟨rfl, V1, h1, hk, hO⟩
  obtain ⟨V2, h2, hV2⟩ := h1.swap
  exact ⟨rfl, V2, h2, fun k hk' => (hk k ((hV2 k).1 hk')).imp (fun h => (hV k).1 h) id, hO.more (fun k hk => (hV k).1 hk)⟩
theorem Pair.both (h : Pair P Q w0 B w) : ∃ V, Both P Q w V ∧ ∀ k, k ∈ V → B ≤ k := by
  obtain ⟨T, U, h1, h2, hd, hT, hU, hb, hB, hB2⟩ := h
  exact ⟨T ++ U, ⟨T, U, rfl, h1, h2, hd⟩, fun k hk => (List.mem_append.1 hk).elim (hT k) (hU k)⟩
theorem pair_of_both {V V' : List Nat} (h : Both P Q w' V') (hV : ∀ k, k ∈ V → B ≤ k) (hk : ∀ k, k ∈ V' → k ∈ V ∨ w.heap.size ≤ k) (hO : Only V w w') (hb : Below w0.heap.size w0 w) (hB : w0.heap.size ≤ B) (hB2 : B ≤ w.heap.size) : Pair P Q w0 B w' := by
  obtain ⟨T, U, rfl, h1, h2, hd⟩ := h
  have hlo : ∀ k, k ∈ T ++ U → B ≤ k := fun k h => (hk k h).elim (hV k) (fun h => Nat.le_trans hB2 h)
  exact ⟨T, U, h1, h2, hd, fun k h => hlo k (by simp [h]), fun k h => hlo k (by simp [h]), Only.below hb hO hb.size (fun k h => Nat.le_trans hB (hV k h)), hB, Nat.le_trans hB2 hO.size⟩
theorem Pair.base (h : Pair P Q w0 B w) : w0.heap.size ≤ B ∧ B ≤ w.heap.size := by obtain ⟨T, U, h1, h2, hd, hT, hU, hb, hB, hB2⟩ := h; exact ⟨hB, hB2⟩
end

end Go.Proofs.YtbpmhleokmcggaaDoor
