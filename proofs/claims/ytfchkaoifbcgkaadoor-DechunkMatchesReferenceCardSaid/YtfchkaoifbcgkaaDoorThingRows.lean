/-
  Rows of bytes as things, beside others.
-/
import Derived.Test.YtfchkaoifbcgkaaDoorThing
import Derived.Test.YtfchkaoifbcgkaaDoorText
namespace Go.Proofs.YtfchkaoifbcgkaaDoor
open Go.RowKit
set_option linter.unusedVariables false

/-- 'string(b)' in any later world. -/
theorem row_str {w : World} {A : Option Addr} {n c : Nat} {l : List UInt8} (h : RowAt w 5 A n c (vbs l)) : ∀ w', Only [] w w' → (convert 26 9 (.slice A n c)).run Tryd.prog w' = .ok (.string ⟨l.toArray⟩) w' :=
  fun w' ho => run_string_of Tryd.underlying26 Tryd.underlying5 Tryd.underlying9 (h.reads.only' ho (Nat.le_refl _) (by simp)) c

/-- A row as a thing. -/
def Rw (A : Option Addr) (n c : Nat) (l : List UInt8) : World → List Nat → Prop := fun w T => RowAt w 5 A n c (vbs l) ∧ T = rowT A
theorem rw_thing (A : Option Addr) (n c : Nat) (l : List UInt8) : IsThing (Rw A n c l) :=
  ⟨fun h ho hS => ⟨h.1.only ho (fun k hk => hS k (by rw [h.2]; exact hk)), h.2⟩, fun h k hk => h.1.lt k (by rw [← h.2]; exact hk)⟩
section
variable {w0 W W' : World} {B : Nat}
/-- A new row joins a thing that stood beside nothing. -/
theorem pair_row {P : World → List Nat → Prop} (hP : IsThing P) (h : Pair P Nil w0 B W) {A : Option Addr} {n c : Nat} {l : List UInt8} (hR : RowAt W' 5 A n c (vbs l)) (hk : ∀ k, k ∈ rowT A → W.heap.size ≤ k) (hO : Only [] W W') : Pair P (Rw A n c l) w0 B W' := by
  obtain ⟨T, U, h1, h2, hd, hT, hU, hb, hB, hB2⟩ := h
  refine ⟨T, rowT A, hP.only h1 hO (by simp), ⟨hR, rfl⟩, fun k hk1 hk2 => ?_, hT, fun k hk1 => Nat.le_trans hB2 (hk k hk1), Only.below hb hO hb.size (by simp), hB, Nat.le_trans hB2 hO.size⟩
  have := hP.lt h1 k hk1
  have := hk k hk2
  omega
end
/-- A row of bytes, whichever. -/
def Bs (g o n c : Nat) : World → List Nat → Prop := fun w T => (∃ xs, RowAt w 5 (some ⟨g, o, none⟩) n c xs ∧ ∀ j, j < n → ∃ z : Int, xs[j]? = some (.int .u8 z)) ∧ T = [g]
theorem bs_thing (g o n c : Nat) : IsThing (Bs g o n c) :=
  ⟨fun ⟨⟨xs, h, hz⟩, hT⟩ ho hS => ⟨⟨xs, h.only ho (fun k hk => hS k (by subst hT; simpa [rowT_some] using hk)), hz⟩, hT⟩, fun ⟨⟨xs, h, hz⟩, hT⟩ k hk => h.lt k (by subst hT; simpa [rowT_some] using hk)⟩
theorem RowAt.set_ {w : World} {e : TypeId} {g o n c : Nat} {xs : List Value} (h : RowAt w e (some ⟨g, o, none⟩) n c xs) {j : Nat} (hj : j < n) (v : Value) : RowAt (w.setCell ⟨g, o + j, none⟩ v) e (some ⟨g, o, none⟩) n c (xs.set j v) := by
  refine ⟨by simpa using h.len, h.le, h.max, (fun h => by cases h), fun ad ha => ?_⟩
  obtain ⟨g', o', cur, e1, hb, hf, hx⟩ := h.some_ _ rfl
  injection ha with ha
  subst ha
  injection e1 with e1 e2
  subst e1 e2
  refine ⟨g, o, cur.set (o + j) v, rfl, hb.set_ _ v, by simpa using hf, ?_⟩
  rw [← hx]
  apply List.ext_getElem?
  intro i
  rw [List.getElem?_take, List.getElem?_drop]
  by_cases hi : i < n
  · rw [if_pos hi]
    by_cases hij : i = j
    · subst hij
      rw [List.getElem?_set_self (by have := h.le; omega), List.getElem?_set_self (by simp; have := h.le; omega)]
    · rw [List.getElem?_set_ne (by omega), List.getElem?_set_ne (by omega), List.getElem?_take, if_pos hi, List.getElem?_drop]
  · rw [if_neg hi, List.getElem?_eq_none (by simp; have := h.le; omega)]
theorem RowAt.free {w : World} {e : TypeId} {g o n c : Nat} {xs : List Value} (h : RowAt w e (some ⟨g, o, none⟩) n c xs) (i : Nat) : w.frozen? ⟨g, i, none⟩ = false := by
  obtain ⟨g', o', cur, e1, hb, hf, hx⟩ := h.some_ _ rfl
  injection e1 with e1 e2
  subst e1
  exact hb.free i
section
variable {P : World → List Nat → Prop} {w0 W : World} {B g o n c : Nat}
/-- A byte of the row replaced. -/
theorem bs_set (hP : IsThing P) (h : Pair P (Bs g o n c) w0 B W) {j : Nat} (hj : j < n) (z : Int) : Pair P (Bs g o n c) w0 B (W.setCell ⟨g, o + j, none⟩ (.int .u8 z)) := by
  obtain ⟨T, U, h1, ⟨⟨xs, hx, hz⟩, rfl⟩, hd, hT, hU, hb, hB, hB2⟩ := h
  have hO : Only [g] W (W.setCell ⟨g, o + j, none⟩ (.int .u8 z)) := (Only.refl _ _).setCell (.inl (by simp)) _
  refine ⟨T, [g], hP.only h1 hO hd, ⟨⟨_, hx.set_ hj _, fun i hi => ?_⟩, rfl⟩, hd, hT, hU, Only.below hb hO hb.size (fun k hk => Nat.le_trans hB (hU k hk)), hB, Nat.le_trans hB2 hO.size⟩
  by_cases hij : i = j
  · subst hij
    exact ⟨z, List.getElem?_set_self (by have := hx.len; omega)⟩
  · rw [List.getElem?_set_ne (by omega)]
    exact hz i hi
theorem bs_get (h : Pair P (Bs g o n c) w0 B W) {j : Nat} (hj : j < n) : ∃ z : Int, W.cell? ⟨g, o + j, none⟩ = some (.int .u8 z) ∧ W.frozen? ⟨g, o + j, none⟩ = false := by
  obtain ⟨T, U, h1, ⟨⟨xs, hx, hz⟩, rfl⟩, _⟩ := h
  obtain ⟨z, hz⟩ := hz j hj
  obtain ⟨g', o', e, hc⟩ := hx.cell hz
  injection e with e
  injection e with e1 e2
  subst e1 e2
  exact ⟨z, hc, hx.free _⟩
/-- A row that is not empty. -/
theorem rw_bs {A : Option Addr} {l : List UInt8} (h : Pair P (Rw A n c l) w0 B W) (hn : 0 < n) : ∃ g o, A = some ⟨g, o, none⟩ ∧ n ≤ c ∧ c ≤ maxLen ∧ Pair P (Bs g o n c) w0 B W := by
  obtain ⟨T, U, h1, ⟨hx, hU2⟩, hd, hT, hU, hb, hB, hB2⟩ := h
  have hl : (vbs l).length = n := hx.len
  obtain ⟨g, o, rfl, _⟩ := hx.cell (j := 0) (u := (vbs l)[0]) (List.getElem?_eq_getElem (by omega))
  refine ⟨g, o, rfl, hx.le, hx.max, T, U, h1, ⟨⟨_, hx, fun j hj => ?_⟩, by rw [hU2]; rfl⟩, hd, hT, hU, hb, hB, hB2⟩
  rw [vbs_length] at hl
  exact ⟨_, by rw [vbs_getElem?, List.getElem?_eq_getElem (by omega)]; rfl⟩
end

section
variable {P Q : World → List Nat → Prop} {w0 W W' : World} {B : Nat}
/-- A new row joins. -/
theorem pair_join (hP : IsThing P) (hQ : IsThing Q) (h : Pair P Q w0 B W) {A : Option Addr} {n c : Nat} {l : List UInt8} (hR : RowAt W' 5 A n c (vbs l)) (hk : ∀ k, k ∈ rowT A → W.heap.size ≤ k) (hO : Only [] W W') : Pair P (Both Q (Rw A n c l)) w0 B W' := by
  obtain ⟨T, U, h1, h2, hd, hT, hU, hb, hB, hB2⟩ := h
  refine ⟨T, U ++ rowT A, hP.only h1 hO (by simp), ⟨U, rowT A, rfl, hQ.only h2 hO (by simp), ⟨hR, rfl⟩, fun k hk1 hk2 => ?_⟩, fun k hk1 hk2 => ?_, hT, fun k hk1 => ?_, Only.below hb hO hb.size (by simp), hB, Nat.le_trans hB2 hO.size⟩
  · have := hQ.lt h2 k hk1
    have := hk k hk2
    omega
  · rcases List.mem_append.1 hk2 with h | h
    · exact hd k hk1 h
    · have := hP.lt h1 k hk1
      have := hk k h
      omega
  · rcases List.mem_append.1 hk1 with h | h
    · exact hU k h
    · exact Nat.le_trans hB2 (hk k h)
/-- The first row grows by what was read of the second. -/
theorem pair_grow (hP : IsThing P) {A X A' : Option Addr} {n c m d n' c' : Nat} {l b l' : List UInt8} (h : Pair P (Both (Rw A n c l) (Rw X m d b)) w0 B W) (hR : RowAt W' 5 A' n' c' (vbs l')) (hO : Only (rowT A) W W') (hk : ∀ k, k ∈ rowT A' → k ∈ rowT A ∨ W.heap.size ≤ k) :
    Pair P (Rw A' n' c' l') w0 B W' := by
  obtain ⟨T, U, h1, ⟨U1, U2, rfl, ⟨hA, rfl⟩, hX, hdd⟩, hd, hT, hU, hb, hB, hB2⟩ := h
  refine ⟨T, rowT A', hP.only h1 hO (fun k hk1 hk2 => hd k hk1 (by simp [hk2])), ⟨hR, rfl⟩, fun k hk1 hk2 => ?_, hT, fun k hk1 => ?_, Only.below hb hO hb.size (fun k hk1 => Nat.le_trans hB (hU k (by simp [hk1]))), hB, Nat.le_trans hB2 hO.size⟩
  · rcases hk k hk2 with h | h
    · exact hd k hk1 (by simp [h])
    · have := hP.lt h1 k hk1; omega
  · exact (hk k hk1).elim (fun h => hU k (by simp [h])) (fun h => Nat.le_trans hB2 h)
theorem pair_rows {A X : Option Addr} {n c m d : Nat} {l b : List UInt8} (h : Pair P (Both (Rw A n c l) (Rw X m d b)) w0 B W) : RowAt W 5 A n c (vbs l) ∧ RowAt W 5 X m d (vbs b) := by
  obtain ⟨T, U, h1, ⟨U1, U2, rfl, ⟨hA, rfl⟩, hX, hdd⟩, hd, hT, hU, hb, hB, hB2⟩ := h
  exact ⟨hA, hX.1⟩
theorem pair_rw {A : Option Addr} {n c : Nat} {l : List UInt8} (h : Pair P (Rw A n c l) w0 B W) : RowAt W 5 A n c (vbs l) := by
  obtain ⟨U, hU, _⟩ := h.second
  exact hU.1
end
end Go.Proofs.YtfchkaoifbcgkaaDoor
