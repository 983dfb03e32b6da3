/-
  Two things side by side, each with blocks of its own.
-/
import Derived.Test.YtfgomjcdgfagbaaWriterLaw3
namespace Go.Proofs.Ytfgomjcdgfagbaa
open Go.RowKit
set_option linter.unusedVariables false

/-- Something that lies in a world, with the blocks that belong to it. -/
structure IsThing (P : World → List Nat → Prop) : Prop where
  only : ∀ {w w' : World} {T S : List Nat}, P w T → Only S w w' → (∀ k, k ∈ T → k ∉ S) → P w' T
  lt : ∀ {w : World} {T : List Nat}, P w T → ∀ k, k ∈ T → k < w.heap.size
theorem writer_thing (r : Nat) (s : WSt) : IsThing (fun w T => WriterOf w T r s) := ⟨fun h ho hS => h.only ho hS, fun h => h.lt⟩

/-- Both, apart from one another, in blocks from B on; from the start w0 on nothing old has turned. -/
def Pair (P Q : World → List Nat → Prop) (w0 : World) (B : Nat) (w : World) : Prop :=
  ∃ T U, P w T ∧ Q w U ∧ (∀ k, k ∈ T → k ∉ U) ∧ (∀ k, k ∈ T → B ≤ k) ∧ (∀ k, k ∈ U → B ≤ k) ∧ Below w0.heap.size w0 w ∧ w0.heap.size ≤ B ∧ B ≤ w.heap.size

section
variable {P P' Q : World → List Nat → Prop} {w0 w w' : World} {B : Nat}
theorem Pair.swap (h : Pair P Q w0 B w) : Pair Q P w0 B w := by
  obtain ⟨T, U, hP, hQ, hd, hT, hU, hb, hB⟩ := h
  exact ⟨U, T, hQ, hP, fun k hk hk' => hd k hk' hk, hU, hT, hb, hB⟩
theorem Pair.below (h : Pair P Q w0 B w) : Below w0.heap.size w0 w := by obtain ⟨T, U, _, _, _, _, _, hb, _⟩ := h; exact hb
theorem Pair.only (h : Pair P Q w0 B w) (hP : IsThing P) (hQ : IsThing Q) {S : List Nat} (hO : Only S w w') (hS : ∀ k, k ∈ S → w0.heap.size ≤ k ∧ k < B) : Pair P Q w0 B w' := by
  obtain ⟨T, U, h1, h2, hd, hT, hU, hb, hB, hB2⟩ := h
  exact ⟨T, U, hP.only h1 hO (fun k hk hk' => by have := hT k hk; have := (hS k hk').2; omega), hQ.only h2 hO (fun k hk hk' => by have := hU k hk; have := (hS k hk').2; omega), hd, hT, hU, Only.below hb hO hb.size (fun k hk => (hS k hk).1), hB, Nat.le_trans hB2 hO.size⟩
theorem Pair.quiet (h : Pair P Q w0 B w) (hP : IsThing P) (hQ : IsThing Q) (hO : Only [] w w') : Pair P Q w0 B w' := h.only hP hQ hO (by simp)
theorem pair_call1b {p : Program} {f : FuncId} {args : Array Value} {x : Ending} (h : Pair P Q w0 B w) (hQ : IsThing Q)
    (hc : ∀ T, P w T → (∀ k, k ∈ T → w0.heap.size ≤ k) → Calls p f args w fun e w' => e = x ∧ ∃ T', P' w' T' ∧ (∀ k, k ∈ T' → k ∈ T ∨ w.heap.size ≤ k) ∧ Only T w w') :
    Calls p f args w fun e w' => e = x ∧ Pair P' Q w0 B w' ∧ Below B w w' := by
  obtain ⟨T, U, h1, h2, hd, hT, hU, hb, hB, hB2⟩ := h
  refine (hc T h1 (fun k hk => Nat.le_trans hB (hT k hk))).mono ?_
  rintro e w' ⟨rfl, T', h1', hk, hO⟩
  refine ⟨rfl, ⟨T', U, h1', hQ.only h2 hO (fun k hk hk' => hd k hk' hk), fun k hk' hk2 => ?_, fun k hk' => (hk k hk').elim (hT k) (fun h => Nat.le_trans hB2 h), hU, Only.below hb hO hb.size (fun k hk => Nat.le_trans hB (hT k hk)), hB, Nat.le_trans hB2 hO.size⟩, hO.to_below hB2 hT⟩
  rcases hk k hk' with h | h
  · exact hd k h hk2
  · have := hQ.lt h2 k hk2
    omega
theorem pair_call1 {p : Program} {f : FuncId} {args : Array Value} {x : Ending} (h : Pair P Q w0 B w) (hQ : IsThing Q)
    (hc : ∀ T, P w T → (∀ k, k ∈ T → w0.heap.size ≤ k) → Calls p f args w fun e w' => e = x ∧ ∃ T', P' w' T' ∧ (∀ k, k ∈ T' → k ∈ T ∨ w.heap.size ≤ k) ∧ Only T w w') :
    Calls p f args w fun e w' => e = x ∧ Pair P' Q w0 B w' := by
  refine (pair_call1b h hQ hc).mono ?_
  rintro e w' ⟨rfl, h', _⟩
  exact ⟨rfl, h'⟩
theorem pair_call2 {p : Program} {f : FuncId} {args : Array Value} {x : Ending} (h : Pair Q P w0 B w) (hQ : IsThing Q)
    (hc : ∀ T, P w T → (∀ k, k ∈ T → w0.heap.size ≤ k) → Calls p f args w fun e w' => e = x ∧ ∃ T', P' w' T' ∧ (∀ k, k ∈ T' → k ∈ T ∨ w.heap.size ≤ k) ∧ Only T w w') :
    Calls p f args w fun e w' => e = x ∧ Pair Q P' w0 B w' := by
  refine (pair_call1 h.swap hQ hc).mono ?_
  rintro e w' ⟨rfl, h'⟩
  exact ⟨rfl, h'.swap⟩
end

/-- A writer as a thing. -/
def Wr (r : Nat) (s : WSt) : World → List Nat → Prop := fun w T => WriterOf w T r s
theorem wr_thing (r : Nat) (s : WSt) : IsThing (Wr r s) := ⟨fun h ho hS => WriterOf.only h ho hS, fun h => WriterOf.lt h⟩

section
variable {Q : World → List Nat → Prop} {w0 w : World} {B r : Nat} {s : WSt}
/-- Whatever is read below the start lies in none of the new blocks. -/
theorem apart_of {n : Nat} {X : Option Addr} {xs : List Value} {T : List Nat} (hb : Reads w w0.heap.size X n xs) (hT : ∀ k, k ∈ T → w0.heap.size ≤ k) : 0 < n → ∀ ad, X = some ad → ad.block ∉ T := by
  intro h0 ad e' hk
  obtain ⟨ad', e1, hl, _⟩ := hb.2 h0
  rw [e'] at e1
  injection e1 with e1
  subst e1
  have := hT _ hk
  omega
theorem write_fact {X : Option Addr} {m cap : Nat} {b : List UInt8} (hb : Reads w w0.heap.size X m (vbs b)) (hw : w0.heap.size ≤ w.heap.size) (n e : Nat) (s' : WSt) (hs : wstep s b = (n, e, s')) (hq : s.calls < 70368744177664)
    (hmc : m ≤ cap) (hcm : cap ≤ maxLen) (hsum : s.acc.length + m ≤ 70368744177664) : ∀ T, Wr r s w T → (∀ k, k ∈ T → w0.heap.size ≤ k) →
    Calls Try.prog 10 #[.pointer (some ⟨r, 0, none⟩), .slice X m cap] w fun e' w' => e' = .returned (.tuple #[.int .i64 n, .int .i64 e]) ∧ ∃ T', Wr r s' w' T' ∧ (∀ k, k ∈ T' → k ∈ T ∨ w.heap.size ≤ k) ∧ Only T w w' :=
  fun T hW hT => write_to hW hb n e s' hs hq hw hmc hcm (apart_of hb hT) hsum
theorem extend_fact {X : Option Addr} {m c : Nat} {ns : List Int} {B' : Nat} (hr : Reads w B' X m (vis ns)) (hm : s.left.length + m ≤ 17592186044416) : ∀ T, Wr r s w T → (∀ k, k ∈ T → w0.heap.size ≤ k) →
    Calls Try.prog 9 #[.pointer (some ⟨r, 0, none⟩), .slice X m c] w fun e w' => e = .returned (.tuple #[]) ∧ ∃ T', Wr r { s with left := s.left ++ ns } w' T' ∧ (∀ k, k ∈ T' → k ∈ T ∨ w.heap.size ≤ k) ∧ Only T w w' :=
  fun T hW hT => extend_c hW hr hm
theorem Pair.calls (h : Pair (Wr r s) Q w0 B w) (q : Nat) (hq : q = s.calls) :
    Calls Try.prog 12 #[.pointer (some ⟨r, 0, none⟩)] w fun e w' => e = .returned (.int .i64 q) ∧ w = w' := by
  obtain ⟨T, U, h1, _⟩ := h
  subst hq
  exact calls_c h1
theorem Pair.left (h : Pair (Wr r s) Q w0 B w) (q : Nat) (hq : q = s.left.length) :
    Calls Try.prog 13 #[.pointer (some ⟨r, 0, none⟩)] w fun e w' => e = .returned (.int .i64 q) ∧ w = w' := by
  obtain ⟨T, U, h1, _⟩ := h
  subst hq
  exact left_c h1
theorem Pair.bytes (h : Pair (Wr r s) Q w0 B w) (n : Nat) (hn : n = s.acc.length) :
    Calls Try.prog 11 #[.pointer (some ⟨r, 0, none⟩)] w fun e w' => ∃ G d, e = .returned (.slice G n d) ∧ Reads w' w'.heap.size G n (vbs s.acc) ∧ Only [] w w' := by
  obtain ⟨T, U, h1, _⟩ := h
  exact bytes_c h1 n hn
end

/-- Behind i pieces. -/
structure Sofar (ps : List PieceV) (i : Nat) (s : WSt) : Prop where
  acc : s.acc.length ≤ total (ps.take i)
  calls : s.calls ≤ i
theorem Sofar.step {w : World} {B : Nat} {ps : List PieceV} {i : Nat} {s : WSt} (h : Sofar ps i s) {p : PieceV} (hp : ps[i]? = some p) (hb : p.at w B) {n e : Nat} {s' : WSt} (hs : wstep s p.b = (n, e, s')) : Sofar ps (i + 1) s' := by
  obtain ⟨h1, h2, _⟩ := wstep_le s p.b
  rw [hs] at h1 h2
  have h3 := h.acc
  have h4 := h.calls
  refine ⟨?_, by simp only at h2; omega⟩
  rw [total_take hp]
  have := hb.1
  simp only at h1
  omega

end Go.Proofs.Ytfgomjcdgfagbaa
