/-
  A framer beside another thing: its calls; a row as a thing; a call that turns a thing within a region that draws its order.
-/
import Derived.Test.YtbphkdaciebgmaaDoorFramerLaw
namespace Go.Proofs.YtbphkdaciebgmaaDoor
open Go.RowKit Go.BigFrame
set_option linter.unusedVariables false

section
variable {P : Program} {ops : Array Oper} {Q : Exit → Act → World → Prop}
/-- A call that turns a thing; nothing else may come up. -/
theorem region_turn {X : World → List Nat → Prop} {T : List Nat} (e : Nat) {listed : Array Bool} {fuel : Nat} {a : Act} {w : World} {o : Oper} {f : FuncId} {args : Array Value} {v : Value} (hr : Region.ready .any ops listed = [e])
    (ho : ops[e]? = some o) (hw : Region.wanted o (yielded ops a.tmps) = true) (hrun : (execOp a.eval o).run P w = .ok (.enter f args) w)
    (hc : Calls P f args w fun x w1 => x = .returned v ∧ Turned X w T w1)
    (h : ∀ w1 T', X w1 T' → (∀ k, k ∈ T' → k ∈ T ∨ w.heap.size ≤ k) → Only T w w1 → wpAnyH P .any ops Q (Only T' w1) fuel (listed.setIfInBounds e true) (a.put o.dst v) w1) :
    wpAnyH P .any ops Q (Only T w) (fuel + 1) listed a w := by
  refine wpAnyH_all hr (by simp) (fun i hi => ?_)
  simp only [List.mem_singleton] at hi
  subst hi
  unfold wpOp
  simp only [ho, hw, if_true]
  refine .inl ?_
  unfold Oper.wp
  rw [hrun]
  simp only [Oper.upon]
  refine hc.mono ?_
  rintro x w1 ⟨rfl, T', hX, hk, hO⟩
  exact ⟨hO, wpAnyH_mono (fun w2 h2 => hO.join h2 hk) _ _ _ _ (h w1 T' hX hk hO)⟩
end

/-- A row as a thing. -/
def Rw (A : Option Addr) (n c : Nat) (l : List UInt8) : World → List Nat → Prop := fun w T => RowAt w 5 A n c (vbs l) ∧ T = rowT A
theorem rw_thing (A : Option Addr) (n c : Nat) (l : List UInt8) : IsThing (Rw A n c l) :=
  ⟨fun h ho hS => ⟨h.1.only ho (fun k hk => hS k (by rw [h.2]; exact hk)), h.2⟩, fun h k hk => h.1.lt k (by rw [← h.2]; exact hk)⟩
/-- Nothing as a thing. -/
def Nil : World → List Nat → Prop := fun _ T => T = []
theorem nil_thing : IsThing Nil := ⟨fun h _ _ => h, fun h k hk => by rw [h] at hk; cases hk⟩

section
variable {Q : World → List Nat → Prop} {w0 W W' : World} {B r : Nat} {s : FSt}
/-- A thing alone, then beside nothing. -/
theorem pair_solo {P : World → List Nat → Prop} {T : List Nat} (h : P W T) (hT : ∀ k, k ∈ T → B ≤ k) (hb : Below w0.heap.size w0 W) (hB : w0.heap.size ≤ B) (hB2 : B ≤ W.heap.size) : Pair P Nil w0 B W :=
  ⟨T, [], h, rfl, by simp, hT, by simp, hb, hB, hB2⟩
/-- A new row joins a thing that stood beside nothing. -/
theorem pair_row {P : World → List Nat → Prop} (hP : IsThing P) (h : Pair P Nil w0 B W) {A : Option Addr} {n c : Nat} {l : List UInt8} (hR : RowAt W' 5 A n c (vbs l)) (hk : ∀ k, k ∈ rowT A → W.heap.size ≤ k) (hO : Only [] W W') : Pair P (Rw A n c l) w0 B W' := by
  obtain ⟨T, U, h1, h2, hd, hT, hU, hb, hB, hB2⟩ := h
  refine ⟨T, rowT A, hP.only h1 hO (by simp), ⟨hR, rfl⟩, fun k hk1 hk2 => ?_, hT, fun k hk1 => Nat.le_trans hB2 (hk k hk1), Only.below hb hO hb.size (by simp), hB, Nat.le_trans hB2 hO.size⟩
  have := hP.lt h1 k hk1
  have := hk k hk2
  omega
theorem start_pair (hQ : IsThing Q) (h : Pair (Fr 52 r s) Q w0 B W) (hT : Tz w0) {X : Option Addr} {m d : Nat} {b : List UInt8} (hb : Reads W W.heap.size X m (vbs b)) (hmd : m ≤ d) (hdm : d ≤ maxLen) (e : Nat) (s' : FSt) (hs : startS s b = (e, s')) :
    Calls Tryd.prog 9 #[.pointer (some ⟨r, 0, none⟩), .slice X m d] W fun e' w' => e' = .returned (.int .i64 e) ∧ Pair (Fr 52 r s') Q w0 B w' :=
  pair_call1 h hQ fun T hF _ => start_c hF (hT.below h.below (Nat.le_refl _)) hb hmd hdm e s' hs
theorem finish_pair (hQ : IsThing Q) (h : Pair (Fr 52 r s) Q w0 B W) (hT : Tz w0) (e : Nat) (s' : FSt) (hs : finishS s = (e, s')) :
    Calls Tryd.prog 10 #[.pointer (some ⟨r, 0, none⟩)] W fun e' w' => e' = .returned (.int .i64 e) ∧ Pair (Fr 52 r s') Q w0 B w' :=
  pair_call1 h hQ fun T hF _ => finish_c hF (hT.below h.below (Nat.le_refl _)) e s' hs
theorem adv_pair (hQ : IsThing Q) (h : Pair (Fr 52 r s) Q w0 B W) (n : Int) (e : Nat) (s' : FSt) (hs : advS s n = (e, s')) :
    Calls Tryd.prog 11 #[.pointer (some ⟨r, 0, none⟩), .int .i64 n] W fun e' w' => e' = .returned (.int .i64 e) ∧ Pair (Fr 52 r s') Q w0 B w' :=
  pair_call1 h hQ fun T hF _ => advance_c hF n e s' hs
theorem pend_pair (h : Pair (Fr 52 r s) Q w0 B W) (n : Nat) (hn : n = s.pend.length) :
    Calls Tryd.prog 12 #[.pointer (some ⟨r, 0, none⟩)] W fun e w' => ∃ G d, e = .returned (.slice G n d) ∧ RowAt w' 5 G n d (vbs s.pend) ∧ (∀ k, k ∈ rowT G → W.heap.size ≤ k) ∧ Only [] W w' := by
  obtain ⟨T, hF, _⟩ := h.first
  exact pending_c hF n hn
theorem done_pair (h : Pair (Fr 52 r s) Q w0 B W) (b : Bool) (hb : b = s.done) :
    Calls Tryd.prog 13 #[.pointer (some ⟨r, 0, none⟩)] W fun e w' => e = .returned (.bool b) ∧ W = w' := by
  obtain ⟨T, hF, _⟩ := h.first
  exact done_c hF b hb
/-- A framer is made. -/
theorem new_pair (w : World) {n : Nat} (h1 : 1 ≤ n) (h2 : n ≤ 65536) :
    Calls Tryd.prog 15 #[.int .i64 n] w fun e w' => e = .returned (.tuple #[.pointer (some ⟨w.heap.size, 0, none⟩), .int .i64 0]) ∧ Pair (Fr 52 w.heap.size ⟨n, [], false⟩) Nil w w.heap.size w' := by
  refine (new_c w h1 h2).mono ?_
  rintro e w' ⟨rfl, hF, hO⟩
  exact ⟨rfl, pair_solo hF (by simp) (hO.to_below (Nat.le_refl _) (by simp)) (Nat.le_refl _) hO.size⟩
end

/-! ### The steps -/
theorem startS_ok {m : Nat} {l : List UInt8} (h1 : 0 < l.length) (h2 : l.length ≤ m) : startS ⟨m, [], false⟩ l = (0, ⟨m, chunkOf l, false⟩) := by
  unfold startS
  rw [if_neg (show ¬ (⟨m, [], false⟩ : FSt).busy from fun h => h.elim (fun h => by simp at h) (fun h => by cases h)), if_neg (by simp only; omega)]
theorem finishS_ok (m : Nat) : finishS ⟨m, [], false⟩ = (0, ⟨m, chunkOf [], true⟩) := by
  unfold finishS
  rw [if_neg (show ¬ (⟨m, [], false⟩ : FSt).busy from fun h => h.elim (fun h => by simp at h) (fun h => by cases h))]
theorem startS_busy {s : FSt} (h : 0 < s.pend.length) (l : List UInt8) : startS s l = (4, s) := by unfold startS; rw [if_pos (show s.busy from .inl h)]
theorem finishS_busy {s : FSt} (h : 0 < s.pend.length) : finishS s = (4, s) := by unfold finishS; rw [if_pos (show s.busy from .inl h)]
theorem startS_fin {s : FSt} (h : s.fin = true) (l : List UInt8) : startS s l = (4, s) := by unfold startS; rw [if_pos (show s.busy from .inr h)]
theorem finishS_fin {s : FSt} (h : s.fin = true) : finishS s = (4, s) := by unfold finishS; rw [if_pos (show s.busy from .inr h)]
theorem advS_ok {m : Nat} {p : List UInt8} {f : Bool} {k : Nat} (h : k ≤ p.length) : advS ⟨m, p, f⟩ (k : Int) = (0, ⟨m, p.drop k, f⟩) := by
  unfold advS
  rw [if_neg (by simp only; omega)]
  simp
theorem advS_bad {s : FSt} {n : Int} (h : n < 0 ∨ s.pend.length < n) : advS s n = (3, s) := by unfold advS; rw [if_pos h]
end Go.Proofs.YtbphkdaciebgmaaDoor
