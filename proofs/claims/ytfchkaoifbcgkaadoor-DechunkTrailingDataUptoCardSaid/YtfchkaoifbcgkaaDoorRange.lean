/-
  A region within a round of a range over a function, out of the plain walk of the region (the fence that asks nothing). No program is imported here.
-/
import Derived.Test.YtfchkaoifbcgkaaDoorTurn
import Derived.RangeFuncNested
import Derived.RangeFuncBound
import Derived.RangeFuncCalls
import Derived.RangeFuncLeaves
import Derived.Shelf.Abstract
import Derived.OwnWalkIn
import Derived.TacticsInMore
import Derived.LoopNIn
import Derived.LoopIn
namespace Go.Proofs.YtfchkaoifbcgkaaDoor
open Go.RowKit Go.Shelf
set_option linter.unusedVariables false

section
variable {P : Program} {ops : Array Oper} {Q : Exit → Act → World → Prop} {n l : Nat}
/-- The fence that asks nothing, within a round. -/
abbrev inR (l : Nat) : Fence := Fence.wide.inRound l
theorem opIn_of_op {o : Oper} (hnd : ∀ c, o.op ≠ .defer c) {a : Act} {w : World} {K K' : Act → World → Prop} (hK : ∀ a w, K a w → K' a w) (h : o.wp P a w K Q) : o.wpIn (inR l) n P a w K' Q := by
  refine ⟨fun _ _ => trivial, ?_⟩
  rw [show (inR l).round = some l from rfl, Oper.semAt_some l a.eval o hnd]
  unfold Oper.wp at h
  generalize (execOp a.eval o).run P w = r at h
  cases r with
  | ok x w' =>
    cases x <;> simp only [Oper.upon] at h
    case value v => exact hK _ _ h
    case skip => exact hK _ _ h
    case defer d => exact hK _ _ h
    case enter f args =>
      refine ⟨fun hd => (by cases hd), (CallsIn.inRound l (callsIn_wide.2 h)).mono fun e w'' he => ?_⟩
      cases e with
      | returned v => exact hK _ _ he
      | panicked c => exact he
      | outgrown => exact he
    case row row args =>
      refine ⟨fun hd => (by cases hd), fun c cs hr => ?_⟩
      obtain ⟨v, w'', hR, hs⟩ := h c cs
      exact ⟨v, w'', hK _ _ hR, stepsIn_wide.2 hs⟩
  | halt x w' =>
    cases x <;> simp only [Oper.upon] at h
    case panic v => exact h
theorem opsIn_of_ops (hnd : ∀ (i : Nat) (o : Oper), ops[i]? = some o → ∀ c, o.op ≠ .defer c) (hQ : ¬ LetsOut Q) : ∀ (is : List Nat) (a : Act) (w : World), wpOps P ops Q is a w → wpOpsIn (inR l) n P ops Q is a w
  | [], _, _, h => h
  | i :: is, a, w, h => by
    simp only [wpOps] at h
    simp only [wpOpsIn]
    cases ho : ops[i]? with
    | none =>
      simp only [ho] at h ⊢
      exact opsIn_of_ops hnd hQ is a w h
    | some o =>
      simp only [ho] at h ⊢
      by_cases hw : Region.wanted o (yielded ops a.tmps) = true
      · rw [if_pos hw] at h ⊢
        rcases h with h | ⟨_, h⟩
        · exact opIn_of_op (hnd i o ho) (fun a' w' h' => opsIn_of_ops hnd hQ is a' w' h') h
        · exact absurd h hQ
      · rw [if_neg hw] at h ⊢
        exact ⟨fun _ _ => trivial, opsIn_of_ops hnd hQ is _ w h⟩
def noDefer (l : List Oper) : Bool := l.all fun o => match o.op with | .defer _ => false | _ => true
theorem noDefer_spec {l : List Oper} (h : noDefer l = true) (i : Nat) (o : Oper) (ho : l.toArray[i]? = some o) : ∀ c, o.op ≠ .defer c := by
  intro c hc
  have := List.all_eq_true.1 h o (List.mem_of_getElem? (by simpa using ho))
  rw [hc] at this
  cases this
/-- THE BEGINNING of a drawn region within a round: walked as anywhere. -/
theorem region_begin_round {T : List Nat} {id : Nat} {a : Act} {w : World} {lst : List Oper} (hm : P.follows .mixedOrders = true) (hnd : noDefer lst = true) (hQ : ¬ LetsOut Q)
    (h : wpAnyH P .any lst.toArray Q (Only T w.drew) lst.toArray.size (Array.replicate lst.toArray.size false) a w.drew) : (Code.region id lst.toArray true).wpIn (inR l) n P Q a w :=
  wpIn_region_draw fun t => by
    simp only [Region.schedule, hm, Bool.true_or, if_true]
    exact opsIn_of_ops (noDefer_spec hnd) hQ _ _ _ (wpAny_sound _ t _ a _ (wpAny_of_held _ _ _ _ h))
/-- What turned lies below B, or is cells: what the law asks of a round's body. -/
theorem keepsFrom_of_only {w w' : World} {S : List Nat} {B : Nat} (h : Only S w w') (hS : ∀ k, k ∈ S → k < B ∨ ∃ cs t fr, w.heap[k]? = some (.cells cs t fr)) : KeepsFrom B w w' :=
  ⟨h.size, fun k o hB hk ho => by
    by_cases hm : k ∈ S
    · rcases hS k hm with h1 | ⟨cs, t, fr, h1⟩
      · omega
      · rw [h1] at hk
        injection hk with hk
        subst hk
        cases ho
    · exact (h.block k (Array.getElem?_eq_some_iff.1 hk).1 hm).trans hk⟩
end

/-! ### Aids of a caller -/
theorem only_of_grown {B : Nat} {X Y : World} {row : Option Nat} (hg : X.grownBy Y row) (hr : ∀ r, row = some r → B ≤ r ∧ ∃ o : Obj, X.heap[r]? = some o ∧ o.isCells = false) :
    ∃ S, Only S X Y ∧ ∀ k, k ∈ S → B ≤ k ∧ ∃ o : Obj, X.heap[k]? = some o ∧ o.isCells = false := by
  cases row with
  | none => exact ⟨[], (Only.refl [] X).grown hg (by simp), by simp⟩
  | some r =>
    refine ⟨[r], (Only.refl [r] X).grown hg (fun k hk => by injection hk with hk; subst hk; exact .inl (by simp)), fun k hk => ?_⟩
    have hk' : k = r := by simpa using hk
    subst hk'
    exact hr _ rfl
theorem Blk.notin {X : World} {g : Nat} {t : TypeId} {cs : List Value} {S : List Nat} (h : Blk X g t cs) (hS : ∀ k, k ∈ S → ∃ o : Obj, X.heap[k]? = some o ∧ o.isCells = false) : g ∉ S := by
  intro hk
  obtain ⟨o, ho, hc⟩ := hS g hk
  unfold Blk at h
  rw [h] at ho
  injection ho with ho
  subst ho
  cases hc
theorem RowAt.notin {X : World} {e : TypeId} {A : Option Addr} {n c : Nat} {xs : List Value} {S : List Nat} (h : RowAt X e A n c xs) (hS : ∀ k, k ∈ S → ∃ o : Obj, X.heap[k]? = some o ∧ o.isCells = false) : ∀ k, k ∈ rowT A → k ∉ S := by
  intro k hk
  obtain ⟨ad, rfl, rfl⟩ := mem_rowT.1 hk
  obtain ⟨g, o, cur, rfl, hb, _⟩ := h.some_ ad rfl
  exact hb.notin hS
theorem row_not_deferred {W : World} {e : TypeId} {A : Option Addr} {n c : Nat} {xs : List Value} (h : RowAt W e A n c xs) {D : Nat} (hD : D ∈ rowT A) {o : Obj} (hK : W.heap[D]? = some o) (ho : o.isCells = false := by rfl) : False := by
  obtain ⟨ad, rfl, rfl⟩ := mem_rowT.1 hD
  obtain ⟨g, off, cur, rfl, hb, _⟩ := h.some_ ad rfl
  unfold Blk at hb
  rw [hb] at hK
  injection hK with hK
  subst hK
  cases ho
theorem below_put {w W : World} {D : Nat} {o o' : Obj} (h : Below w.heap.size w W) (hK : W.heap[D]? = some o) (hD : w.heap.size ≤ D) : Only [] w (W.putObj D o') :=
  ⟨h.os, h.tape, h.output, by rw [World.putObj_size]; exact h.size, fun k hk _ => (World.putObj_heap_other (by omega)).trans (h.block k hk)⟩

end Go.Proofs.YtfchkaoifbcgkaaDoor
