/-
  Within a region that draws its order: a call that turns a thing; one of several that may come up is a call; a region that only ends normally. No program is imported here.
-/
import Derived.Test.YtbpmhleokmcggaaDoorThing
import Derived.Test.YtbpmhleokmcggaaDoorRegion2
namespace Go.Proofs.YtbpmhleokmcggaaDoor
open Go.RowKit
set_option linter.unusedVariables false

section
variable {P : Program} {ops : Array Oper} {Q : Exit → Act → World → Prop}
/-- A call that turns a thing; nothing else may come up. -/
theorem region_turn {X : World → List Nat → Prop} {T : List Nat} (e : Nat) {listed : Array Bool} {fuel : Nat} {a : Act} {w : World} {o : Oper} {f : FuncId} {args : Array Value} {v : Value} (hr : Region.ready .any ops listed = [e])
    (ho : ops[e]? = some o) (hw : Region.wanted o (yielded ops a.tmps) = true) (hrun : (execOp a.eval o).run P w = .ok (.enter f args) w)
    (hc : Calls P f args w fun x w1 => x = .returned v ∧ Turned X w T w1)
    (h : ∀ w1 T', X w1 T' → (∀ k, k ∈ T' → k ∈ T ∨ w.heap.size ≤ k) → Only T w w1 → wpAnyH P .any ops Q (Only T' w1) fuel (listed.setIfInBounds e true) (a.put o.dst v) w1) :
    wpAnyH P .any ops Q (Only T w) (fuel + 1) listed a w := by
  refine wpAnyH_all hr (by simp) (fun i hi => ?_)
  simp only [List.mem_singleton] at hi
  subst hi
  unfold wpOp
  simp only [ho, hw, if_true]
  refine .inl ?_
  unfold Oper.wp
  rw [hrun]
  simp only [Oper.upon]
  refine hc.mono ?_
  rintro x w1 ⟨rfl, T', hX, hk, hO⟩
  exact ⟨hO, wpAnyH_mono (fun w2 h2 => hO.join h2 hk) _ _ _ _ (h w1 T' hX hk hO)⟩
/-- One of several that may come up: a call of a Go function that returns. -/
theorem op_call {T : List Nat} {e : Nat} {listed : Array Bool} {fuel : Nat} {a : Act} {w : World} {o : Oper} {f : FuncId} {args : Array Value}
    (ho : ops[e]? = some o) (hw : Region.wanted o (yielded ops a.tmps) = true) (hrun : (execOp a.eval o).run P w = .ok (.enter f args) w)
    (hc : Calls P f args w fun x w1 => ∃ v, x = .returned v ∧ Only T w w1 ∧ wpAnyH P .any ops Q (Only T w1) fuel (listed.setIfInBounds e true) (a.put o.dst v) w1) :
    wpOp P ops Q e (fun a' w' => Only T w w' ∧ wpAnyH P .any ops Q (Only T w) fuel (listed.setIfInBounds e true) a' w') a w := by
  unfold wpOp
  simp only [ho, hw, if_true]
  refine .inl ?_
  unfold Oper.wp
  rw [hrun]
  simp only [Oper.upon]
  refine hc.mono ?_
  rintro x w1 ⟨v, rfl, hO, h⟩
  exact ⟨hO, wpAnyH_mono (fun w2 h2 => hO.trans h2) _ _ _ _ h⟩
/-- THE BEGINNING of a drawn region that only ends normally, whatever lies behind it. -/
theorem region_begin_normal {T : List Nat} {id : Nat} {a : Act} {w : World} (hm : P.follows .mixedOrders = true)
    (h : wpAnyH P .any ops (fun e a w => e = .normal ∧ Q .normal a w) (Only T w.drew) ops.size (Array.replicate ops.size false) a w.drew) : (Code.region id ops true).wp P Q a w :=
  wp_mono (wp_region_held hm h) fun e a w ⟨he, hq⟩ => by subst he; exact hq
end
end Go.Proofs.YtbpmhleokmcggaaDoor
