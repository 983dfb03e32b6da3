/-
  Insertion into an ordered list; a drawn region where two operations may come up. No program is imported here.
-/
import Derived.Test.YtmgnomahnndeaaaDoorRegion
namespace Go.Proofs.YtmgnomahnndeaaaDoor
open Go.RowKit
set_option linter.unusedVariables false

theorem ins_ordered {α : Type} {r : α → α → Prop} (tr : ∀ a b c, r a b → r b c → r a c) {l : List α} {x : α} {j : Nat} (h : l.Pairwise r) (hj : j ≤ l.length)
    (h1 : ∀ (i : Nat) (y : α), j ≤ i → l[i]? = some y → r x y) (h2 : ∀ y : α, 0 < j → l[j - 1]? = some y → r y x) : (l.take j ++ x :: l.drop j).Pairwise r := by
  rw [List.pairwise_append]
  refine ⟨h.sublist (List.take_sublist _ _), ?_, fun a ha b hb => ?_⟩
  · rw [List.pairwise_cons]
    refine ⟨fun y hy => ?_, h.sublist (List.drop_sublist _ _)⟩
    obtain ⟨i, hi, rfl⟩ := List.getElem_of_mem hy
    rw [List.length_drop] at hi
    rw [List.getElem_drop]
    exact h1 (j + i) _ (by omega) (List.getElem?_eq_getElem (by omega))
  · obtain ⟨i, hi, rfl⟩ := List.getElem_of_mem ha
    rw [List.length_take] at hi
    rw [List.getElem_take]
    have hax : r l[i] x := by
      by_cases e : i = j - 1
      · subst e
        exact h2 _ (by omega) (List.getElem?_eq_getElem (by omega))
      · exact tr _ _ _ ((List.pairwise_iff_getElem.1 h) i (j - 1) (by omega) (by omega) (by omega)) (h2 _ (by omega) (List.getElem?_eq_getElem (by omega)))
    rcases List.mem_cons.1 hb with rfl | hb
    · exact hax
    · obtain ⟨i', hi', rfl⟩ := List.getElem_of_mem hb
      rw [List.length_drop] at hi'
      rw [List.getElem_drop]
      exact tr _ _ _ hax (h1 (j + i') _ (by omega) (List.getElem?_eq_getElem (by omega)))
theorem ins_perm {α : Type} (l : List α) (x : α) (j : Nat) : (l.take j ++ x :: l.drop j).Perm (l ++ [x]) := by
  have h1 : (l.take j ++ x :: l.drop j).Perm (x :: (l.take j ++ l.drop j)) := List.perm_middle
  rw [List.take_append_drop] at h1
  exact h1.trans (List.perm_append_comm (l₁ := [x]))
section
variable {P : Program} {ops : Array Oper} {Q : Exit → Act → World → Prop}
/-- TWO OPERATIONS MAY COME UP: a call, or something that makes a value. -/
theorem region_call_or_make {T : List Nat} (e1 e2 : Nat) {listed : Array Bool} {fuel : Nat} {a : Act} {w w1 : World} {o1 o2 : Oper} {f : FuncId} {args : Array Value} {v : Value} (hr : Region.ready .any ops listed = [e1, e2])
    (ho1 : ops[e1]? = some o1) (hw1 : Region.wanted o1 (yielded ops a.tmps) = true) (hrun1 : (execOp a.eval o1).run P w = .ok (.enter f args) w)
    (ho2 : ops[e2]? = some o2) (hw2 : Region.wanted o2 (yielded ops a.tmps) = true) (hrun2 : (execOp a.eval o2).run P w = .ok (.value v) w1) (hO : Only T w w1)
    (hc : Calls P f args w fun x w1 => ∃ v, x = .returned v ∧ Only T w w1 ∧ wpAnyH P .any ops Q (Only T w1) fuel (listed.setIfInBounds e1 true) (a.put o1.dst v) w1)
    (hm : wpAnyH P .any ops Q (Only T w1) fuel (listed.setIfInBounds e2 true) (a.put o2.dst v) w1) :
    wpAnyH P .any ops Q (Only T w) (fuel + 1) listed a w := by
  refine wpAnyH_all hr (by simp) (fun i hi => ?_)
  simp only [List.mem_cons, List.not_mem_nil, or_false] at hi
  rcases hi with rfl | rfl
  · unfold wpOp
    simp only [ho1, hw1, if_true]
    refine .inl ?_
    unfold Oper.wp
    rw [hrun1]
    simp only [Oper.upon]
    refine hc.mono ?_
    rintro x w2 ⟨v, rfl, hO, h⟩
    exact ⟨hO, wpAnyH_mono (fun w3 h3 => hO.trans h3) _ _ _ _ h⟩
  · unfold wpOp
    simp only [ho2, hw2, if_true]
    refine .inl ?_
    unfold Oper.wp
    rw [hrun2]
    simp only [Oper.upon]
    exact ⟨hO, wpAnyH_mono (fun w2 h2 => hO.trans h2) _ _ _ _ hm⟩
/-- A region whose later worlds are all such: a call. -/
theorem keep_call {S : World → Prop} (e : Nat) {listed : Array Bool} {fuel : Nat} {a : Act} {w : World} {o : Oper} {f : FuncId} {args : Array Value} (hr : Region.ready .any ops listed = [e])
    (ho : ops[e]? = some o) (hw : Region.wanted o (yielded ops a.tmps) = true) (hrun : (execOp a.eval o).run P w = .ok (.enter f args) w)
    (hc : Calls P f args w fun x w1 => ∃ v, x = .returned v ∧ S w1 ∧ wpAnyH P .any ops Q S fuel (listed.setIfInBounds e true) (a.put o.dst v) w1) :
    wpAnyH P .any ops Q S (fuel + 1) listed a w := by
  refine wpAnyH_all hr (by simp) (fun i hi => ?_)
  simp only [List.mem_singleton] at hi
  subst hi
  unfold wpOp
  simp only [ho, hw, if_true]
  refine .inl ?_
  unfold Oper.wp
  rw [hrun]
  simp only [Oper.upon]
  refine hc.mono ?_
  rintro x w2 ⟨v, rfl, hO, h⟩
  exact ⟨hO, h⟩
/-- .. a value is made. -/
theorem keep_make {S : World → Prop} (e : Nat) {listed : Array Bool} {fuel : Nat} {a : Act} {w w1 : World} {o : Oper} {v : Value} (hr : Region.ready .any ops listed = [e])
    (ho : ops[e]? = some o) (hw : Region.wanted o (yielded ops a.tmps) = true) (hrun : (execOp a.eval o).run P w = .ok (.value v) w1) (hO : S w1)
    (h : wpAnyH P .any ops Q S fuel (listed.setIfInBounds e true) (a.put o.dst v) w1) :
    wpAnyH P .any ops Q S (fuel + 1) listed a w := by
  refine wpAnyH_all hr (by simp) (fun i hi => ?_)
  simp only [List.mem_singleton] at hi
  subst hi
  unfold wpOp
  simp only [ho, hw, if_true]
  refine .inl ?_
  unfold Oper.wp
  rw [hrun]
  simp only [Oper.upon]
  exact ⟨hO, h⟩
/-- .. a store. -/
theorem keep_store {S : World → Prop} (e : Nat) {listed : Array Bool} {fuel : Nat} {a : Act} {w w1 : World} {o : Oper} (hr : Region.ready .any ops listed = [e])
    (ho : ops[e]? = some o) (hw : Region.wanted o (yielded ops a.tmps) = true) (hrun : (execOp a.eval o).run P w = .ok .skip w1) (hO : S w1)
    (h : wpAnyH P .any ops Q S fuel (listed.setIfInBounds e true) (a.put o.dst undef) w1) :
    wpAnyH P .any ops Q S (fuel + 1) listed a w := by
  refine wpAnyH_all hr (by simp) (fun i hi => ?_)
  simp only [List.mem_singleton] at hi
  subst hi
  unfold wpOp
  simp only [ho, hw, if_true]
  refine .inl ?_
  unfold Oper.wp
  rw [hrun]
  simp only [Oper.upon]
  exact ⟨hO, h⟩
/-- .. one of two values is made first. -/
theorem keep_make2 {S : World → Prop} (e1 e2 : Nat) {listed : Array Bool} {fuel : Nat} {a : Act} {w w1 w2 : World} {o1 o2 : Oper} {v1 v2 : Value} (hr : Region.ready .any ops listed = [e1, e2])
    (ho1 : ops[e1]? = some o1) (hw1 : Region.wanted o1 (yielded ops a.tmps) = true) (hrun1 : (execOp a.eval o1).run P w = .ok (.value v1) w1) (hO1 : S w1)
    (ho2 : ops[e2]? = some o2) (hw2 : Region.wanted o2 (yielded ops a.tmps) = true) (hrun2 : (execOp a.eval o2).run P w = .ok (.value v2) w2) (hO2 : S w2)
    (h1 : wpAnyH P .any ops Q S fuel (listed.setIfInBounds e1 true) (a.put o1.dst v1) w1) (h2 : wpAnyH P .any ops Q S fuel (listed.setIfInBounds e2 true) (a.put o2.dst v2) w2) :
    wpAnyH P .any ops Q S (fuel + 1) listed a w := by
  refine wpAnyH_all hr (by simp) (fun i hi => ?_)
  simp only [List.mem_cons, List.not_mem_nil, or_false] at hi
  rcases hi with rfl | rfl
  · unfold wpOp
    simp only [ho1, hw1, if_true]
    refine .inl ?_
    unfold Oper.wp
    rw [hrun1]
    simp only [Oper.upon]
    exact ⟨hO1, h1⟩
  · unfold wpOp
    simp only [ho2, hw2, if_true]
    refine .inl ?_
    unfold Oper.wp
    rw [hrun2]
    simp only [Oper.upon]
    exact ⟨hO2, h2⟩
/-- .. a call, or a value is made. -/
theorem keep_call_or_make {S : World → Prop} (e1 e2 : Nat) {listed : Array Bool} {fuel : Nat} {a : Act} {w w1 : World} {o1 o2 : Oper} {f : FuncId} {args : Array Value} {v : Value} (hr : Region.ready .any ops listed = [e1, e2])
    (ho1 : ops[e1]? = some o1) (hw1 : Region.wanted o1 (yielded ops a.tmps) = true) (hrun1 : (execOp a.eval o1).run P w = .ok (.enter f args) w)
    (ho2 : ops[e2]? = some o2) (hw2 : Region.wanted o2 (yielded ops a.tmps) = true) (hrun2 : (execOp a.eval o2).run P w = .ok (.value v) w1) (hO : S w1)
    (hc : Calls P f args w fun x w1 => ∃ v, x = .returned v ∧ S w1 ∧ wpAnyH P .any ops Q S fuel (listed.setIfInBounds e1 true) (a.put o1.dst v) w1)
    (hm : wpAnyH P .any ops Q S fuel (listed.setIfInBounds e2 true) (a.put o2.dst v) w1) :
    wpAnyH P .any ops Q S (fuel + 1) listed a w := by
  refine wpAnyH_all hr (by simp) (fun i hi => ?_)
  simp only [List.mem_cons, List.not_mem_nil, or_false] at hi
  rcases hi with rfl | rfl
  · unfold wpOp
    simp only [ho1, hw1, if_true]
    refine .inl ?_
    unfold Oper.wp
    rw [hrun1]
    simp only [Oper.upon]
    refine hc.mono ?_
    rintro x w2 ⟨v, rfl, hO, h⟩
    exact ⟨hO, h⟩
  · unfold wpOp
    simp only [ho2, hw2, if_true]
    refine .inl ?_
    unfold Oper.wp
    rw [hrun2]
    simp only [Oper.upon]
    exact ⟨hO, hm⟩
end
end Go.Proofs.YtmgnomahnndeaaaDoor
