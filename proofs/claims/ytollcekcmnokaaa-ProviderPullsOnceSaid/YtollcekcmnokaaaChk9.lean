/-
  Contracts: value.hasForeignField and the reference's fields; a map of bools that the call makes.
-/
import Derived.Test.YtollcekcmnokaaaWeight
import Derived.Maps.OwnSet
namespace Go
open Go.Maps (Keyed)
theorem plainElem_bool_inv {H : Type} {P : Program} {e : TypeId} (he : P.underlying e = some .bool) {v : Value} {z : DataW H × List MemPlace} (h : plainElem P e v = some z) : ∃ x, v = .bool x ∧ z = (.lit (.bool x), []) := by
  unfold plainElem at h
  rw [he] at h
  cases v <;> simp at h
  exact ⟨_, rfl, h.symm⟩
/-- 'm[k]' (without 'ok') at elements of type bool. -/
theorem wpList_lookup_own_bool {H : Type} {P : Program} (w : World) {ops : Array Oper} {rest : List Oper} {o : Oper} {a : Act} {Q : Exit → Act → World → Prop}
    (hg : o.guard = none) (m x : Operand) (t : TypeId) (hop : o.op = Op.lookup t m x false)
    (k e : TypeId) (K : Keyed P k) (ht : P.underlying t = some (.map k e)) (he : P.underlying e = some .bool) (hz : (zeroValue e).run P w = .ok (.bool false) w) (b n : Nat) (D : DataW H)
    (hm : a.eval m = .map (some b)) (hown : w.ownsMap P k (plainElem P e) b n D) (key : Value) (kl : Lit) (hx : a.eval x = key) (hkey : keyOf P k key = some kl)
    (c : Bool) (hc : D.atKey kl (.lit (.bool false)) = .lit (.bool c)) (hK : wpList P ops Q rest (a.put o.dst (.bool c)) w) :
    wpList P ops Q (o :: rest) a w := by
  refine wpList_plain hg fun K' hK' => ?_
  obtain ⟨v, ps, hrun, hv⟩ := hown.lookup K ht hz (plainElem_bool he false) hkey
  obtain ⟨x', rfl, hx'⟩ := plainElem_bool_inv he hv
  simp only [Prod.mk.injEq] at hx'
  rw [hc] at hx'
  have hcx : c = x' := by
    have := hx'.1
    injection this with this
    injection this
  subst hcx
  unfold Oper.wp
  simp [execOp, hop, hm, hx, hrun, Result.andThen]
  exact hK' _ _ hK
end Go
namespace Go.Proofs.Ytollcekcmnokaaa
open Go.RowKit Go.BigFrame Go.Maps
set_option linter.unusedVariables false
set_option linter.unusedSimpArgs false

theorem ownsMap_bel {H : Type} {P : Program} {k : TypeId} {R : Value → Option (DataW H × List MemPlace)} {w w' : World} {b n : Nat} {D : DataW H} (h : w.ownsMap P k R b n D) (hb : Bel w w') : w'.ownsMap P k R b n D := by
  have hlt := h.lt
  obtain ⟨es, clock, e, F, hs, hD⟩ := h
  exact ⟨es, clock, ((bel_only hb).block b hlt (by simp)).trans e, F, hs, hD⟩
/-- A number that came back. -/
def IntPost (r : Int) (w : World) (e : Ending) (w' : World) : Prop := e = .returned (.int .i64 r) ∧ Bel w w'
def foreignB (k n : Int) (e b : Bool) (xl vl : Nat) : Bool :=
  (k != 0 && !e) || (k != 1 && n != 0) || (k != 2 && b) || (k != 3 && xl != 0) || (k != 4 && vl != 0)
theorem isEmpty_eq (s : ByteArray) : s.toList.isEmpty = (s.size == 0) := by
  by_cases h : s.size = 0
  · rw [empty_of h]; simpa using h
  · rw [empty_not h]; simpa using h
theorem foreign_eq (t : VT) : t.foreign = foreignB t.k t.n t.s.toList.isEmpty t.b t.xs.length t.vs.length := by
  unfold VT.foreign foreignB
  rw [isEmpty_eq]
  rfl

set_option maxRecDepth 100000 in
set_option maxHeartbeats 3200000 in
theorem hasForeign_c (t : VT) (w : World) (hI : t.In w (· < w.heap.size)) (hk : 0 ≤ t.k ∧ t.k ≤ 4) :
    Calls Try.prog 35 #[t.val] w fun e w' => e = .returned (.bool t.foreign) ∧ Bel w w' := by
  rw [VT.val_eq, foreign_eq]
  obtain ⟨_, hn, hs1, hc1, hc2, hd1, hd2, _⟩ := hI.bounds
  clear hI
  generalize t.k = k at *
  generalize t.n = n at *
  generalize t.s = s at *
  generalize t.b = b at *
  generalize t.xs.length = xl at *
  generalize t.vs.length = vl at *
  have hk : k = 0 ∨ k = 1 ∨ k = 2 ∨ k = 3 ∨ k = 4 := by omega
  rcases hk with rfl | rfl | rfl | rfl | rfl
  all_goals
    go_enter Try.func35, Try.ntmps35
    go_wp2_with fail
  all_goals
    go_ret
    refine ⟨ret_bool ?_, Bel.alloc _ _⟩
    simp_all [foreignB, Nat.pos_iff_ne_zero]
    try (by_cases hv : vl = 0 <;> simp [hv, bne] <;> (rw [Bool.eq_iff_iff, beq_iff_eq, beq_iff_eq]; omega))

set_option maxRecDepth 100000 in
set_option maxHeartbeats 3200000 in
theorem refFields_c (t : VT) (w : World) (hI : t.In w (· < w.heap.size)) (hk : 0 ≤ t.k ∧ t.k ≤ 4) :
    Calls Try.prog 37 #[t.val] w fun e w' => e = .returned (.bool (!t.foreign)) ∧ Bel w w' := by
  rw [VT.val_eq, foreign_eq]
  obtain ⟨_, hn, hs1, hc1, hc2, hd1, hd2, _⟩ := hI.bounds
  clear hI
  generalize t.k = k at *
  generalize t.n = n at *
  generalize t.s = s at *
  generalize t.b = b at *
  generalize t.xs.length = xl at *
  generalize t.vs.length = vl at *
  have hk : k = 0 ∨ k = 1 ∨ k = 2 ∨ k = 3 ∨ k = 4 := by omega
  rcases hk with rfl | rfl | rfl | rfl | rfl
  all_goals
    go_enter Try.func37, Try.ntmps37
    go_wp2_with fail
  all_goals
    go_ret
    refine ⟨ret_bool ?_, Bel.alloc _ _⟩
    simp_all [foreignB]
    try (by_cases hv : vl = 0 <;> simp [hv, bne] <;> (rw [Bool.eq_iff_iff, beq_iff_eq, beq_iff_eq]; omega))
end Go.Proofs.Ytollcekcmnokaaa
