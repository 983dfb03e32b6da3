/-
  Contracts: the reference's Find and Calls of layer 14.
-/
import Derived.Test.YtkipmaoeejdncaaDoorLa11
import Derived.Test.YtkipmaoeejdncaaDoorNm
import Derived.Test.YtkipmaoeejdncaaDoorKRow
import Derived.Test.YtkipmaoeejdncaaDoorDn14
namespace Go.Proofs.YtkipmaoeejdncaaDoor
open Go.RowKit Go.BigFrame NT
set_option linter.unusedVariables false
set_option linter.unusedSimpArgs false

/-- The zero node. -/
def ZN : NT := .mk 0 0 ByteArray.empty ByteArray.empty false false none 0 [] none 0 []
abbrev nVal (k a : Int) (s p : ByteArray) (h e : Bool) (A : Option Addr) (n c : Nat) (B : Option Addr) (m d : Nat) : Value := .agg #[.int .i64 k, .int .i64 a, .string s, .string p, .bool h, .bool e, .slice A n c, .slice B m d]
def NT.vv (t : NT) : Value := nVal t.k t.a t.s t.p t.h t.e t.A t.b.length t.c t.B t.l.length t.d
/-- What the reference's Find answers: the node as it lies. -/
def RfP (l : List NT) (nm : ByteArray) (w : World) (e : Ending) (w' : World) : Prop := Bel w w' ∧ ((∃ d, findN l nm = some d ∧ e = .returned (.tuple #[d.vv, .bool true])) ∨ (findN l nm = none ∧ e = .returned (.tuple #[ZN.vv, .bool false])))
theorem findN_take {l : List NT} {nm : ByteArray} {i : Nat} {x : NT} (h : findN (l.take i) nm = none) (hx : l[i]? = some x) : (isDefOf nm x = true → findN l nm = some x) ∧ (isDefOf nm x = false → findN (l.take (i + 1)) nm = none) := by
  have hl : l = l.take i ++ x :: l.drop (i + 1) := by
    have hi := (List.getElem?_eq_some_iff.1 hx).1
    rw [List.getElem?_eq_getElem hi] at hx
    injection hx with hx
    conv => lhs; rw [← List.take_append_drop i l, List.drop_eq_getElem_cons hi, hx]
  constructor
  · intro hd
    unfold findN at h ⊢
    rw [hl, List.find?_append, h, Option.none_or, List.find?_cons, hd]
  · intro hd
    rw [NT.take_step hx]
    unfold findN at h ⊢
    rw [List.find?_append, h, Option.none_or, List.find?_cons, hd]
    rfl
theorem isDefOf_eq (nm : ByteArray) (t : NT) : isDefOf nm t = ((t.k == 6) && decide (t.s = nm)) := rfl
theorem toL_beq14 (a b : ByteArray) : (a.toList == b.toList) = decide (a = b) := by
  rw [ByteArray.toList_eq, ByteArray.toList_eq, Bool.eq_iff_iff, beq_iff_eq, decide_eq_true_iff]
  exact ⟨fun h => toL_inj h, fun h => by rw [h]⟩
theorem only8_14 (W : World) (g : Nat) (a0 a1 a2 a3 a4 a5 a6 a7 : Value) : Only [g] W ((((((((W.setCell ⟨g, 0, none⟩ a0).setCell ⟨g, 1, none⟩ a1).setCell ⟨g, 2, none⟩ a2).setCell ⟨g, 3, none⟩ a3).setCell ⟨g, 4, none⟩ a4).setCell ⟨g, 5, none⟩ a5).setCell ⟨g, 6, none⟩ a6).setCell ⟨g, 7, none⟩ a7) :=
  (((((((((Only.refl [g] W).setCell (.inl (by simp)) _).setCell (.inl (by simp)) _).setCell (.inl (by simp)) _).setCell (.inl (by simp)) _).setCell (.inl (by simp)) _).setCell (.inl (by simp)) _).setCell (.inl (by simp)) _).setCell (.inl (by simp)) _)
theorem results_row_tmp14 {P : Program} {fn : Func} {p u : Tmp} {ty : TypeId} (h : fn.results = #[.cell p ty, .tmp u]) (tmps : Array Value) (w : World) (g : Nat) (t : TypeId) (cs : Array Value) (fr : Nat × Nat) (d : TypeDesc)
    (hp : tmps.getD p undef = .pointer (some ⟨g, 0, none⟩)) (hg : w.heap[g]? = some (.cells cs t fr)) (hu : P.underlying ty = some d) (hd : (match d with | .struct _ | .array _ _ => true | _ => false) = true) (hi : (P.info? ty).map (·.size) = some cs.size) :
    (results fn tmps).run P w = .ok (.tuple #[.agg cs, tmps.getD u undef]) w := by
  rw [results_cell_tmp h, hp]
  simp only [asAddr, Sem.run_pure, Result.andThen_ok, run_loadVar_row w g t ty cs fr d hg hu hd hi]
end Go.Proofs.YtkipmaoeejdncaaDoor
