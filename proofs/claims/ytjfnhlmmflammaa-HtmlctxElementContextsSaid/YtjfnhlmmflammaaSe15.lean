/-
  Comparing states of layer 15.
-/
import Derived.Test.YtjfnhlmmflammaaHr15
import Derived.Laws.StructEq
namespace Go.Proofs.Ytjfnhlmmflammaa
open Go.RowKit Go.BigFrame
set_option linter.unusedVariables false
set_option linter.unusedSimpArgs false

/-- Does the comparison of two states say yes? -/
def stB (s t : HS) : Bool := decide (s.c = t.c) && (decide (s.n = t.n) && (decide (s.a = t.a) && decide (s.p = t.p)))
theorem stB_iff (s t : HS) : stB s t = true ↔ s = t := by
  unfold stB
  simp only [Bool.and_eq_true, decide_eq_true_eq]
  constructor
  · rintro ⟨h1, h2, h3, h4⟩; exact HS.ext_ h1 h2 h3 h4
  · rintro rfl; exact ⟨rfl, rfl, rfl, rfl⟩
theorem str_beq (l m : List UInt8) : ((ofL l).toList == (ofL m).toList) = decide (l = m) := by rw [ofL_list, ofL_list, Bool.eq_iff_iff, beq_iff_eq, decide_eq_true_iff]
theorem st_eql (s t : HS) (w : World) : (binOp .eql 24 (.agg #[.int .i64 (s.c : Nat), .string (ofL s.n), .string (ofL s.a), .string (ofL s.p)]) (.agg #[.int .i64 (t.c : Nat), .string (ofL t.n), .string (ofL t.a), .string (ofL t.p)])).run Try.prog w = .ok (.bool (stB s t)) w := by
  have u3 := Try.underlying3
  have a3 := Try.isAgg3
  have z3 := Try.sizeOf3
  have u9 := Try.underlying9
  have a9 := Try.isAgg9
  have z9 := Try.sizeOf9
  have hS : Try.prog.underlying 24 = some (.struct (Try.prog.fieldsOf 24)) := by kernel_rfl
  have hp : Try.prog.stoodInHeld 24 = false := by kernel_rfl
  rw [run_eql_struct, show (10000 : Nat) = 9999 + 1 from rfl, run_equalIn_agg w 9999 24 _ _ hS hp]
  simp only [Program.fieldsOf, Try.underlying24]
  go_simp
  unfold stB
  simp only [ofL_list]
  have hc : ((s.c : Int) = (t.c : Int)) ↔ s.c = t.c := by omega
  by_cases h1 : s.c = t.c <;> by_cases h2 : s.n = t.n <;> by_cases h3 : s.a = t.a <;> by_cases h4 : s.p = t.p <;> simp [h1, h2, h3, h4, hc]
theorem st_guard (op : BinOp) (x y : Operand) (xs ys : Array Value) (w : World) : (eqGuard op 24 x y (.agg xs) (.agg ys)).run Try.prog w = .ok () w := run_eqGuard_agg w op 24 x y xs ys (by kernel_rfl)
end Go.Proofs.Ytjfnhlmmflammaa
