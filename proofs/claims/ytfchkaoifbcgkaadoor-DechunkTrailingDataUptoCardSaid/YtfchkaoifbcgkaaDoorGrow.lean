/-
  Contracts of slices.Grow at nil and of slices.Concat, of bytes.
-/
import Derived.Test.YtfchkaoifbcgkaaDoorText
import Derived.Test.YtfchkaoifbcgkaaDoorPieces
import Derived.LoopTactic
import Derived.RegionTactic
import Derived.ChangeAlike
import Derived.Deep.QuietTactic
import Derived.BigQuiet
namespace Go.Proofs.YtfchkaoifbcgkaaDoor
open Go.RowKit Go.BigFrame
set_option linter.unusedVariables false
set_option linter.unusedSimpArgs false
attribute [local go_sem ↓] sliced_cut run_min2 run_max2
attribute [local go_sem] cutA_zero

/-- 'append(nil, make([]T, n)...)': a new row of n zero values. -/
theorem run_append_zeros {P : Program} {w : World} {t tn e : TypeId} (ty : TypeId) {i : TypeInfo} {z : Value} (ht : P.underlying t = some (.slice e)) (hn : P.underlying tn = some (.int .i64)) (hi : P.info? e = some i) (hz : i.zero = some z)
    (hsize : i.size = 1) (hby : i.bytes = 1) (hzs : z.cells.size = 1) (n : Nat) (h0 : 0 < n) (hb : n ≤ 140737488355328) :
    ∃ c w', (Builtin.append_ #[t, tn] ty #[.slice none 0 0, .int .i64 (n : Int)]).run P w = .ok (.slice (some ⟨w.heap.size, 0, none⟩) n c) w' ∧ RowAt w' e (some ⟨w.heap.size, 0, none⟩) 0 c [] ∧ n ≤ c ∧ Only [] w w' := by
  have hge := grownCap_ge w n 0 e
  have hcm : grownCap w n 0 e ≤ maxLen := grownCap_le_maxLen w n 0 e (by unfold maxLen; omega)
  have hw : IntKind.i64.wrap (n : Int) = (n : Int) := by unfold IntKind.wrap; simp [IntKind.bits, IntKind.signed]; omega
  have hne : n ≠ 0 := by omega
  have h63' : ¬ (9223372036854775807 < (n : Int)) := by omega
  have h48' : ¬ (281474976710656 < Builtin.nextslicecap n 0) := by rw [nextslicecap_zero h0]; omega
  have h48 : ¬ ((281474976710656 : Int) < (n : Int)) := by omega
  have hneg : ¬ ((n : Int) < 0) := by omega
  have hlen : (Builtin.zeroCells z.cells n ++ Builtin.zeroCells z.cells (grownCap w n 0 e - n)).size = grownCap w n 0 e := by
    rw [Array.size_append, size_zeroCells, size_zeroCells, hzs]; omega
  refine ⟨grownCap w n 0 e, w.drew.alloc (.cells (Builtin.zeroCells z.cells n ++ Builtin.zeroCells z.cells (grownCap w n 0 e - n)) e), ?_, ?_, hge, ⟨rfl, rfl, rfl, by simp, fun k hk _ => Below.heap_alloc w.drew _ k hk⟩⟩
  · simp [Builtin.append_, run_underlying ht, run_underlying hn, sizeOf, typeInfo, zeroValue, hi, hz, hsize, hby, Builtin.firstCells, asInt, asIntOf, hw, hne, h63', h48', h48, hneg, Question.forced, newRow, grownCap]
  · have hB : Blk (w.drew.alloc (.cells (Builtin.zeroCells z.cells n ++ Builtin.zeroCells z.cells (grownCap w n 0 e - n)) e)) w.heap.size e (Builtin.zeroCells z.cells n ++ Builtin.zeroCells z.cells (grownCap w n 0 e - n)).toList := by
      have := heap_alloc_new w.drew (.cells (Builtin.zeroCells z.cells n ++ Builtin.zeroCells z.cells (grownCap w n 0 e - n)) e)
      unfold Blk
      refine this.trans ?_
      rw [Array.toArray_toList]
    have := RowAt.of_blk hB (by rw [Array.length_toList, hlen]; exact hcm)
    rw [Array.length_toList, hlen] at this
    have h2 := this.first 0 (Nat.zero_le _)
    simpa using h2

/-- The same at the operation. -/
theorem wp_appendZeros {P : Program} {w : World} {ops : Array Oper} {rest : List Oper} {o : Oper} {a : Act} {Q : Exit → Act → World → Prop} (hgd : o.guard = none) (s x : Operand) (t tn : TypeId)
    (ho : o.op = .call { callee := .builtin .append, args := #[s, x], argTypes := #[t, tn] }) (e : TypeId) (i : TypeInfo) (z : Value) (ht : P.underlying t = some (.slice e)) (hn : P.underlying tn = some (.int .i64)) (hi : P.info? e = some i) (hz : i.zero = some z)
    (hsize : i.size = 1) (hby : i.bytes = 1) (hzs : z.cells.size = 1) (n : Nat) (h0 : 0 < n) (hb : n ≤ 140737488355328) (hs : a.eval s = .slice none 0 0) (hx : a.eval x = .int .i64 (n : Int))
    (h : ∀ c w', Hid (RowAt w' e (some ⟨w.heap.size, 0, none⟩) 0 c []) → n ≤ c → c ≤ maxLen → Only [] w w' → wpList P ops Q rest (a.put o.dst (.slice (some ⟨w.heap.size, 0, none⟩) n c)) w') :
    wpList P ops Q (o :: rest) a w := by
  refine wpList_plain hgd fun K hK => ?_
  obtain ⟨c, w', hrun, h2, h3, h4⟩ := run_append_zeros (P := P) (w := w) o.type ht hn hi hz hsize hby hzs n h0 hb
  unfold Oper.wp execOp
  simp only [ho, resolve, invoke, builtin, Sem.run_bind, Sem.run_pure, Result.andThen_ok, List.map_toArray, List.map_cons, List.map_nil, hs, hx, hrun]
  exact hK _ _ (h c w' h2 h3 h2.max h4)

set_option maxRecDepth 100000 in
set_option maxHeartbeats 800000 in
theorem grow_zero (w : World) :
    Calls Tryd.prog 45 #[.slice none 0 0, .int .i64 0] w fun e w' => e = .returned (.slice none 0 0) ∧ w = w' := by
  go_enter Tryd.func45, Tryd.ntmps45
  go_wp2
  go_ret
  exact ⟨rfl, rfl⟩
set_option maxRecDepth 100000 in
set_option maxHeartbeats 800000 in
theorem grow_some (w : World) {n : Nat} (h0 : 0 < n) (hb : n ≤ 140737488355328) :
    Calls Tryd.prog 45 #[.slice none 0 0, .int .i64 n] w fun e w' => ∃ c, e = .returned (.slice (some ⟨w.heap.size, 0, none⟩) 0 c) ∧ RowAt w' 5 (some ⟨w.heap.size, 0, none⟩) 0 c [] ∧ Only [] w w' := by
  obtain ⟨i0, hi, hz0, hz1, hz2⟩ := info_parts info_byte
  have hp : (0 : Int) < (n : Int) := by omega
  have H0 := Lib.hid h0
  have HB := Lib.hid hb
  go_enter Tryd.func45, Tryd.ntmps45
  go_wp2_with (with_reducible refine wp_appendZeros rfl (.tmp 20) (.tmp 21) 26 3 rfl 5 i0 _ Tryd.underlying26 Tryd.underlying3 hi hz0 hz1 hz2 rfl n H0.out HB.out rfl rfl ?_; intro c2 w2 HR2 hnc hcm hO2; unfold maxLen at hcm)
  go_ret
  exact ⟨c2, rfl, HR2.out, hO2⟩
end Go.Proofs.YtfchkaoifbcgkaaDoor
