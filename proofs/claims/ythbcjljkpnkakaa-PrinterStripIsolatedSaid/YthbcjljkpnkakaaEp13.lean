/-
  Contract: the program's alike.
  Contract: slices.Collect of the visits of nodes.
  Contract: the program's Equal.
-/
import Derived.Test.YthbcjljkpnkakaaFp13
import Derived.Test.YthbcjljkpnkakaaEq13
import Derived.Laws.StructEq
import Derived.Test.YthbcjljkpnkakaaRo13
namespace Go.Proofs.Ythbcjljkpnkakaa
open Go.RowKit Go.BigFrame Go.Shelf NT
set_option linter.unusedVariables false
set_option linter.unusedSimpArgs false

theorem toList_iff13 (a b : ByteArray) : a.toList = b.toList ↔ a = b := by
  rw [ByteArray.toList_eq, ByteArray.toList_eq]
  exact ⟨fun h => toL_inj h, fun h => by rw [h]⟩
theorem region_skip {P : Program} {ops : Array Oper} {Q : Exit → Act → World → Prop} {T : List Nat} (e : Nat) {listed : Array Bool} {fuel : Nat} {a : Act} {w : World} {o : Oper} (hr : Region.ready .any ops listed = [e])
    (ho : ops[e]? = some o) (hw : Region.wanted o (yielded ops a.tmps) = false)
    (h : wpAnyH P .any ops Q (Only T w) fuel (listed.setIfInBounds e true) (a.put o.dst undef) w) :
    wpAnyH P .any ops Q (Only T w) (fuel + 1) listed a w := by
  refine wpAnyH_all hr (by simp) (fun i hi => ?_)
  simp only [List.mem_singleton] at hi
  subst hi
  unfold wpOp
  simp only [ho, hw]
  exact ⟨Only.refl _ _, h⟩
/-- Does the comparison of two tokens say yes? -/
def tokB (t u : NT) : Bool := decide (t.k = u.k) && (decide (t.s = u.s) && (decide (t.p = u.p) && (t.h == u.h)))
theorem tok_eql (t u : NT) (w : World) : (binOp .eql 53 (.agg #[.int .i64 t.k, .int .i64 0, .string t.s, .string t.p, .bool t.h]) (.agg #[.int .i64 u.k, .int .i64 0, .string u.s, .string u.p, .bool u.h])).run Try.prog w = .ok (.bool (tokB t u)) w := by
  have u3 := Try.underlying3
  have a3 := Try.isAgg3
  have z3 := Try.sizeOf3
  have u9 := Try.underlying9
  have a9 := Try.isAgg9
  have z9 := Try.sizeOf9
  have u4 := Try.underlying4
  have a4 := Try.isAgg4
  have z4 := Try.sizeOf4
  have hS : Try.prog.underlying 53 = some (.struct (Try.prog.fieldsOf 53)) := by kernel_rfl
  have hp : Try.prog.stoodInHeld 53 = false := by kernel_rfl
  rw [run_eql_struct, show (10000 : Nat) = 9999 + 1 from rfl, run_equalIn_agg w 9999 53 _ _ hS hp]
  simp only [Program.fieldsOf, Try.underlying53]
  go_simp
  unfold tokB
  simp only [toList_iff13]
  by_cases h1 : t.k = u.k <;> by_cases h2 : t.s = u.s <;> by_cases h3 : t.p = u.p <;> by_cases h4 : t.h = u.h <;> simp [h1, h2, h3, h4]
/-- Are the visits alike? -/
def alkB (x y : Vis) : Bool := (x.q == y.q) && (tokB x.t y.t && (x.t.e == y.t.e))
theorem alkB_iff (x y : Vis) : alkB x y = true ↔ alk x y := by
  unfold alkB tokB alk
  simp only [Bool.and_eq_true, beq_iff_eq, decide_eq_true_eq]
  constructor
  · rintro ⟨h1, ⟨h2, h3, h4, h5⟩, h6⟩; exact ⟨h1, h2, h3, h4, h5, h6⟩
  · rintro ⟨h1, h2, h3, h4, h5, h6⟩; exact ⟨h1, ⟨h2, h3, h4, h5⟩, h6⟩
abbrev AlC (x y : Vis) (w : World) (b : Bool) : Prop := Calls Try.prog 25 #[.agg #[.pointer (some ⟨x.g, x.o, none⟩), .int .i64 x.q], .agg #[.pointer (some ⟨y.g, y.o, none⟩), .int .i64 y.q]] w fun e w' => e = .returned (.bool b) ∧ Bel w w'
set_option maxRecDepth 100000 in
set_option maxHeartbeats 3200000 in
theorem alike_q {x y : Vis} {w : World} (hx : VOk w x) (hy : VOk w y) (hq : x.q ≠ y.q) : AlC x y w false := by
  obtain ⟨g, o, t, q⟩ := x
  obtain ⟨g', o', u, q'⟩ := y
  have HX := Lib.hid hx
  have HY := Lib.hid hy
  have HTX := Lib.hid (fun (W : World) (hb : Bel w W) => token_c (hx.bel hb).cells (hx.bel hb).lt)
  have HTY := Lib.hid (fun (W : World) (hb : Bel w W) => token_c (hy.bel hb).cells (hy.bel hb).lt)
  have heq := tok_eql t u
  have hgd : ∀ (op : BinOp) (a b : Operand) (xs ys : Array Value) (w : World), (eqGuard op 53 a b (.agg xs) (.agg ys)).run Try.prog w = .ok () w := fun op a b xs ys w => run_eqGuard_agg w op 53 a b xs ys (by kernel_rfl)
  simp only at HTX HTY
  clear hx hy
  have hq1 : ((q : Int) == (q' : Int)) = false := by rw [beq_eq_false_iff_ne]; intro h; exact hq (by show q = q'; omega)
  clear hq
  go_enter Try.func25, Try.ntmps25
  go_wp2_with fail
  refine region_begin (T := []) (by kernel_rfl) ?_
  have HBX := Lib.hid ((Blk.new w 46 [.pointer (some ⟨g, o, none⟩), .int .i64 q]).alloc (.cells #[.pointer (some ⟨g', o', none⟩), .int .i64 q'] 46)).drew
  have HBY := Lib.hid (blk_at1 w (.cells #[.pointer (some ⟨g, o, none⟩), .int .i64 q] 46) 46 [.pointer (some ⟨g', o', none⟩), .int .i64 q']).drew
  have HBW : Hid (Bel w (((w.alloc (.cells #[.pointer (some ⟨g, o, none⟩), .int .i64 q] 46)).alloc (.cells #[.pointer (some ⟨g', o', none⟩), .int .i64 q'] 46)).drew)) := Lib.hid (((Bel.alloc _ _).trans (Bel.alloc _ _)).trans (Bel.drew _))
  generalize (((w.alloc (.cells #[.pointer (some ⟨g, o, none⟩), .int .i64 q] 46)).alloc (.cells #[.pointer (some ⟨g', o', none⟩), .int .i64 q'] 46)).drew) = W at HBX HBY HBW ⊢
  have a0 : ∀ X : Later [] W, X.w.cell? ⟨w.heap.size, 0, none⟩ = some (.pointer (some ⟨g, o, none⟩)) := fun X => (HBX.out.only X.h (by simp)).cell 0
  have a1 : ∀ X : Later [] W, X.w.cell? ⟨w.heap.size, 1, none⟩ = some (.int .i64 q) := fun X => (HBX.out.only X.h (by simp)).cell 1
  have b0 : ∀ X : Later [] W, X.w.cell? ⟨w.heap.size + 1, 0, none⟩ = some (.pointer (some ⟨g', o', none⟩)) := fun X => (HBY.out.only X.h (by simp)).cell 0
  have b1 : ∀ X : Later [] W, X.w.cell? ⟨w.heap.size + 1, 1, none⟩ = some (.int .i64 q') := fun X => (HBY.out.only X.h (by simp)).cell 1
  have n5 : ∀ X : Later [] W, X.w.cell? ⟨g, o + 5, none⟩ = some (.bool t.e) := fun X => (HX.out.bel (HBW.out.trans (Bel.of_later X))).cells.all.2.2.2.2.2.1
  have m5 : ∀ X : Later [] W, X.w.cell? ⟨g', o' + 5, none⟩ = some (.bool u.e) := fun X => (HY.out.bel (HBW.out.trans (Bel.of_later X))).cells.all.2.2.2.2.2.1
  refine region_seg [true, true, true, true, true, true, true, true, false, true, true] 18 (by kernel_rfl) (by kernel_rfl) (by kernel_rfl) rfl (fun _ _ d _ _ h => by cases d <;> exact h) ?_
  (refine wpMask_want (by rfl) (fun K hK => ?_); go_big_quiet_op; refine hK _ ?_; clear hK K)
  (refine wpMask_want (by rfl) (fun K hK => ?_); go_big_quiet_op; refine hK _ ?_; clear hK K)
  (refine wpMask_want (by rfl) (fun K hK => ?_); go_big_quiet_op; refine hK _ ?_; clear hK K)
  (refine wpMask_want (by rfl) (fun K hK => ?_); go_big_quiet_op; refine hK _ ?_; clear hK K)
  (refine wpMask_want (by rfl) (fun K hK => ?_); go_big_quiet_op; refine hK _ ?_; clear hK K)
  (refine wpMask_want (by rfl) (fun K hK => ?_); go_big_quiet_op; refine hK _ ?_; clear hK K)
  (with_reducible refine wpMask_skip (by kernel_rfl) ?_; simp only [List.getElem_toArray, List.getElem_cons_zero, List.getElem_cons_succ, Act.put, List.setIfInBounds_toArray, List.set_cons_zero, List.set_cons_succ])
  (with_reducible refine wpMask_skip (by kernel_rfl) ?_; simp only [List.getElem_toArray, List.getElem_cons_zero, List.getElem_cons_succ, Act.put, List.setIfInBounds_toArray, List.set_cons_zero, List.set_cons_succ])
  with_reducible refine wpMask_pass ?_
  (with_reducible refine wpMask_skip (by kernel_rfl) ?_; simp only [List.getElem_toArray, List.getElem_cons_zero, List.getElem_cons_succ, Act.put, List.setIfInBounds_toArray, List.set_cons_zero, List.set_cons_succ])
  (with_reducible refine wpMask_skip (by kernel_rfl) ?_; simp only [List.getElem_toArray, List.getElem_cons_zero, List.getElem_cons_succ, Act.put, List.setIfInBounds_toArray, List.set_cons_zero, List.set_cons_succ])
  with_reducible refine wpMask_nil ?_
  refine region_skip 8 (by kernel_rfl) rfl (by rfl) ?_
  simp only [List.getElem_toArray, List.getElem_cons_zero, List.getElem_cons_succ, Act.put, List.setIfInBounds_toArray, List.set_cons_zero, List.set_cons_succ]
  refine region_skip 11 (by kernel_rfl) rfl (by rfl) ?_
  simp only [List.getElem_toArray, List.getElem_cons_zero, List.getElem_cons_succ, Act.put, List.setIfInBounds_toArray, List.set_cons_zero, List.set_cons_succ]
  refine region_seg [false, false, false, false, false, false, false, false, false, false, false, false, true, true, true, true, true, true, true, true, true, true, true, true, true, true, true, true] 0 (by kernel_rfl) (by kernel_rfl) (by kernel_rfl) rfl (fun _ _ d _ _ h => by cases d <;> exact h) ?_
  with_reducible refine wpMask_pass ?_
  with_reducible refine wpMask_pass ?_
  with_reducible refine wpMask_pass ?_
  with_reducible refine wpMask_pass ?_
  with_reducible refine wpMask_pass ?_
  with_reducible refine wpMask_pass ?_
  with_reducible refine wpMask_pass ?_
  with_reducible refine wpMask_pass ?_
  with_reducible refine wpMask_pass ?_
  with_reducible refine wpMask_pass ?_
  with_reducible refine wpMask_pass ?_
  with_reducible refine wpMask_pass ?_
  (with_reducible refine wpMask_skip (by kernel_rfl) ?_; simp only [List.getElem_toArray, List.getElem_cons_zero, List.getElem_cons_succ, Act.put, List.setIfInBounds_toArray, List.set_cons_zero, List.set_cons_succ])
  (refine wpMask_want (by rfl) (fun K hK => ?_); go_big_quiet_op; refine hK _ ?_; clear hK K)
  (refine wpMask_want (by rfl) (fun K hK => ?_); go_big_quiet_op; refine hK _ ?_; clear hK K)
  (with_reducible refine wpMask_skip (by kernel_rfl) ?_; simp only [List.getElem_toArray, List.getElem_cons_zero, List.getElem_cons_succ, Act.put, List.setIfInBounds_toArray, List.set_cons_zero, List.set_cons_succ])
  (with_reducible refine wpMask_skip (by kernel_rfl) ?_; simp only [List.getElem_toArray, List.getElem_cons_zero, List.getElem_cons_succ, Act.put, List.setIfInBounds_toArray, List.set_cons_zero, List.set_cons_succ])
  (with_reducible refine wpMask_skip (by kernel_rfl) ?_; simp only [List.getElem_toArray, List.getElem_cons_zero, List.getElem_cons_succ, Act.put, List.setIfInBounds_toArray, List.set_cons_zero, List.set_cons_succ])
  (with_reducible refine wpMask_skip (by kernel_rfl) ?_; simp only [List.getElem_toArray, List.getElem_cons_zero, List.getElem_cons_succ, Act.put, List.setIfInBounds_toArray, List.set_cons_zero, List.set_cons_succ])
  (with_reducible refine wpMask_skip (by kernel_rfl) ?_; simp only [List.getElem_toArray, List.getElem_cons_zero, List.getElem_cons_succ, Act.put, List.setIfInBounds_toArray, List.set_cons_zero, List.set_cons_succ])
  (with_reducible refine wpMask_skip (by kernel_rfl) ?_; simp only [List.getElem_toArray, List.getElem_cons_zero, List.getElem_cons_succ, Act.put, List.setIfInBounds_toArray, List.set_cons_zero, List.set_cons_succ])
  (with_reducible refine wpMask_skip (by kernel_rfl) ?_; simp only [List.getElem_toArray, List.getElem_cons_zero, List.getElem_cons_succ, Act.put, List.setIfInBounds_toArray, List.set_cons_zero, List.set_cons_succ])
  (with_reducible refine wpMask_skip (by kernel_rfl) ?_; simp only [List.getElem_toArray, List.getElem_cons_zero, List.getElem_cons_succ, Act.put, List.setIfInBounds_toArray, List.set_cons_zero, List.set_cons_succ])
  (with_reducible refine wpMask_skip (by kernel_rfl) ?_; simp only [List.getElem_toArray, List.getElem_cons_zero, List.getElem_cons_succ, Act.put, List.setIfInBounds_toArray, List.set_cons_zero, List.set_cons_succ])
  (with_reducible refine wpMask_skip (by kernel_rfl) ?_; simp only [List.getElem_toArray, List.getElem_cons_zero, List.getElem_cons_succ, Act.put, List.setIfInBounds_toArray, List.set_cons_zero, List.set_cons_succ])
  (with_reducible refine wpMask_skip (by kernel_rfl) ?_; simp only [List.getElem_toArray, List.getElem_cons_zero, List.getElem_cons_succ, Act.put, List.setIfInBounds_toArray, List.set_cons_zero, List.set_cons_succ])
  (refine wpMask_want (by rfl) (fun K hK => ?_); go_big_quiet_op; refine hK _ ?_; clear hK K)
  (refine wpMask_want (by rfl) (fun K hK => ?_); go_big_quiet_op; refine hK _ ?_; clear hK K)
  with_reducible refine wpMask_nil ?_
  refine region_end (by kernel_rfl) ?_
  go_wp2_with fail
  go_ret
  exact ⟨rfl, HBW.out⟩
set_option maxRecDepth 100000 in
set_option maxHeartbeats 3200000 in
theorem alike_t {x y : Vis} {w : World} (hx : VOk w x) (hy : VOk w y) (hq : x.q = y.q) (ht : tokB x.t y.t = false) : AlC x y w false := by
  obtain ⟨g, o, t, q⟩ := x
  obtain ⟨g', o', u, q'⟩ := y
  have HX := Lib.hid hx
  have HY := Lib.hid hy
  have HTX := Lib.hid (fun (W : World) (hb : Bel w W) => token_c (hx.bel hb).cells (hx.bel hb).lt)
  have HTY := Lib.hid (fun (W : World) (hb : Bel w W) => token_c (hy.bel hb).cells (hy.bel hb).lt)
  have heq := tok_eql t u
  have hgd : ∀ (op : BinOp) (a b : Operand) (xs ys : Array Value) (w : World), (eqGuard op 53 a b (.agg xs) (.agg ys)).run Try.prog w = .ok () w := fun op a b xs ys w => run_eqGuard_agg w op 53 a b xs ys (by kernel_rfl)
  simp only at HTX HTY
  clear hx hy
  change q = q' at hq
  subst hq
  have hq1 : ((q : Int) == (q : Int)) = true := by rw [beq_iff_eq]
  rw [ht] at heq
  clear ht
  go_enter Try.func25, Try.ntmps25
  go_wp2_with fail
  refine region_begin (T := []) (by kernel_rfl) ?_
  have HBX := Lib.hid ((Blk.new w 46 [.pointer (some ⟨g, o, none⟩), .int .i64 q]).alloc (.cells #[.pointer (some ⟨g', o', none⟩), .int .i64 q] 46)).drew
  have HBY := Lib.hid (blk_at1 w (.cells #[.pointer (some ⟨g, o, none⟩), .int .i64 q] 46) 46 [.pointer (some ⟨g', o', none⟩), .int .i64 q]).drew
  have HBW : Hid (Bel w (((w.alloc (.cells #[.pointer (some ⟨g, o, none⟩), .int .i64 q] 46)).alloc (.cells #[.pointer (some ⟨g', o', none⟩), .int .i64 q] 46)).drew)) := Lib.hid (((Bel.alloc _ _).trans (Bel.alloc _ _)).trans (Bel.drew _))
  generalize (((w.alloc (.cells #[.pointer (some ⟨g, o, none⟩), .int .i64 q] 46)).alloc (.cells #[.pointer (some ⟨g', o', none⟩), .int .i64 q] 46)).drew) = W at HBX HBY HBW ⊢
  have a0 : ∀ X : Later [] W, X.w.cell? ⟨w.heap.size, 0, none⟩ = some (.pointer (some ⟨g, o, none⟩)) := fun X => (HBX.out.only X.h (by simp)).cell 0
  have a1 : ∀ X : Later [] W, X.w.cell? ⟨w.heap.size, 1, none⟩ = some (.int .i64 q) := fun X => (HBX.out.only X.h (by simp)).cell 1
  have b0 : ∀ X : Later [] W, X.w.cell? ⟨w.heap.size + 1, 0, none⟩ = some (.pointer (some ⟨g', o', none⟩)) := fun X => (HBY.out.only X.h (by simp)).cell 0
  have b1 : ∀ X : Later [] W, X.w.cell? ⟨w.heap.size + 1, 1, none⟩ = some (.int .i64 q) := fun X => (HBY.out.only X.h (by simp)).cell 1
  have n5 : ∀ X : Later [] W, X.w.cell? ⟨g, o + 5, none⟩ = some (.bool t.e) := fun X => (HX.out.bel (HBW.out.trans (Bel.of_later X))).cells.all.2.2.2.2.2.1
  have m5 : ∀ X : Later [] W, X.w.cell? ⟨g', o' + 5, none⟩ = some (.bool u.e) := fun X => (HY.out.bel (HBW.out.trans (Bel.of_later X))).cells.all.2.2.2.2.2.1
  refine region_seg [true, true, true, true, true, true, true, true, false, true, true] 18 (by kernel_rfl) (by kernel_rfl) (by kernel_rfl) rfl (fun _ _ d _ _ h => by cases d <;> exact h) ?_
  (refine wpMask_want (by rfl) (fun K hK => ?_); go_big_quiet_op; refine hK _ ?_; clear hK K)
  (refine wpMask_want (by rfl) (fun K hK => ?_); go_big_quiet_op; refine hK _ ?_; clear hK K)
  (refine wpMask_want (by rfl) (fun K hK => ?_); go_big_quiet_op; refine hK _ ?_; clear hK K)
  (refine wpMask_want (by rfl) (fun K hK => ?_); go_big_quiet_op; refine hK _ ?_; clear hK K)
  (refine wpMask_want (by rfl) (fun K hK => ?_); go_big_quiet_op; refine hK _ ?_; clear hK K)
  (refine wpMask_want (by rfl) (fun K hK => ?_); go_big_quiet_op; refine hK _ ?_; clear hK K)
  (refine wpMask_want (by rfl) (fun K hK => ?_); go_big_quiet_op; refine hK _ ?_; clear hK K)
  (refine wpMask_want (by rfl) (fun K hK => ?_); go_big_quiet_op; refine hK _ ?_; clear hK K)
  with_reducible refine wpMask_pass ?_
  (refine wpMask_want (by rfl) (fun K hK => ?_); go_big_quiet_op; refine hK _ ?_; clear hK K)
  (refine wpMask_want (by rfl) (fun K hK => ?_); go_big_quiet_op; refine hK _ ?_; clear hK K)
  with_reducible refine wpMask_nil ?_
  refine region_call 8 (by kernel_rfl) rfl (by rfl) (by go_simp; exact ⟨rfl, rfl⟩) ?_
  refine (HTX.out W HBW.out).mono ?_
  rintro e w1 ⟨rfl, hb1⟩
  refine ⟨_, rfl, bel_only hb1, ?_⟩
  simp only [List.getElem_toArray, List.getElem_cons_zero, List.getElem_cons_succ, Act.put, List.setIfInBounds_toArray, List.set_cons_zero, List.set_cons_succ]
  have HB1 := Lib.hid hb1
  clear hb1
  refine region_call 11 (by kernel_rfl) rfl (by rfl) (by go_simp; exact ⟨rfl, rfl⟩) ?_
  refine (HTY.out w1 (HBW.out.trans HB1.out)).mono ?_
  rintro e w2 ⟨rfl, hb2⟩
  refine ⟨_, rfl, bel_only hb2, ?_⟩
  simp only [List.getElem_toArray, List.getElem_cons_zero, List.getElem_cons_succ, Act.put, List.setIfInBounds_toArray, List.set_cons_zero, List.set_cons_succ]
  have HB2 := Lib.hid hb2
  clear hb2
  refine region_seg [false, false, false, false, false, false, false, false, false, false, false, false, true, true, true, true, true, true, true, true, true, true, true, true, true, true, true, true] 0 (by kernel_rfl) (by kernel_rfl) (by kernel_rfl) rfl (fun _ _ d _ _ h => by cases d <;> exact h) ?_
  with_reducible refine wpMask_pass ?_
  with_reducible refine wpMask_pass ?_
  with_reducible refine wpMask_pass ?_
  with_reducible refine wpMask_pass ?_
  with_reducible refine wpMask_pass ?_
  with_reducible refine wpMask_pass ?_
  with_reducible refine wpMask_pass ?_
  with_reducible refine wpMask_pass ?_
  with_reducible refine wpMask_pass ?_
  with_reducible refine wpMask_pass ?_
  with_reducible refine wpMask_pass ?_
  with_reducible refine wpMask_pass ?_
  (refine wpMask_want (by rfl) (fun K hK => ?_); go_big_quiet_op; refine hK _ ?_; clear hK K)
  (refine wpMask_want (by rfl) (fun K hK => ?_); go_big_quiet_op; refine hK _ ?_; clear hK K)
  (refine wpMask_want (by rfl) (fun K hK => ?_); go_big_quiet_op; refine hK _ ?_; clear hK K)
  (with_reducible refine wpMask_skip (by kernel_rfl) ?_; simp only [List.getElem_toArray, List.getElem_cons_zero, List.getElem_cons_succ, Act.put, List.setIfInBounds_toArray, List.set_cons_zero, List.set_cons_succ])
  (with_reducible refine wpMask_skip (by kernel_rfl) ?_; simp only [List.getElem_toArray, List.getElem_cons_zero, List.getElem_cons_succ, Act.put, List.setIfInBounds_toArray, List.set_cons_zero, List.set_cons_succ])
  (with_reducible refine wpMask_skip (by kernel_rfl) ?_; simp only [List.getElem_toArray, List.getElem_cons_zero, List.getElem_cons_succ, Act.put, List.setIfInBounds_toArray, List.set_cons_zero, List.set_cons_succ])
  (with_reducible refine wpMask_skip (by kernel_rfl) ?_; simp only [List.getElem_toArray, List.getElem_cons_zero, List.getElem_cons_succ, Act.put, List.setIfInBounds_toArray, List.set_cons_zero, List.set_cons_succ])
  (with_reducible refine wpMask_skip (by kernel_rfl) ?_; simp only [List.getElem_toArray, List.getElem_cons_zero, List.getElem_cons_succ, Act.put, List.setIfInBounds_toArray, List.set_cons_zero, List.set_cons_succ])
  (with_reducible refine wpMask_skip (by kernel_rfl) ?_; simp only [List.getElem_toArray, List.getElem_cons_zero, List.getElem_cons_succ, Act.put, List.setIfInBounds_toArray, List.set_cons_zero, List.set_cons_succ])
  (with_reducible refine wpMask_skip (by kernel_rfl) ?_; simp only [List.getElem_toArray, List.getElem_cons_zero, List.getElem_cons_succ, Act.put, List.setIfInBounds_toArray, List.set_cons_zero, List.set_cons_succ])
  (with_reducible refine wpMask_skip (by kernel_rfl) ?_; simp only [List.getElem_toArray, List.getElem_cons_zero, List.getElem_cons_succ, Act.put, List.setIfInBounds_toArray, List.set_cons_zero, List.set_cons_succ])
  (with_reducible refine wpMask_skip (by kernel_rfl) ?_; simp only [List.getElem_toArray, List.getElem_cons_zero, List.getElem_cons_succ, Act.put, List.setIfInBounds_toArray, List.set_cons_zero, List.set_cons_succ])
  (with_reducible refine wpMask_skip (by kernel_rfl) ?_; simp only [List.getElem_toArray, List.getElem_cons_zero, List.getElem_cons_succ, Act.put, List.setIfInBounds_toArray, List.set_cons_zero, List.set_cons_succ])
  (with_reducible refine wpMask_skip (by kernel_rfl) ?_; simp only [List.getElem_toArray, List.getElem_cons_zero, List.getElem_cons_succ, Act.put, List.setIfInBounds_toArray, List.set_cons_zero, List.set_cons_succ])
  (refine wpMask_want (by rfl) (fun K hK => ?_); go_big_quiet_op; refine hK _ ?_; clear hK K)
  (refine wpMask_want (by rfl) (fun K hK => ?_); go_big_quiet_op; refine hK _ ?_; clear hK K)
  with_reducible refine wpMask_nil ?_
  refine region_end (by kernel_rfl) ?_
  go_wp2_with fail
  go_ret
  exact ⟨rfl, (HBW.out.trans HB1.out).trans HB2.out⟩
set_option maxRecDepth 100000 in
set_option maxHeartbeats 3200000 in
theorem alike_e {x y : Vis} {w : World} (hx : VOk w x) (hy : VOk w y) (hq : x.q = y.q) (ht : tokB x.t y.t = true) : AlC x y w (x.t.e == y.t.e) := by
  obtain ⟨g, o, t, q⟩ := x
  obtain ⟨g', o', u, q'⟩ := y
  have HX := Lib.hid hx
  have HY := Lib.hid hy
  have HTX := Lib.hid (fun (W : World) (hb : Bel w W) => token_c (hx.bel hb).cells (hx.bel hb).lt)
  have HTY := Lib.hid (fun (W : World) (hb : Bel w W) => token_c (hy.bel hb).cells (hy.bel hb).lt)
  have heq := tok_eql t u
  have hgd : ∀ (op : BinOp) (a b : Operand) (xs ys : Array Value) (w : World), (eqGuard op 53 a b (.agg xs) (.agg ys)).run Try.prog w = .ok () w := fun op a b xs ys w => run_eqGuard_agg w op 53 a b xs ys (by kernel_rfl)
  simp only at HTX HTY
  clear hx hy
  change q = q' at hq
  subst hq
  have hq1 : ((q : Int) == (q : Int)) = true := by rw [beq_iff_eq]
  rw [ht] at heq
  clear ht
  go_enter Try.func25, Try.ntmps25
  go_wp2_with fail
  refine region_begin (T := []) (by kernel_rfl) ?_
  have HBX := Lib.hid ((Blk.new w 46 [.pointer (some ⟨g, o, none⟩), .int .i64 q]).alloc (.cells #[.pointer (some ⟨g', o', none⟩), .int .i64 q] 46)).drew
  have HBY := Lib.hid (blk_at1 w (.cells #[.pointer (some ⟨g, o, none⟩), .int .i64 q] 46) 46 [.pointer (some ⟨g', o', none⟩), .int .i64 q]).drew
  have HBW : Hid (Bel w (((w.alloc (.cells #[.pointer (some ⟨g, o, none⟩), .int .i64 q] 46)).alloc (.cells #[.pointer (some ⟨g', o', none⟩), .int .i64 q] 46)).drew)) := Lib.hid (((Bel.alloc _ _).trans (Bel.alloc _ _)).trans (Bel.drew _))
  generalize (((w.alloc (.cells #[.pointer (some ⟨g, o, none⟩), .int .i64 q] 46)).alloc (.cells #[.pointer (some ⟨g', o', none⟩), .int .i64 q] 46)).drew) = W at HBX HBY HBW ⊢
  have a0 : ∀ X : Later [] W, X.w.cell? ⟨w.heap.size, 0, none⟩ = some (.pointer (some ⟨g, o, none⟩)) := fun X => (HBX.out.only X.h (by simp)).cell 0
  have a1 : ∀ X : Later [] W, X.w.cell? ⟨w.heap.size, 1, none⟩ = some (.int .i64 q) := fun X => (HBX.out.only X.h (by simp)).cell 1
  have b0 : ∀ X : Later [] W, X.w.cell? ⟨w.heap.size + 1, 0, none⟩ = some (.pointer (some ⟨g', o', none⟩)) := fun X => (HBY.out.only X.h (by simp)).cell 0
  have b1 : ∀ X : Later [] W, X.w.cell? ⟨w.heap.size + 1, 1, none⟩ = some (.int .i64 q) := fun X => (HBY.out.only X.h (by simp)).cell 1
  have n5 : ∀ X : Later [] W, X.w.cell? ⟨g, o + 5, none⟩ = some (.bool t.e) := fun X => (HX.out.bel (HBW.out.trans (Bel.of_later X))).cells.all.2.2.2.2.2.1
  have m5 : ∀ X : Later [] W, X.w.cell? ⟨g', o' + 5, none⟩ = some (.bool u.e) := fun X => (HY.out.bel (HBW.out.trans (Bel.of_later X))).cells.all.2.2.2.2.2.1
  refine region_seg [true, true, true, true, true, true, true, true, false, true, true] 18 (by kernel_rfl) (by kernel_rfl) (by kernel_rfl) rfl (fun _ _ d _ _ h => by cases d <;> exact h) ?_
  (refine wpMask_want (by rfl) (fun K hK => ?_); go_big_quiet_op; refine hK _ ?_; clear hK K)
  (refine wpMask_want (by rfl) (fun K hK => ?_); go_big_quiet_op; refine hK _ ?_; clear hK K)
  (refine wpMask_want (by rfl) (fun K hK => ?_); go_big_quiet_op; refine hK _ ?_; clear hK K)
  (refine wpMask_want (by rfl) (fun K hK => ?_); go_big_quiet_op; refine hK _ ?_; clear hK K)
  (refine wpMask_want (by rfl) (fun K hK => ?_); go_big_quiet_op; refine hK _ ?_; clear hK K)
  (refine wpMask_want (by rfl) (fun K hK => ?_); go_big_quiet_op; refine hK _ ?_; clear hK K)
  (refine wpMask_want (by rfl) (fun K hK => ?_); go_big_quiet_op; refine hK _ ?_; clear hK K)
  (refine wpMask_want (by rfl) (fun K hK => ?_); go_big_quiet_op; refine hK _ ?_; clear hK K)
  with_reducible refine wpMask_pass ?_
  (refine wpMask_want (by rfl) (fun K hK => ?_); go_big_quiet_op; refine hK _ ?_; clear hK K)
  (refine wpMask_want (by rfl) (fun K hK => ?_); go_big_quiet_op; refine hK _ ?_; clear hK K)
  with_reducible refine wpMask_nil ?_
  refine region_call 8 (by kernel_rfl) rfl (by rfl) (by go_simp; exact ⟨rfl, rfl⟩) ?_
  refine (HTX.out W HBW.out).mono ?_
  rintro e w1 ⟨rfl, hb1⟩
  refine ⟨_, rfl, bel_only hb1, ?_⟩
  simp only [List.getElem_toArray, List.getElem_cons_zero, List.getElem_cons_succ, Act.put, List.setIfInBounds_toArray, List.set_cons_zero, List.set_cons_succ]
  have HB1 := Lib.hid hb1
  clear hb1
  refine region_call 11 (by kernel_rfl) rfl (by rfl) (by go_simp; exact ⟨rfl, rfl⟩) ?_
  refine (HTY.out w1 (HBW.out.trans HB1.out)).mono ?_
  rintro e w2 ⟨rfl, hb2⟩
  refine ⟨_, rfl, bel_only hb2, ?_⟩
  simp only [List.getElem_toArray, List.getElem_cons_zero, List.getElem_cons_succ, Act.put, List.setIfInBounds_toArray, List.set_cons_zero, List.set_cons_succ]
  have HB2 := Lib.hid hb2
  clear hb2
  have c0 : ∀ X : Later [] w2, X.w.cell? ⟨w.heap.size, 0, none⟩ = some (.pointer (some ⟨g, o, none⟩)) := fun X => (HBX.out.bel ((HB1.out.trans HB2.out).trans (Bel.of_later X))).cell 0
  have d0 : ∀ X : Later [] w2, X.w.cell? ⟨w.heap.size + 1, 0, none⟩ = some (.pointer (some ⟨g', o', none⟩)) := fun X => (HBY.out.bel ((HB1.out.trans HB2.out).trans (Bel.of_later X))).cell 0
  have c5 : ∀ X : Later [] w2, X.w.cell? ⟨g, o + 5, none⟩ = some (.bool t.e) := fun X => (HX.out.bel (HBW.out.trans ((HB1.out.trans HB2.out).trans (Bel.of_later X)))).cells.all.2.2.2.2.2.1
  have d5 : ∀ X : Later [] w2, X.w.cell? ⟨g', o' + 5, none⟩ = some (.bool u.e) := fun X => (HY.out.bel (HBW.out.trans ((HB1.out.trans HB2.out).trans (Bel.of_later X)))).cells.all.2.2.2.2.2.1
  refine region_seg [false, false, false, false, false, false, false, false, false, false, false, false, true, true, true, true, true, true, true, true, true, true, true, true, true, true, true, true] 0 (by kernel_rfl) (by kernel_rfl) (by kernel_rfl) rfl (fun _ _ d _ _ h => by cases d <;> exact h) ?_
  with_reducible refine wpMask_pass ?_
  with_reducible refine wpMask_pass ?_
  with_reducible refine wpMask_pass ?_
  with_reducible refine wpMask_pass ?_
  with_reducible refine wpMask_pass ?_
  with_reducible refine wpMask_pass ?_
  with_reducible refine wpMask_pass ?_
  with_reducible refine wpMask_pass ?_
  with_reducible refine wpMask_pass ?_
  with_reducible refine wpMask_pass ?_
  with_reducible refine wpMask_pass ?_
  with_reducible refine wpMask_pass ?_
  (refine wpMask_want (by rfl) (fun K hK => ?_); go_big_quiet_op; refine hK _ ?_; clear hK K)
  (refine wpMask_want (by rfl) (fun K hK => ?_); go_big_quiet_op; refine hK _ ?_; clear hK K)
  (refine wpMask_want (by rfl) (fun K hK => ?_); go_big_quiet_op; refine hK _ ?_; clear hK K)
  (refine wpMask_want (by rfl) (fun K hK => ?_); go_big_quiet_op; refine hK _ ?_; clear hK K)
  (refine wpMask_want (by rfl) (fun K hK => ?_); go_big_quiet_op; refine hK _ ?_; clear hK K)
  (refine wpMask_want (by rfl) (fun K hK => ?_); go_big_quiet_op; refine hK _ ?_; clear hK K)
  (refine wpMask_want (by rfl) (fun K hK => ?_); go_big_quiet_op; refine hK _ ?_; clear hK K)
  (refine wpMask_want (by rfl) (fun K hK => ?_); go_big_quiet_op; refine hK _ ?_; clear hK K)
  (refine wpMask_want (by rfl) (fun K hK => ?_); go_big_quiet_op; refine hK _ ?_; clear hK K)
  (refine wpMask_want (by rfl) (fun K hK => ?_); go_big_quiet_op; refine hK _ ?_; clear hK K)
  (refine wpMask_want (by rfl) (fun K hK => ?_); go_big_quiet_op; refine hK _ ?_; clear hK K)
  (refine wpMask_want (by rfl) (fun K hK => ?_); go_big_quiet_op; refine hK _ ?_; clear hK K)
  (refine wpMask_want (by rfl) (fun K hK => ?_); go_big_quiet_op; refine hK _ ?_; clear hK K)
  (refine wpMask_want (by rfl) (fun K hK => ?_); go_big_quiet_op; refine hK _ ?_; clear hK K)
  (refine wpMask_want (by rfl) (fun K hK => ?_); go_big_quiet_op; refine hK _ ?_; clear hK K)
  (refine wpMask_want (by rfl) (fun K hK => ?_); go_big_quiet_op; refine hK _ ?_; clear hK K)
  with_reducible refine wpMask_nil ?_
  refine region_end (by kernel_rfl) ?_
  go_wp2_with fail
  go_ret
  exact ⟨rfl, (HBW.out.trans HB1.out).trans HB2.out⟩
theorem alike_c {x y : Vis} {w : World} (hx : VOk w x) (hy : VOk w y) : AlC x y w (alkB x y) := by
  unfold alkB
  by_cases hq : x.q = y.q
  · rw [show (x.q == y.q) = true by simpa using hq, Bool.true_and]
    cases ht : tokB x.t y.t with
    | false => rw [Bool.false_and]; exact alike_t hx hy hq ht
    | true => rw [Bool.true_and]; exact alike_e hx hy hq ht
  · rw [show (x.q == y.q) = false by simpa using hq, Bool.false_and]
    exact alike_q hx hy hq
end Go.Proofs.Ythbcjljkpnkakaa

namespace Go.Proofs.Ythbcjljkpnkakaa
open Go.RowKit Go.BigFrame Go.Shelf NT
set_option linter.unusedVariables false
set_option linter.unusedSimpArgs false
attribute [local go_sem] Oper.semAt_some

/-- append onto a row of structs, within a round. -/
theorem wpIn_kAppend {F : Fence} {n0 : Nat} {P : Program} {ops : Array Oper} {Q : Exit → Act → World → Prop} {a : Act} {w : World} {rest : List Oper} {o : Oper} {α : Type} (hgd : o.guard = none) (s x : Operand) (t : TypeId) (ho : o.op = .call { callee := .builtin .append, args := #[s, x], argTypes := #[t, t] })
    (e : TypeId) (zv : Value) (z bytes : Nat) (f : α → List Value) (hf : ∀ a, (f a).length = z) (h1 : ∀ a u, u ∈ f a → u.oneCell' = true) (ht : P.underlying t = some (.slice e)) (hinfo : (P.info? e).map (fun i => (i.zero, i.size, i.bytes)) = some (some zv, z, bytes))
    (hzs : zv.cells.size = z) (hz0 : 0 < z) (A : Option Addr) (c : Nat) (l : List α) (n : Nat) (hn : l.length = n) (hs : a.eval s = .slice A n c) (hA : KRow w e z f A c l)
    (X : Option Addr) (d : Nat) (m : List α) (k : Nat) (hk : m.length = k) (hx : a.eval x = .slice X k d) (hr : Src w z f X m)
    (h63 : n + k ≤ maxLen) (hbytes : (n + k) * bytes ≤ 140737488355328) (N : Nat) (hN : N = n + k)
    (h : ∀ A' c' w', Hid (KRow w' e z f A' c' (l ++ m)) → Only (rowT A) w w' → Hid (∀ k, k ∈ rowT A' → k ∈ rowT A ∨ k = w.heap.size) → wpListIn F n0 P ops Q rest (a.put o.dst (.slice A' N c')) w') :
    wpListIn F n0 P ops Q (o :: rest) a w := by
  obtain ⟨i0, hi, hz, hsize, hby⟩ := info_parts hinfo
  subst hn hk hN
  refine wpListIn_plain hgd fun K hK => ?_
  obtain ⟨A', c', w', hrun, h2, h3, h4⟩ := rowK_append (P := P) o.type ht hi hz hsize hby hzs hz0 hA d (flat_length hf m) hr (fun u hu => by obtain ⟨y, _, hy⟩ := flat_mem hu; exact h1 y u hy) h63 hbytes
  unfold Oper.wpIn
  refine ⟨?_, ?_⟩
  · simp [Oper.about, ho, resolve, Target.leads, Sem.run_pure]
  · rw [Oper.semAt_plain F _ _ (by rw [ho]; intro c hc'; cases hc')]
    simp only [execOp, ho, resolve, invoke, builtin, Sem.run_bind, Sem.run_pure, Result.andThen_ok, List.map_toArray, List.map_cons, List.map_nil, hs, hx, hrun]
    refine hK _ _ (h A' c' w' (Lib.hid ?_) h3 (Lib.hid h4))
    unfold KRow
    rw [flat_append, List.length_append]
    exact h2
theorem visc_len (v : Vis) : v.cs.length = 2 := rfl
theorem visc_one (v : Vis) (u : Value) (h : u ∈ v.cs) : u.oneCell' = true := by
  simp only [Vis.cs, List.mem_cons, List.not_mem_nil, or_false] at h
  rcases h with rfl | rfl <;> rfl
theorem info_vis : (Try.prog.info? 46).map (fun i => (i.zero, i.size, i.bytes)) = some (some (.agg #[.pointer none, .int .i64 0]), 2, 16) := by kernel_rfl
theorem cells_vis : (Value.agg #[.pointer none, .int .i64 0]).cells.size = 2 := by kernel_rfl
/-- What lies between two rounds: the box of the slice, the row. -/
structure CoI (w : World) (pre : List Vis) (W : World) : Prop where
  bel : Bel w W
  row : ∃ G d, Blk W w.heap.size 59 [.slice G pre.length d] ∧ KRow W 46 2 Vis.cs G d pre ∧ ∀ k, k ∈ rowT G → w.heap.size < k
theorem krow_grown {α : Type} {W W' : World} {e : TypeId} {z : Nat} {f : α → List Value} {A : Option Addr} {c : Nat} {l : List α} {row : Option Nat} (h : KRow W e z f A c l) (hg : W.grownBy W' row) (hr : ∀ r, row = some r → ∃ o : Obj, W.heap[r]? = some o ∧ o.isCells = false) : KRow W' e z f A c l := by
  refine RowK.keep h (fun k hk => ?_)
  obtain ⟨ad, rfl, rfl⟩ := mem_rowT.1 hk
  obtain ⟨g, o, cur, rfl, hb, _⟩ := RowK.some_ h ad rfl
  exact grownBy_keeps_cells hg hr hb rfl
theorem coI_own {w : World} {B : Nat} (hB : w.heap.size ≤ B) : OwnFrom B (CoI w) := by
  rintro s X Y row ⟨h1, G, d, h2, h3, h4⟩ hg hr
  have hr' := fun r e => (hr r e).2
  exact ⟨ownFrom_below (β := Unit) (Nat.le_refl _) hB () X Y row h1 hg hr, G, d, (grownBy_keeps_cells hg hr' h2 rfl).trans h2, krow_grown h3 hg hr', h4⟩
theorem keeps_of_only {B : Nat} {S : List Nat} {W W' : World} (h : Only S W W') (hS : ∀ k, k ∈ S → ∃ cs t fr, W.heap[k]? = some (.cells cs t fr)) : KeepsFrom B W W' :=
  ⟨h.size, fun k o _ hk ho => by
    by_cases hm : k ∈ S
    · obtain ⟨cs, t, fr, h1⟩ := hS k hm
      rw [h1] at hk
      injection hk with hk
      subst hk
      cases ho
    · exact (h.block k (Array.getElem?_eq_some_iff.1 hk).1 hm).trans hk⟩
theorem bel_onS {S : List Nat} {w w1 w2 : World} (h : Bel w w1) (ho : Only S w1 w2) (hS : ∀ k, k ∈ S → w.heap.size ≤ k) : Bel w w2 := bel_of_only ((bel_only h).join ho (fun k hk => .inr (hS k hk)))
/-- What Collect hands back. -/
def CoP (all : List Vis) (w : World) (e : Ending) (w' : World) : Prop := Bel w w' ∧ ∃ G d, e = .returned (.slice G all.length d) ∧ KRow w' 46 2 Vis.cs G d all ∧ ∀ k, k ∈ rowT G → w.heap.size ≤ k
set_option maxRecDepth 100000 in
set_option maxHeartbeats 3200000 in
theorem appendSeq_c {l : List NT} {A : Option Addr} {c bx : Nat} {w : World} (hA : Row w (Lt w) A c l) (hs : tots l ≤ 100000) (hb : bx < w.heap.size) (hbx : w.cell? ⟨bx, 0, none⟩ = some (.slice A l.length c)) :
    Calls Try.prog 33 #[.slice none 0 0, .func (.func 28) #[] #[.pointer (some ⟨bx, 0, none⟩)]] w (CoP (vNs l A 0) w) := by
  have hlen := vNs_length l A 0
  have HIT := Lib.hid (fun (m : Nat) (I : List Vis → World → Prop) => ro_iterates (m := m) (I := I) (bx := bx) hA)
  have hN : (vNs l A 0).length ≤ 300000 := by omega
  generalize vNs l A 0 = all at HIT hN ⊢
  have HN := Lib.hid hN
  have HBX := Lib.hid (fun (W : World) (h : Bel w W) => (h.cell hb).trans hbx)
  clear hlen hA hs hb hbx hN
  refine (callsIn_wide (n := 6)).1 (callsIn_of_wp_marks Try.func33 rfl trivial ?_ rfl)
  simp only [Try.ntmps33, List.size_toArray, List.length_cons, List.length_nil, Nat.reduceAdd, Nat.reduceSub, Array.replicate_succ, Array.replicate_zero, List.push_toArray, List.append_toArray, List.nil_append, List.cons_append]
  gi_wp2_with fail
  refine rangeFunc_st (n := 6) rfl (by omega) (gf := 28) (lb := #[.pointer (some ⟨bx, 0, none⟩)]) rfl trivial (enters_of Try.func28 (by kernel_rfl) rfl)
    (HIT.out 5 (CoI w) (fun s W h => h.bel) (fun W h => HBX.out W h.bel)) (fun _ => rfl) (fun _ _ => False) (coI_own (by simp)) (fun _ _ _ _ _ h _ _ => h.elim)
    ⟨Bel.alloc _ _, none, 0, Blk.new w 59 [.slice none 0 0], KRow.nil _ _ _ _, by simp [rowT]⟩
    (fun s x a' W => CoI w s W ∧ roPre all s x ∧ ∃ bv u7, Blk W bv 46 x.cs ∧ a' = { tmps := #[.slice none 0 0, .func (.func 28) #[] #[.pointer (some ⟨bx, 0, none⟩)], .pointer (some ⟨w.heap.size, 0, none⟩), undef, .slice none 0 0, .pointer (some ⟨bv, 0, none⟩),
      .func (.func 28) #[] #[.pointer (some ⟨bx, 0, none⟩)], u7, undef, undef, undef, undef, undef], defers := [] })
    (fun s x a' => by
      rintro u X Y row ⟨h1, h2, bv, u7, h3, h4⟩ hg hr
      exact ⟨coI_own (by simp) s X Y row h1 hg hr, h2, bv, u7, blk_own () X Y row h3 hg hr, h4⟩) ?assign ?body ?done ?stop
  case assign =>
    intro l x s W K hsz hI hpre hK
    have HK := Lib.hid hK
    have HI := Lib.hid hI
    have HP := Lib.hid hpre
    clear hK hI hpre
    simp only [vEnc, Vis.val]
    gi_wp2_with fail
    obtain ⟨G, d, h1, h2, h3⟩ := HI.out.row
    exact HK.out _ _ ((KeepsOthers.alloc _ _).from _) ⟨⟨HI.out.bel.trans (Bel.alloc _ _), G, d, h1.alloc _, h2.alloc _, h3⟩, HP.out, W.heap.size, _, Blk.new W 46 _, rfl⟩
  case body =>
    rintro l pre x a' W ⟨hI, hpre, bv, u7, hbv, rfl⟩
    obtain ⟨G, d, hbs, hrow, hlo⟩ := hI.row
    have hlen : pre.length + 1 ≤ 300000 := by
      have h := HN.out
      obtain ⟨r, e⟩ := hpre
      rw [e] at h
      simp at h
      omega
    have HB := Lib.hid hI.bel
    have HBS := Lib.hid hbs
    have HRW := Lib.hid hrow
    have HLO := Lib.hid hlo
    obtain ⟨g, o, t, q⟩ := x
    have v0 : W.cell? ⟨bv, 0, none⟩ = some (.pointer (some ⟨g, o, none⟩)) := Blk.cell (show Blk W bv 46 [.pointer (some ⟨g, o, none⟩), .int .i64 q] from hbv) 0
    have v1 : W.cell? ⟨bv, 1, none⟩ = some (.int .i64 q) := Blk.cell (show Blk W bv 46 [.pointer (some ⟨g, o, none⟩), .int .i64 q] from hbv) 1
    have s0 := hbs.cell 0
    simp only [List.getElem?_cons_zero] at s0
    obtain ⟨n, hn⟩ : ∃ n, n = pre.length := ⟨_, rfl⟩
    rw [← hn] at hlen s0
    have HNN := Lib.hid hn.symm
    have HSRC := Lib.hid (Blk.new W 46 [.pointer (some ⟨g, o, none⟩), .int .i64 q])
    have hm1 := Lib.hid (show n + 1 ≤ maxLen by unfold maxLen; omega)
    have hm2 := Lib.hid (show (n + 1) * 16 ≤ 140737488355328 by omega)
    have HRA := Lib.hid (hrow.alloc (.cells #[.pointer (some ⟨g, o, none⟩), .int .i64 q] 46))
    have hlt := hbs.lt
    clear hbs hrow hlo hI hpre hn hbv
    gi_wp2_with (gi_at_builtin; with_reducible refine wpIn_kAppend rfl (.tmp 8) (.tmp 10) 59 rfl 46 _ 2 16 Vis.cs visc_len visc_one Try.underlying59 info_vis cells_vis (of_decide_eq_true rfl) G d pre n HNN.out rfl HRA.out (some ⟨W.heap.size, 0, none⟩) 1 [⟨g, o, t, q⟩] 1 rfl rfl (src_blk HSRC.out rfl) hm1.out hm2.out (n + 1) rfl ?_; intro G2 d2 w2 HR2 hO2 HK2; have HO2 := Lib.hid hO2; clear hO2; have hb2 := (HBS.out.alloc (.cells #[.pointer (some ⟨g, o, none⟩), .int .i64 q] 46)).only HO2.out (fun h => absurd (HLO.out _ h) (Nat.lt_irrefl _)); have c2 := hb2.cell 0; have f2 := hb2.free 0; have HB2 := Lib.hid hb2; clear hb2)
    have hb3 := HB2.out.set_ 0 (.slice G2 (n + 1) d2)
    have hlo2 : ∀ k, k ∈ rowT G2 → w.heap.size < k := fun k hk => by
      rcases HK2.out k hk with h | h
      · exact HLO.out k h
      · rw [World.size_alloc] at h; omega
    refine ⟨((((KeepsOthers.alloc W _).from _).trans (keeps_of_only HO2.out (fun k hk => ?_))).trans ((KeepsOthers.setCell _ _ _).from _)), _, rfl, ?_, G2, d2, ?_, ?_, hlo2⟩
    · obtain ⟨ad, e, rfl⟩ := mem_rowT.1 hk
      obtain ⟨g1, o1, cur, e1, hbg, _⟩ := RowK.some_ HRA.out ad e
      subst e1
      exact ⟨_, _, _, hbg⟩
    · exact bel_onS (bel_onS (HB.out.trans (Bel.alloc _ _)) HO2.out (fun k hk => Nat.le_of_lt (HLO.out k hk))) ((Only.refl [w.heap.size] _).setCell (.inl (by simp)) _) (by simp)
    · rw [List.length_append, HNN.out]
      exact hb3
    · exact KRow.only HR2.out ((Only.refl [w.heap.size] _).setCell (.inl (by simp)) _) (fun k hk => by have := hlo2 k hk; simp; omega)
  case done =>
    rintro D s W hD rfl hI hK
    obtain ⟨G, d, hbs, hrow, hlo⟩ := hI.row
    have s0 := hbs.cell 0
    simp only [List.getElem?_cons_zero] at s0
    have HB := Lib.hid hI.bel
    have HRW := Lib.hid hrow
    have HLO := Lib.hid hlo
    have HK := Lib.hid hK
    have hDD : w.heap.size + 1 ≤ D := by simpa using hD
    clear hbs hrow hlo hI hK hD
    gi_wp2_with fail
    refine ⟨by simp, .inl ⟨_, _, rfl, run_takeDeferred HK.out, ?_⟩⟩
    refine ⟨_, results_tmp rfl _ _ _, bel_put HB.out HK.out (by omega), G, d, rfl, krow_grown HRW.out (grownBy_putObj' W D (.deferred none)) (fun r e => by cases e; exact ⟨_, HK.out, rfl⟩), fun k hk => Nat.le_of_lt (HLO.out k hk)⟩
  case stop =>
    rintro D c' W _ h _
    exact h.elim
/-- slices.Collect. -/
theorem collect_c {l : List NT} {A : Option Addr} {c bx : Nat} {w : World} (hA : Row w (Lt w) A c l) (hs : tots l ≤ 100000) (hb : bx < w.heap.size) (hbx : w.cell? ⟨bx, 0, none⟩ = some (.slice A l.length c)) :
    Calls Try.prog 24 #[.func (.func 28) #[] #[.pointer (some ⟨bx, 0, none⟩)]] w (CoP (vNs l A 0) w) := by
  have HC := Lib.hid (appendSeq_c hA hs hb hbx)
  clear hA hs hb hbx
  go_enter Try.func24, Try.ntmps24
  go_wp2_with (go_at_call 33; refine HC.out.mono ?_; rintro e w1 hp; have HP := Lib.hid hp; obtain ⟨_, G, d, rfl, _⟩ := hp)
  go_ret
  exact HP.out
end Go.Proofs.Ythbcjljkpnkakaa

namespace Go.Proofs.Ythbcjljkpnkakaa
open Go.RowKit Go.BigFrame Go.Shelf NT
set_option linter.unusedVariables false
set_option linter.unusedSimpArgs false
attribute [local go_sem ↓] sliced_cut run_min2 run_max2
attribute [local go_sem] cutA_zero
attribute [local go_sem] Oper.semAt_some

/-- What lies between two rounds: the result's box, the box of the rest, the rest; what has come is alike. -/
structure EqI (w : World) (br bx : Nat) (va : Value) (vb pre : List Vis) (W : World) : Prop where
  bel : Bel w W
  res : Blk W w.heap.size 4 [.bool false]
  rest : ∃ G d, Blk W br 59 [.slice G (vb.length - pre.length) d] ∧ KRow W 46 2 Vis.cs G d (vb.drop pre.length) ∧ ∀ k, k ∈ rowT G → w.heap.size < k ∧ k ≠ br
  same : Alk pre (vb.take pre.length)
  box : pre = [] → W.cell? ⟨bx, 0, none⟩ = some va
theorem eqI_own {w : World} {br bx B : Nat} {va : Value} {vb : List Vis} (hB : w.heap.size ≤ B) : OwnFrom B (EqI w br bx va vb) := by
  rintro s X Y row ⟨h1, h2, ⟨G, d, h3, h4, h5⟩, h6, h7⟩ hg hr
  have hr' := fun r e => (hr r e).2
  exact ⟨ownFrom_below (β := Unit) (Nat.le_refl _) hB () X Y row h1 hg hr, (grownBy_keeps_cells hg hr' h2 rfl).trans h2, ⟨G, d, (grownBy_keeps_cells hg hr' h3 rfl).trans h3, krow_grown h4 hg hr', h5⟩, h6, fun e => cell_kept (h7 e) hg hr'⟩
/-- Where a round has left the loop. -/
def EqX (w : World) (same : Prop) (c : Code) (W : World) : Prop := c = .ret ∧ Bel w W ∧ Blk W w.heap.size 4 [.bool false] ∧ ¬ same
theorem eqX_own {w : World} {B : Nat} {same : Prop} {c : Code} (hB : w.heap.size ≤ B) : OwnFrom B (fun (_ : Unit) W => EqX w same c W) := by
  rintro s X Y row ⟨h0, h1, h2, h3⟩ hg hr
  exact ⟨h0, ownFrom_below (β := Unit) (Nat.le_refl _) hB () X Y row h1 hg hr, (grownBy_keeps_cells hg (fun r e => (hr r e).2) h2 rfl).trans h2, h3⟩
theorem results_cell_one13 {P : Program} {fn : Func} {p : Tmp} {ty : TypeId} (h : fn.results = #[.cell p ty]) (tmps : Array Value) (w : World) (g : Nat) (v : Value) (hp : tmps.getD p undef = .pointer (some ⟨g, 0, none⟩)) (hc : w.cell? ⟨g, 0, none⟩ = some v) (ha : ∀ w, (isAgg ty).run P w = .ok false w) :
    (results fn tmps).run P w = .ok v w := by
  have hp' : tmps[p]?.getD undef = .pointer (some ⟨g, 0, none⟩) := by simpa using hp
  simp [results, h, hp', asAddr, loadVar, Sem.run_bind, ha, go_sem, hc]
theorem Alk.snoc {a b : List Vis} {x y : Vis} (h : Alk a b) (hx : alk x y) : Alk (a ++ [x]) (b ++ [y]) := h.append ⟨hx, trivial⟩
set_option maxRecDepth 100000 in
set_option maxHeartbeats 3200000 in
theorem pequal_c {l m : List NT} {A B : Option Addr} {c d : Nat} {w : World} (hA : Row w (Lt w) A c l) (hB : Row w (Lt w) B d m) (hm : tots m ≤ 100000) :
    Calls Try.prog 14 #[.slice A l.length c, .slice B m.length d] w fun e w' => e = .returned (.bool (sameN l m)) ∧ Bel w w' := by
  have HAK := Lib.hid ((alk_iff l m A B).trans (sameN_iff l m).symm)
  have HOA := Lib.hid (vNs_ok hA)
  have HOB := Lib.hid (vNs_ok hB)
  have HLB := Lib.hid (show (vNs m B 0).length ≤ 300000 by have := vNs_length m B 0; omega)
  have HIT := Lib.hid (fun (W : World) (hb : Bel w W) (bx k : Nat) (I : List Vis → World → Prop) => ro_iterates (m := k) (I := I) (bx := bx) (hA.bel hb))
  obtain ⟨q, hq⟩ : ∃ q, q = sameN l m := ⟨_, rfl⟩
  have HCO := Lib.hid (collect_c (bx := w.heap.size + 1) (hB.bel ((Bel.alloc w (.cells #[.bool false] 4)).trans (Bel.alloc _ (.cells #[.slice B m.length d] 22)))) hm (by simp) ((blk_at1 w (.cells #[.bool false] 4) 22 [.slice B m.length d]).cell 0))
  rw [← hq] at HAK ⊢
  generalize vNs l A 0 = va at HAK HOA HIT
  generalize vNs m B 0 = vb at HAK HOB HLB HCO
  obtain ⟨n, hn⟩ : ∃ n, n = l.length := ⟨_, rfl⟩
  obtain ⟨n2, hn2⟩ : ∃ n2, n2 = m.length := ⟨_, rfl⟩
  rw [← hn] at HIT ⊢
  rw [← hn2] at HCO ⊢
  clear hA hB hm hn hn2 hq
  refine (callsIn_wide (n := 6)).1 (callsIn_of_wp_marks Try.func14 rfl trivial ?_ rfl)
  simp only [Try.ntmps14, List.size_toArray, List.length_cons, List.length_nil, Nat.reduceAdd, Nat.reduceSub, Array.replicate_succ, Array.replicate_zero, List.push_toArray, List.append_toArray, List.nil_append, List.cons_append]
  refine wpIn_wide.2 ?_
  go_wp2_with (first | (go_at_call 16; ((with_reducible refine (visits_c B n2 d (w.alloc (.cells #[.bool false] 4))).mono ?_); rintro e w2 ⟨rfl, rfl⟩)) | (go_at_call 24; ((with_reducible refine HCO.out.mono ?_); rintro e w2 hp; obtain ⟨hb, G, dg, rfl, hr, hlo⟩ := hp; have HB2 := Lib.hid hb; have HR2 := Lib.hid hr; have HLO2 := Lib.hid hlo; clear hb hr hlo)) | (go_at_call 16; ((with_reducible refine (visits_c A n c _).mono ?_); rintro e w3 ⟨rfl, rfl⟩)))
  have hszw2 : w.heap.size + 2 ≤ w2.heap.size := by have := HB2.out.size; simpa using this
  obtain ⟨b2, hb2⟩ : ∃ b2, b2 = w2.heap.size := ⟨_, rfl⟩
  have HBW0 : Hid (Bel w ((w2.alloc (.cells #[.slice G vb.length dg] 59)).alloc (.cells #[.slice A n c] 22))) := Lib.hid ((((Bel.alloc w _).trans (Bel.alloc _ _)).trans HB2.out).trans ((Bel.alloc _ _).trans (Bel.alloc _ _)))
  have HRES : Hid (Blk ((w2.alloc (.cells #[.slice G vb.length dg] 59)).alloc (.cells #[.slice A n c] 22)) w.heap.size 4 [.bool false]) := Lib.hid (((((Blk.new w 4 [.bool false]).alloc _).bel HB2.out).alloc _).alloc _)
  have HRST : Hid (Blk ((w2.alloc (.cells #[.slice G vb.length dg] 59)).alloc (.cells #[.slice A n c] 22)) b2 59 [.slice G vb.length dg]) := Lib.hid (by rw [hb2]; exact (Blk.new w2 59 [.slice G vb.length dg]).alloc _)
  have HROW : Hid (KRow ((w2.alloc (.cells #[.slice G vb.length dg] 59)).alloc (.cells #[.slice A n c] 22)) 46 2 Vis.cs G dg vb) := Lib.hid ((HR2.out.alloc _).alloc _)
  have HLO : Hid (∀ k, k ∈ rowT G → w.heap.size < k ∧ k ≠ b2) := Lib.hid (fun k hk => by
    have h1 := HLO2.out k hk
    have h2 := KRow.lt HR2.out k hk
    simp at h1
    omega)
  have HBOX : Hid (((w2.alloc (.cells #[.slice G vb.length dg] 59)).alloc (.cells #[.slice A n c] 22)).cell? ⟨b2 + 1, 0, none⟩ = some (.slice A n c)) := Lib.hid (by rw [hb2]; exact (blk_at1 w2 _ 22 [.slice A n c]).cell 0)
  have HSZ : Hid (((w2.alloc (.cells #[.slice G vb.length dg] 59)).alloc (.cells #[.slice A n c] 22)).heap.size = b2 + 2) := Lib.hid (by rw [hb2]; simp)
  rw [← hb2] at hszw2 ⊢
  generalize ((w2.alloc (.cells #[.slice G vb.length dg] 59)).alloc (.cells #[.slice A n c] 22)) = W0 at HBW0 HRES HRST HROW HBOX HSZ ⊢
  clear hb2 HB2 HR2 HLO2 HCO
  have hW0 : w.heap.size ≤ W0.heap.size := HBW0.out.size
  refine (wpIn_wide (n := 6)).1 ?_
  refine rangeFunc_st (n := 6) rfl (by omega) (gf := 28) (lb := #[.pointer (some ⟨b2 + 1, 0, none⟩)]) rfl trivial (enters_of Try.func28 (by kernel_rfl) rfl)
    (HIT.out w (Bel.refl _) (b2 + 1) 5 (EqI w b2 (b2 + 1) (.slice A n c) vb) (fun s W h => h.bel) (fun W h => h.box rfl)) (fun _ => rfl) (EqX w (q = true)) (eqI_own hW0) (fun c => eqX_own hW0)
    ⟨HBW0.out, HRES.out, ⟨G, dg, HRST.out, HROW.out, HLO.out⟩, trivial, fun _ => HBOX.out⟩
    (fun s x a' W => EqI w b2 (b2 + 1) (.slice A n c) vb s W ∧ roPre va s x ∧ ∃ bv u12, Blk W bv 46 x.cs ∧ a' = { tmps := #[.slice A n c, .slice B n2 d, undef, undef, .pointer (some ⟨w.heap.size, 0, none⟩), .pointer (some ⟨b2, 0, none⟩), .pointer (some ⟨bv, 0, none⟩), .slice B n2 d, .func (.func 28) #[] #[.pointer (some ⟨w.heap.size + 1, 0, none⟩)], .slice G vb.length dg, .slice A n c, .func (.func 28) #[] #[.pointer (some ⟨b2 + 1, 0, none⟩)], u12, undef, undef, undef, undef, undef, undef, undef, undef, undef, undef, undef, undef, undef, undef, undef, undef], defers := [] })
    (fun s x a' => by
      rintro u X Y row ⟨h1, h2, bv, u12, h3, h4⟩ hg hr
      exact ⟨eqI_own hW0 s X Y row h1 hg hr, h2, bv, u12, blk_own () X Y row h3 hg hr, h4⟩) ?assign ?body ?done ?stop
  case assign =>
    intro l x s W K hsz hI hpre hK
    have HK := Lib.hid hK
    have HI := Lib.hid hI
    have HP := Lib.hid hpre
    clear hK hI hpre
    simp only [vEnc, Vis.val]
    gi_wp2_with fail
    obtain ⟨G', d', h1, h2, h3⟩ := HI.out.rest
    exact HK.out _ _ ((KeepsOthers.alloc _ _).from _) ⟨⟨HI.out.bel.trans (Bel.alloc _ _), HI.out.res.alloc _, ⟨G', d', h1.alloc _, h2.alloc _, h3⟩, HI.out.same, fun e => cell_alloc13 (HI.out.box e) _⟩, HP.out, W.heap.size, _, Blk.new W 46 _, rfl⟩
  case body =>
    rintro l pre x a' W ⟨hI, hpre, bv, u12, hbv, rfl⟩
    obtain ⟨G', d', hbr, hrow, hlo⟩ := hI.rest
    have hokx := (HOA.out x (roPre_mem hpre)).bel hI.bel
    have HSAME := Lib.hid hI.same
    have HB := Lib.hid hI.bel
    have HRS := Lib.hid hI.res
    have HBR := Lib.hid hbr
    have HRW := Lib.hid hrow
    have HLW := Lib.hid hlo
    have HPRE := Lib.hid hpre
    have HOX := Lib.hid hokx
    have r0 := hbr.cell 0
    simp only [List.getElem?_cons_zero] at r0
    have res0 := hI.res.cell 0
    simp only [List.getElem?_cons_zero] at res0
    have resf := hI.res.free 0
    obtain ⟨g, o, t, pl⟩ := x
    have v0 : W.cell? ⟨bv, 0, none⟩ = some (.pointer (some ⟨g, o, none⟩)) := Blk.cell (show Blk W bv 46 [.pointer (some ⟨g, o, none⟩), .int .i64 pl] from hbv) 0
    have v1 : W.cell? ⟨bv, 1, none⟩ = some (.int .i64 pl) := Blk.cell (show Blk W bv 46 [.pointer (some ⟨g, o, none⟩), .int .i64 pl] from hbv) 1
    have HBV := Lib.hid (show Blk W bv 46 [.pointer (some ⟨g, o, none⟩), .int .i64 pl] from hbv)
    clear hI hpre hbv hbr hrow hlo hokx
    -- no: it leaves
    have HNO := Lib.hid (fun (hn : ¬ (q = true)) (ac : Act) (W3 : World) (h1 : KeepsFrom W0.heap.size W W3) (h2 : Bel w W3) (h3 : Blk W3 w.heap.size 4 [.bool false]) => (show stPost W0.heap.size (EqI w b2 (b2 + 1) (.slice A n c) vb) (EqX w (q = true)) (roNx pre ⟨g, o, t, pl⟩) W .ret ac W3 from ⟨h1, rfl, h2, h3, hn⟩))
    by_cases hk : vb.length ≤ pre.length
    · have hqf : ¬ (q = true) := fun h => by
        have h1 := (HAK.out.2 h).len
        obtain ⟨r, e⟩ := HPRE.out
        rw [e] at h1
        simp at h1
        omega
      have HQF := Lib.hid hqf
      have hz : vb.length - pre.length = 0 := by omega
      rw [hz] at r0
      have HBR0 := HBR.out
      rw [hz] at HBR0
      have HBR0 := Lib.hid HBR0
      clear hqf hz hk v0 v1
      gi_wp2_with fail
      refine region_begin_round (T := []) (by kernel_rfl) (by kernel_rfl) (fun ⟨_, _, h⟩ => h) ?_
      have s0 : ∀ X : Later [] W.drew, X.w.cell? ⟨b2, 0, none⟩ = some (.slice G' 0 d') := fun X => ((HBR0.out.drew).only X.h (by simp)).cell 0
      refine region_seg [true, true, true, true, true, true, true, true] 3 (by kernel_rfl) (by kernel_rfl) (by kernel_rfl) rfl (fun _ _ d _ _ h => by cases d <;> exact h) ?_
      (refine wpMask_want (by rfl) (fun K hK => ?_); go_big_quiet_op; refine hK _ ?_; clear hK K)
      (refine wpMask_want (by rfl) (fun K hK => ?_); go_big_quiet_op; refine hK _ ?_; clear hK K)
      (refine wpMask_want (by rfl) (fun K hK => ?_); go_big_quiet_op; refine hK _ ?_; clear hK K)
      (refine wpMask_want (by rfl) (fun K hK => ?_); go_big_quiet_op; refine hK _ ?_; clear hK K)
      (with_reducible refine wpMask_skip (by kernel_rfl) ?_; simp only [List.getElem_toArray, List.getElem_cons_zero, List.getElem_cons_succ, Act.put, List.setIfInBounds_toArray, List.set_cons_zero, List.set_cons_succ])
      (with_reducible refine wpMask_skip (by kernel_rfl) ?_; simp only [List.getElem_toArray, List.getElem_cons_zero, List.getElem_cons_succ, Act.put, List.setIfInBounds_toArray, List.set_cons_zero, List.set_cons_succ])
      (with_reducible refine wpMask_skip (by kernel_rfl) ?_; simp only [List.getElem_toArray, List.getElem_cons_zero, List.getElem_cons_succ, Act.put, List.setIfInBounds_toArray, List.set_cons_zero, List.set_cons_succ])
      (with_reducible refine wpMask_skip (by kernel_rfl) ?_; simp only [List.getElem_toArray, List.getElem_cons_zero, List.getElem_cons_succ, Act.put, List.setIfInBounds_toArray, List.set_cons_zero, List.set_cons_succ])
      with_reducible refine wpMask_nil ?_
      refine region_skip 8 (by kernel_rfl) rfl (by rfl) ?_
      simp only [List.getElem_toArray, List.getElem_cons_zero, List.getElem_cons_succ, Act.put, List.setIfInBounds_toArray, List.set_cons_zero, List.set_cons_succ]
      refine region_seg [false, false, false, false, false, false, false, false, false, true, true] 0 (by kernel_rfl) (by kernel_rfl) (by kernel_rfl) rfl (fun _ _ d _ _ h => by cases d <;> exact h) ?_
      with_reducible refine wpMask_pass ?_
      with_reducible refine wpMask_pass ?_
      with_reducible refine wpMask_pass ?_
      with_reducible refine wpMask_pass ?_
      with_reducible refine wpMask_pass ?_
      with_reducible refine wpMask_pass ?_
      with_reducible refine wpMask_pass ?_
      with_reducible refine wpMask_pass ?_
      with_reducible refine wpMask_pass ?_
      (with_reducible refine wpMask_skip (by kernel_rfl) ?_; simp only [List.getElem_toArray, List.getElem_cons_zero, List.getElem_cons_succ, Act.put, List.setIfInBounds_toArray, List.set_cons_zero, List.set_cons_succ])
      (refine wpMask_want (by rfl) (fun K hK => ?_); go_big_quiet_op; refine hK _ ?_; clear hK K)
      with_reducible refine wpMask_nil ?_
      refine region_end (by kernel_rfl) ?_
      have res1 : W.drew.cell? ⟨w.heap.size, 0, none⟩ = some (.bool false) := res0
      have resf1 : W.drew.frozen? ⟨w.heap.size, 0, none⟩ = false := resf
      clear s0
      gi_wp2_with fail
      refine HNO.out HQF.out _ _ ⟨((KeepsOthers.setCell W ⟨w.heap.size, 0, none⟩ (.bool false)).from W0.heap.size).size, ((KeepsOthers.setCell W ⟨w.heap.size, 0, none⟩ (.bool false)).from W0.heap.size).same⟩ (Below.drew (bel_onS HB.out ((Only.refl [w.heap.size] _).setCell (.inl (by simp)) _) (by simp))) (HRS.out.set_ 0 (.bool false)).drew
    · obtain ⟨y, hy⟩ : ∃ y, vb[pre.length]? = some y := ⟨_, List.getElem?_eq_getElem (by omega)⟩
      have hdr : (vb.drop pre.length)[0]? = some y := by rw [List.getElem?_drop]; exact hy
      obtain ⟨gr, or_, hG, hgr, hcl⟩ := HRW.out.at_ visc_len hdr (by decide)
      subst hG
      have HOY := Lib.hid ((HOB.out y (List.mem_of_getElem? hy)).bel (show Bel w W from HB.out))
      have HAL := Lib.hid (fun (X : World) (hb : Bel W X) => alike_c (HOX.out.bel hb) (HOY.out.bel hb))
      have HY := Lib.hid hy
      obtain ⟨r, hr⟩ : ∃ r, r = vb.length - pre.length := ⟨_, rfl⟩
      have hr0 : 0 < r := by omega
      have HRR := Lib.hid hr
      have hrb : r ≤ 300000 := by have := HLB.out; omega
      have hdd := HRW.out.le
      have hddm := HRW.out.max
      rw [List.length_drop, ← hr] at hdd
      unfold maxLen at hddm
      obtain ⟨g2, o2, t2, pl2⟩ := y
      have y0 : W.cell? ⟨gr, or_, none⟩ = some (.pointer (some ⟨g2, o2, none⟩)) := by have := hcl 0 _ rfl; simpa using this
      have y1 : W.cell? ⟨gr, or_ + 1, none⟩ = some (.int .i64 pl2) := by have := hcl 1 _ rfl; simpa using this
      have HBR0 := HBR.out
      rw [← hr] at HBR0 r0
      have HBR0 := Lib.hid HBR0
      have hr1 : ((r : Int) == 0) = false := by rw [beq_eq_false_iff_ne]; omega
      clear hy hdr hcl hr hk
      gi_wp2_with fail
      refine region_begin_round (T := []) (by kernel_rfl) (by kernel_rfl) (fun ⟨_, _, h⟩ => h) ?_
      have s0 : ∀ X : Later [] W.drew, X.w.cell? ⟨b2, 0, none⟩ = some (.slice (some ⟨gr, or_, none⟩) r d') := fun X => ((HBR0.out.drew).only X.h (by simp)).cell 0
      have s1 : ∀ X : Later [] W.drew, X.w.cell? ⟨bv, 0, none⟩ = some (.pointer (some ⟨g, o, none⟩)) := fun X => (HBV.out.drew.only X.h (by simp)).cell 0
      have s2 : ∀ X : Later [] W.drew, X.w.cell? ⟨bv, 1, none⟩ = some (.int .i64 pl) := fun X => (HBV.out.drew.only X.h (by simp)).cell 1
      have s3 : ∀ X : Later [] W.drew, X.w.cell? ⟨gr, or_, none⟩ = some (.pointer (some ⟨g2, o2, none⟩)) := fun X => ((Bel.of_later X).cell hgr).trans y0
      have s4 : ∀ X : Later [] W.drew, X.w.cell? ⟨gr, or_ + 1, none⟩ = some (.int .i64 pl2) := fun X => ((Bel.of_later X).cell hgr).trans y1
      refine region_seg [true, true, true, true, true, true, true, true] 3 (by kernel_rfl) (by kernel_rfl) (by kernel_rfl) rfl (fun _ _ d _ _ h => by cases d <;> exact h) ?_
      (refine wpMask_want (by rfl) (fun K hK => ?_); go_big_quiet_op; refine hK _ ?_; clear hK K)
      (refine wpMask_want (by rfl) (fun K hK => ?_); go_big_quiet_op; refine hK _ ?_; clear hK K)
      (refine wpMask_want (by rfl) (fun K hK => ?_); go_big_quiet_op; refine hK _ ?_; clear hK K)
      (refine wpMask_want (by rfl) (fun K hK => ?_); go_big_quiet_op; refine hK _ ?_; clear hK K)
      (refine wpMask_want (by rfl) (fun K hK => ?_); go_big_quiet_op; refine hK _ ?_; clear hK K)
      (refine wpMask_want (by rfl) (fun K hK => ?_); go_big_quiet_op; refine hK _ ?_; clear hK K)
      (refine wpMask_want (by rfl) (fun K hK => ?_); go_big_quiet_op; refine hK _ ?_; clear hK K)
      (refine wpMask_want (by rfl) (fun K hK => ?_); go_big_quiet_op; refine hK _ ?_; clear hK K)
      with_reducible refine wpMask_nil ?_
      refine region_call 8 (by kernel_rfl) rfl (by rfl) (by go_simp; exact ⟨rfl, rfl⟩) ?_
      refine (HAL.out W.drew (Bel.drew _)).mono ?_
      rintro e w1 ⟨rfl, hb1⟩
      refine ⟨_, rfl, bel_only hb1, ?_⟩
      simp only [List.getElem_toArray, List.getElem_cons_zero, List.getElem_cons_succ, Act.put, List.setIfInBounds_toArray, List.set_cons_zero, List.set_cons_succ]
      have HB1 := Lib.hid ((Bel.drew W).trans hb1)
      clear hb1 s0 s1 s2 s3 s4 y0 y1
      obtain ⟨b, hb⟩ : ∃ b, b = alkB ⟨g, o, t, pl⟩ ⟨g2, o2, t2, pl2⟩ := ⟨_, rfl⟩
      rw [← hb]
      have HBB := Lib.hid hb
      clear hb
      refine region_seg [false, false, false, false, false, false, false, false, false, true, true] 0 (by kernel_rfl) (by kernel_rfl) (by kernel_rfl) rfl (fun _ _ d _ _ h => by cases d <;> exact h) ?_
      with_reducible refine wpMask_pass ?_
      with_reducible refine wpMask_pass ?_
      with_reducible refine wpMask_pass ?_
      with_reducible refine wpMask_pass ?_
      with_reducible refine wpMask_pass ?_
      with_reducible refine wpMask_pass ?_
      with_reducible refine wpMask_pass ?_
      with_reducible refine wpMask_pass ?_
      with_reducible refine wpMask_pass ?_
      (refine wpMask_want (by rfl) (fun K hK => ?_); go_big_quiet_op; refine hK _ ?_; clear hK K)
      (refine wpMask_want (by rfl) (fun K hK => ?_); go_big_quiet_op; refine hK _ ?_; clear hK K)
      with_reducible refine wpMask_nil ?_
      refine region_end (by kernel_rfl) ?_
      have res1 : w1.cell? ⟨w.heap.size, 0, none⟩ = some (.bool false) := (HRS.out.bel HB1.out).cell 0
      have resf1 : w1.frozen? ⟨w.heap.size, 0, none⟩ = false := (HRS.out.bel HB1.out).free 0
      have r1 : w1.cell? ⟨b2, 0, none⟩ = some (.slice (some ⟨gr, or_, none⟩) r d') := (HBR0.out.bel HB1.out).cell 0
      have rf1 : w1.frozen? ⟨b2, 0, none⟩ = false := (HBR0.out.bel HB1.out).free 0
      cases b with
      | false =>
        gi_wp2_with fail
        have hqf : ¬ (q = true) := fun h => by
          obtain ⟨rr, e⟩ := HPRE.out
          have h1 := (HAK.out.2 h).at_ (i := pre.length) (x := ⟨g, o, t, pl⟩) (by rw [e]; simp) HY.out
          rw [← alkB_iff, ← HBB.out] at h1
          cases h1
        exact HNO.out hqf _ _ ((bel_keeps HB1.out _).trans ((KeepsOthers.setCell _ _ _).from _)) (bel_onS (HB.out.trans HB1.out) ((Only.refl [w.heap.size] _).setCell (.inl (by simp)) _) (by simp)) ((HRS.out.bel HB1.out).set_ 0 (.bool false))
      | true =>
        gi_wp2_with fail
        have hl1 : (pre ++ [(⟨g, o, t, pl⟩ : Vis)]).length = pre.length + 1 := by simp
        have hkr : KRow w1 46 2 Vis.cs (cutA d' 1 2 (some ⟨gr, or_, none⟩)) (d' - 1) (vb.drop (pre.length + 1)) := by
          have := KRow.cut (KRow.only HRW.out (bel_only HB1.out) (by simp)) visc_len 1 (by rw [List.length_drop, ← HRR.out]; omega)
          rwa [List.drop_drop] at this
        refine ⟨(bel_keeps HB1.out _).trans ((KeepsOthers.setCell _ _ _).from _), _, rfl, ?_, ?_, ⟨cutA d' 1 2 (some ⟨gr, or_, none⟩), d' - 1, ?_, ?_, ?_⟩, ?_, fun h => by simp at h⟩
        · exact bel_onS (HB.out.trans HB1.out) ((Only.refl [b2] _).setCell (.inl (by simp)) _) (by simp; omega)
        · exact (HRS.out.bel HB1.out).only ((Only.refl [b2] _).setCell (.inl (by simp)) _) (by simp; omega)
        · rw [hl1, show vb.length - (pre.length + 1) = r - 1 by have := HRR.out; omega]
          exact (HBR0.out.bel HB1.out).set_ 0 _
        · rw [hl1]
          exact KRow.only hkr ((Only.refl [b2] _).setCell (.inl (by simp)) _) (fun k hk => by rw [rowT_cut] at hk; have := (HLW.out k hk).2; simpa using this)
        · intro k hk
          rw [rowT_cut] at hk
          exact HLW.out k hk
        · rw [hl1, List.take_add_one, HY.out]
          exact HSAME.out.snoc ((alkB_iff _ _).1 HBB.out.symm)
  case done =>
    rintro D s W hD rfl hI hK
    obtain ⟨G', d', hbr, hrow, hlo⟩ := hI.rest
    have HB := Lib.hid hI.bel
    have HRS := Lib.hid hI.res
    have HK := Lib.hid hK
    have hsame := hI.same
    have hDD : w.heap.size ≤ D := Nat.le_trans hW0 hD
    have r0 := hbr.cell 0
    simp only [List.getElem?_cons_zero] at r0
    have res0 := hI.res.cell 0
    simp only [List.getElem?_cons_zero] at res0
    have resf := hI.res.free 0
    have HQ : Hid ((((vb.length - s.length : Nat) : Int) == 0) = q) := Lib.hid (by
      have hl := hsame.len
      rw [List.length_take] at hl
      rw [Bool.eq_iff_iff, beq_iff_eq, ← HAK.out]
      constructor
      · intro h
        rw [List.take_of_length_le (by omega)] at hsame
        exact hsame
      · intro h
        have := h.len
        omega)
    obtain ⟨r, hr⟩ : ∃ r, r = vb.length - s.length := ⟨_, rfl⟩
    rw [← hr] at r0 HQ
    clear hI hK hD hbr hrow hlo hsame hr
    go_wp2_with fail
    have hKD : (W.setCell ⟨w.heap.size, 0, none⟩ (.bool ((r : Int) == 0))).heap[D]? = some (.deferred (some [])) := (KeepsOthers.setCell W ⟨w.heap.size, 0, none⟩ _).same D _ HK.out rfl
    have hbb := HRS.out.set_ 0 (.bool ((r : Int) == 0))
    refine ⟨by simp, .inl ⟨_, _, rfl, run_takeDeferred hKD, ?_⟩⟩
    refine ⟨_, results_cell_one13 rfl _ _ w.heap.size (.bool ((r : Int) == 0)) rfl ?_ Try.isAgg4, by rw [HQ.out], bel_put (bel_onS HB.out ((Only.refl [w.heap.size] _).setCell (.inl (by simp)) _) (by simp)) hKD hDD⟩
    exact (blk_own (B := 0) () _ _ (some D) hbb (grownBy_putObj' _ D _) (fun _ e => by cases e; exact ⟨Nat.zero_le _, _, hKD, rfl⟩)).cell 0
  case stop =>
    rintro D c' W hD ⟨rfl, h1, h2, h3⟩ hK
    have HB := Lib.hid h1
    have HRS := Lib.hid h2
    have HN := Lib.hid h3
    have HK := Lib.hid hK
    have hDD : w.heap.size ≤ D := Nat.le_trans hW0 hD
    clear h1 h2 h3 hK hD
    gi_wp2_with fail
    have hqf : q = false := by cases hq : q with
      | false => rfl
      | true => exact absurd hq HN.out
    refine ⟨by simp, .inl ⟨_, _, rfl, run_takeDeferred HK.out, ?_⟩⟩
    refine ⟨_, results_cell_one13 rfl _ _ w.heap.size (.bool false) rfl ?_ Try.isAgg4, by rw [hqf], bel_put HB.out HK.out hDD⟩
    exact (blk_own (B := 0) () _ _ (some D) HRS.out (grownBy_putObj' _ D _) (fun _ e => by cases e; exact ⟨Nat.zero_le _, _, HK.out, rfl⟩)).cell 0
end Go.Proofs.Ythbcjljkpnkakaa
