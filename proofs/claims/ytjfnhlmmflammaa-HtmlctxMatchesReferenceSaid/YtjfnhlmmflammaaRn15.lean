/-
  Law RunComposes of layer 15.
-/
import Derived.Test.YtjfnhlmmflammaaAi15
import Derived.Test.YtjfnhlmmflammaaRegion2
namespace Go.Proofs.Ytjfnhlmmflammaa
open Go.RowKit Go.BigFrame
set_option linter.unusedVariables false
set_option linter.unusedSimpArgs false

theorem toL_append (a b : ByteArray) : toL (a ++ b) = toL a ++ toL b := by
  unfold toL
  rw [ByteArray.data_append, Array.toList_append]
set_option maxRecDepth 100000 in
set_option maxHeartbeats 6400000 in
theorem rnLaw (a b : ByteArray) (w : World) (ha : a.size ≤ 140737488351232) (hb : b.size ≤ 140737488351232) : Calls Try.prog 4 #[.string a, .string b] w fun e w' => e = .returned (.bool true) ∧ Below w.heap.size w w' := by
  have HAL := Lib.hid (fun W => alive_c W)

  have hw1 : IntKind.i64.wrap ((a.size : Int) + (b.size : Int)) = (a.size : Int) + (b.size : Int) := IntWalk.i64_in _ (by omega)
  by_cases hbig : 3000 < a.size + b.size
  · have hi : (3000 : Int) < (a.size : Int) + (b.size : Int) := by omega
    go_enter Try.func4, Try.ntmps4
    go_wp2_with (go_at_call 7; refine (HAL.out _).mono ?_; rintro e w1 ⟨rfl, hb⟩)
    go_ret
    exact ⟨rfl, hb⟩
  have hi : ¬ ((3000 : Int) < (a.size : Int) + (b.size : Int)) := by omega
  have hsz : (a ++ b).size = a.size + b.size := ByteArray.size_append
  have hI : Inv (runS (s0 0) (toL a)) := inv_run Inv.init _
  have hc : runS (runS (s0 0) (toL a)) (toL b) = runS (s0 0) (toL (a ++ b)) := by rw [toL_append, runS_append]
  obtain ⟨s, hs⟩ : ∃ s, s = runS (s0 0) (toL a) := ⟨_, rfl⟩
  rw [← hs] at hI hc
  obtain ⟨t, ht⟩ : ∃ t, t = runS s (toL b) := ⟨_, rfl⟩
  have HR1 : Hid (∀ W, Calls Try.prog 13 #[.agg #[.int .i64 0, .string ⟨#[]⟩, .string ⟨#[]⟩, .string ⟨#[]⟩], .string a] W (SvV (.agg #[.int .i64 (s.c : Nat), .string (ofL s.n), .string (ofL s.a), .string (ofL s.p)]) W)) := Lib.hid (fun W => by
    have h := prun_c (s0 0) Inv.init a (by omega) W
    rw [← hs] at h
    exact h)
  have HR2 : Hid (∀ W, Calls Try.prog 13 #[.agg #[.int .i64 (s.c : Nat), .string (ofL s.n), .string (ofL s.a), .string (ofL s.p)], .string b] W (SvV (.agg #[.int .i64 (t.c : Nat), .string (ofL t.n), .string (ofL t.a), .string (ofL t.p)]) W)) := Lib.hid (fun W => by
    have h := prun_c s hI b (by omega) W
    rw [← ht] at h
    exact h)
  have HR3 : Hid (∀ W, Calls Try.prog 13 #[.agg #[.int .i64 0, .string ⟨#[]⟩, .string ⟨#[]⟩, .string ⟨#[]⟩], .string (a ++ b)] W (SvV (.agg #[.int .i64 (t.c : Nat), .string (ofL t.n), .string (ofL t.a), .string (ofL t.p)]) W)) := Lib.hid (fun W => by
    have h := prun_c (s0 0) Inv.init (a ++ b) (by omega) W
    rw [← hc, ← ht] at h
    exact h)
  have hq : ∀ W, (binOp .eql 24 (.agg #[.int .i64 (t.c : Nat), .string (ofL t.n), .string (ofL t.a), .string (ofL t.p)]) (.agg #[.int .i64 (t.c : Nat), .string (ofL t.n), .string (ofL t.a), .string (ofL t.p)])).run Try.prog W = .ok (.bool true) W := fun W => (st_eql t t W).trans (by rw [(stB_iff _ _).2 rfl])
  have hgd := st_guard
  clear hI hc hs ht hbig
  go_enter Try.func4, Try.ntmps4
  go_wp2_with fail
  have HB := Lib.hid ((Bel.alloc w (.cells #[.int .i64 0, .string ⟨#[]⟩, .string ⟨#[]⟩, .string ⟨#[]⟩] 24)).trans (Bel.drew _))
  have HK := Lib.hid (Blk.new w 24 [.int .i64 0, .string ⟨#[]⟩, .string ⟨#[]⟩, .string ⟨#[]⟩]).drew
  refine region_begin (T := []) (by kernel_rfl) ?_
  generalize (w.alloc (.cells #[.int .i64 0, .string ⟨#[]⟩, .string ⟨#[]⟩, .string ⟨#[]⟩] 24)).drew = W at HB HK ⊢
  refine region_call 0 (by kernel_rfl) rfl (by rfl) (by go_simp; exact ⟨rfl, rfl⟩) ?_
  refine (HAL.out _).mono ?_; rintro e w1 ⟨rfl, hb1⟩; refine ⟨_, rfl, bel_only hb1, ?_⟩
  have HB1 := Lib.hid (HB.out.trans hb1)
  have HK1 := Lib.hid (HK.out.belh hb1)
  clear hb1
  have k0 : ∀ X : Later [] w1, X.w.cell? ⟨w.heap.size, 0, none⟩ = some (.int .i64 0) := fun X => (HK1.out.belh (Bel.of_later X)).cell 0
  have k1 : ∀ X : Later [] w1, X.w.cell? ⟨w.heap.size, 1, none⟩ = some (.string ⟨#[]⟩) := fun X => (HK1.out.belh (Bel.of_later X)).cell 1
  have k2 : ∀ X : Later [] w1, X.w.cell? ⟨w.heap.size, 2, none⟩ = some (.string ⟨#[]⟩) := fun X => (HK1.out.belh (Bel.of_later X)).cell 2
  have k3 : ∀ X : Later [] w1, X.w.cell? ⟨w.heap.size, 3, none⟩ = some (.string ⟨#[]⟩) := fun X => (HK1.out.belh (Bel.of_later X)).cell 3
  simp only [List.getElem_toArray, List.getElem_cons_zero, List.getElem_cons_succ, Act.put, List.setIfInBounds_toArray, List.set_cons_zero, List.set_cons_succ]
  refine region_seg [false, true, true, true, false, true, false, true, true, true, true] 6 (by kernel_rfl) (by kernel_rfl) (by kernel_rfl) rfl (fun _ _ d _ _ h => by cases d <;> exact h) ?_
  repeat (first | with_reducible refine wpMask_pass ?_ | (refine wpMask_want (by rfl) (fun K hK => ?_); go_big_quiet_op; refine hK _ ?_; clear hK K))
  with_reducible refine wpMask_nil ?_
  refine region_call 4 (by kernel_rfl) rfl (by rfl) (by go_simp; exact ⟨rfl, rfl⟩) ?_
  (with_reducible refine (HR1.out _).mono ?_); rintro e w2 ⟨rfl, hb2⟩; refine ⟨_, rfl, bel_only hb2, ?_⟩
  have HB2 := Lib.hid (HB1.out.trans hb2)
  clear hb2
  simp only [List.getElem_toArray, List.getElem_cons_zero, List.getElem_cons_succ, Act.put, List.setIfInBounds_toArray, List.set_cons_zero, List.set_cons_succ]
  refine region_call 6 (by kernel_rfl) rfl (by rfl) (by go_simp; exact ⟨rfl, rfl⟩) ?_
  (with_reducible refine (HR2.out _).mono ?_); rintro e w3 ⟨rfl, hb3⟩; refine ⟨_, rfl, bel_only hb3, ?_⟩
  have HB3 := Lib.hid (HB2.out.trans hb3)
  clear hb3
  simp only [List.getElem_toArray, List.getElem_cons_zero, List.getElem_cons_succ, Act.put, List.setIfInBounds_toArray, List.set_cons_zero, List.set_cons_succ]
  refine region_call 11 (by kernel_rfl) rfl (by rfl) (by go_simp; exact ⟨rfl, rfl⟩) ?_
  (with_reducible refine (HR3.out _).mono ?_); rintro e w4 ⟨rfl, hb4⟩; refine ⟨_, rfl, bel_only hb4, ?_⟩
  have HB4 := Lib.hid (HB3.out.trans hb4)
  clear hb4
  simp only [List.getElem_toArray, List.getElem_cons_zero, List.getElem_cons_succ, Act.put, List.setIfInBounds_toArray, List.set_cons_zero, List.set_cons_succ]
  refine region_seg [false, false, false, false, false, false, false, false, false, false, false, false, true, true, true] 0 (by kernel_rfl) (by kernel_rfl) (by kernel_rfl) rfl (fun _ _ d _ _ h => by cases d <;> exact h) ?_
  repeat (first | with_reducible refine wpMask_pass ?_ | (refine wpMask_want (by rfl) (fun K hK => ?_); go_big_quiet_op; refine hK _ ?_; clear hK K))
  with_reducible refine wpMask_nil ?_
  refine region_end (by kernel_rfl) ?_
  go_wp2_with fail
  go_ret
  exact ⟨rfl, HB4.out⟩
end Go.Proofs.Ytjfnhlmmflammaa
