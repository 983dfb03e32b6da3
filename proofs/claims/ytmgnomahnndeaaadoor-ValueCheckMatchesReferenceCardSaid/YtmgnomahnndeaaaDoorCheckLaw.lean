/-
  The law ValueCheckMatchesReference, walked.
-/
import Derived.Test.YtmgnomahnndeaaaDoorLookLaw
import Derived.Test.YtmgnomahnndeaaaDoorRefChk
import Derived.Test.YtmgnomahnndeaaaDoorEq9B
import Derived.Test.YtmgnomahnndeaaaDoorText9
namespace Go.Proofs.YtmgnomahnndeaaaDoor
open Go.RowKit Go.BigFrame
set_option linter.unusedVariables false
set_option linter.unusedSimpArgs false

set_option maxRecDepth 100000 in
set_option maxHeartbeats 6400000 in
theorem checkLaw (a b : VT) (w : World) (hT : MX w) (hP : Pw w) (ha : a.In w (· < w.heap.size)) (hb : b.In w (· < w.heap.size)) :
    Calls Tryd.prog 4 #[a.val, b.val] w fun e w' => e = .returned (.bool true) ∧ Below w.heap.size w w' := by
  rw [VT.val_eq, VT.val_eq]
  have HT := Lib.hid hT
  have HA := Lib.hid (fun (W : World) (h : MX W) => alive_c W h)
  have HBX := Lib.hid (two_boxes w a b)
  have HW0 : Hid (Bel w ((w.alloc (.cells #[.int .i64 a.k, .string a.s, .int .i64 a.n, .bool a.b, .slice a.A a.xs.length a.c, .slice a.F a.vs.length a.d] 34)).alloc (.cells #[.int .i64 b.k, .string b.s, .int .i64 b.n, .bool b.b, .slice b.A b.xs.length b.c, .slice b.F b.vs.length b.d] 34))) := Lib.hid ((Bel.alloc _ _).trans (Bel.alloc _ _))
  have HTA : Hid (∀ W, Bel w W → Calls Tryd.prog 15 #[.agg #[.int .i64 a.k, .string a.s, .int .i64 a.n, .bool a.b, .slice a.A a.xs.length a.c, .slice a.F a.vs.length a.d]] W fun e w' => ∃ r : Int, 0 ≤ r ∧ r ≤ 1 ∧ e = .returned (.int .i64 r) ∧ Bel W w') := Lib.hid (fun W h => tooLarge_n a W (ha.bel h))
  have HTB : Hid (∀ W, Bel w W → Calls Tryd.prog 15 #[.agg #[.int .i64 b.k, .string b.s, .int .i64 b.n, .bool b.b, .slice b.A b.xs.length b.c, .slice b.F b.vs.length b.d]] W fun e w' => ∃ r : Int, 0 ≤ r ∧ r ≤ 1 ∧ e = .returned (.int .i64 r) ∧ Bel W w') := Lib.hid (fun W h => tooLarge_n b W (hb.bel h))
  have HTX : Hid (∀ W, Bel w W → Calls Tryd.prog 16 #[.agg #[.int .i64 a.k, .string a.s, .int .i64 a.n, .bool a.b, .slice a.A a.xs.length a.c, .slice a.F a.vs.length a.d]] W fun e w' => e = .returned (.tuple #[.string (textR a).1, .int .i64 (textR a).2]) ∧ Bel W w') := Lib.hid (fun W h => text_c a W (hP.bel h) (ha.bel h))
  have HRX : Hid (∀ W, Bel w W → Calls Tryd.prog 17 #[.agg #[.int .i64 a.k, .string a.s, .int .i64 a.n, .bool a.b, .slice a.A a.xs.length a.c, .slice a.F a.vs.length a.d]] W fun e w' => e = .returned (.tuple #[.string (textR a).1, .int .i64 (textR a).2]) ∧ Bel W w') := Lib.hid (fun W h => refText_c a W (ha.bel h))
  have HCK : Hid (∀ W, Bel w W → Calls Tryd.prog 18 #[.agg #[.int .i64 a.k, .string a.s, .int .i64 a.n, .bool a.b, .slice a.A a.xs.length a.c, .slice a.F a.vs.length a.d]] W (IntPost (VT.chk (SizeOf.sizeOf a + 1) a 1) W)) := Lib.hid (fun W h => Check_c a W (ha.bel h))
  have HRC : Hid (∀ W, Bel w W → Calls Tryd.prog 19 #[.agg #[.int .i64 a.k, .string a.s, .int .i64 a.n, .bool a.b, .slice a.A a.xs.length a.c, .slice a.F a.vs.length a.d]] W (IntPost (VT.chk (SizeOf.sizeOf a + 1) a 1) W)) := Lib.hid (fun W h => refCheck_c a W (ha.bel h))
  have HEQ : Hid (∀ W, Bel w W → Calls Tryd.prog 20 #[.agg #[.int .i64 a.k, .string a.s, .int .i64 a.n, .bool a.b, .slice a.A a.xs.length a.c, .slice a.F a.vs.length a.d], .agg #[.int .i64 b.k, .string b.s, .int .i64 b.n, .bool b.b, .slice b.A b.xs.length b.c, .slice b.F b.vs.length b.d]] W (EqPost (VT.eqv (SizeOf.sizeOf a + 1) a b) W)) := Lib.hid (fun W h => equalV_c _ a b W (by omega) (ha.bel h) (hb.bel h))
  have HRE : Hid (∀ W, Bel w W → Calls Tryd.prog 21 #[.agg #[.int .i64 a.k, .string a.s, .int .i64 a.n, .bool a.b, .slice a.A a.xs.length a.c, .slice a.F a.vs.length a.d], .agg #[.int .i64 b.k, .string b.s, .int .i64 b.n, .bool b.b, .slice b.A b.xs.length b.c, .slice b.F b.vs.length b.d]] W (EqPost (VT.eqv (SizeOf.sizeOf a + 1) a b) W)) := Lib.hid (fun W h => refEqual_c _ a b W (by omega) (ha.bel h) (hb.bel h))
  have HSM : Hid (∀ W, Bel w W → Calls Tryd.prog 20 #[.agg #[.int .i64 a.k, .string a.s, .int .i64 a.n, .bool a.b, .slice a.A a.xs.length a.c, .slice a.F a.vs.length a.d], .agg #[.int .i64 a.k, .string a.s, .int .i64 a.n, .bool a.b, .slice a.A a.xs.length a.c, .slice a.F a.vs.length a.d]] W (EqPost true W)) := Lib.hid (fun W h => by
    have := equalV_c (SizeOf.sizeOf a + 1) a a W (by omega) (ha.bel h) (ha.bel h)
    rw [VT.eqv_refl] at this
    exact this)
  clear hT hP ha hb
  generalize textR a = R at HTX HRX
  obtain ⟨ts, te⟩ := R
  generalize VT.chk (SizeOf.sizeOf a + 1) a 1 = c at HCK HRC
  generalize VT.eqv (SizeOf.sizeOf a + 1) a b = q at HEQ HRE
  simp only at HTX HRX
  have hs := str_eq (rfl : ts = ts)
  go_enter Tryd.func4, Tryd.ntmps4
  go_wp2_with (first | (go_at_call 15; (with_reducible refine (HTA.out _ HW0.out).mono ?_); rintro e w1 ⟨r, hr0, hr1, rfl, h⟩; have HB1 := Lib.hid (HW0.out.trans h); have HX1 := Lib.hid (And.intro (HBX.out.1.below h HBX.out.1.lt) (HBX.out.2.below h HBX.out.2.lt)); obtain ⟨b0, b1, b2, b3, b4, b5⟩ := cs_cells HX1.out.2; clear h) | (go_at_call 9; (with_reducible refine (HA.out w1 (HT.out.bel HB1.out)).mono ?_); rintro e w3 ⟨rfl, h⟩; have HBR := Lib.hid (HB1.out.trans h); clear h) | (go_at_call 15; (with_reducible refine (HTB.out w1 HB1.out).mono ?_); rintro e w2 ⟨r2, hr2, hr3, rfl, h⟩; have HB2 := Lib.hid (HB1.out.trans h); have HX2 := Lib.hid (And.intro (HX1.out.1.below h HX1.out.1.lt) (HX1.out.2.below h HX1.out.2.lt)); clear b0 b1 b2 b3 b4 b5; obtain ⟨b0, b1, b2, b3, b4, b5⟩ := cs_cells HX2.out.1; clear h) | (go_at_call 9; (with_reducible refine (HA.out w2 (HT.out.bel HB2.out)).mono ?_); rintro e w3 ⟨rfl, h⟩; have HBR := Lib.hid (HB2.out.trans h); clear h) | (go_at_call 16; (with_reducible refine (HTX.out w2 HB2.out).mono ?_); rintro e w3 ⟨rfl, h⟩; have HB3 := Lib.hid (HB2.out.trans h); have HX3 := Lib.hid (And.intro (HX2.out.1.below h HX2.out.1.lt) (HX2.out.2.below h HX2.out.2.lt)); clear b0 b1 b2 b3 b4 b5; obtain ⟨b0, b1, b2, b3, b4, b5⟩ := cs_cells HX3.out.1; clear h) | (go_at_call 17; (with_reducible refine (HRX.out w3 HB3.out).mono ?_); rintro e w4 ⟨rfl, h⟩; have HB4 := Lib.hid (HB3.out.trans h); have HX4 := Lib.hid (And.intro (HX3.out.1.below h HX3.out.1.lt) (HX3.out.2.below h HX3.out.2.lt)); clear b0 b1 b2 b3 b4 b5 h))
  all_goals first
    | (go_ret; exact ⟨rfl, HBR.out⟩)
    | (
      refine region_begin (T := []) (by kernel_rfl) ?_
      refine region_call 0 (by kernel_rfl) rfl (by rfl) (by go_simp; exact ⟨rfl, rfl⟩) ?_
      refine (HA.out _ (HT.out.bel (HB4.out.trans (Bel.drew w4)))).mono ?_
      rintro e w5 ⟨rfl, h⟩
      refine ⟨_, rfl, bel_only h, ?_⟩
      have HB5 := Lib.hid (HB4.out.trans ((Bel.drew w4).trans h))
      have HX5 := Lib.hid (And.intro (HX4.out.1.drew.below h HX4.out.1.drew.lt) (HX4.out.2.drew.below h HX4.out.2.drew.lt))
      clear h
      simp only [List.getElem_toArray, List.getElem_cons_zero, List.getElem_cons_succ, Act.put, List.setIfInBounds_toArray, List.set_cons_zero, List.set_cons_succ]
      have fa0 : ∀ X : Later [] w5, X.w.cell? ⟨w.heap.size, 0, none⟩ = some (.int .i64 a.k) := fun X => (only_cell X.h HX5.out.1.lt (by simp)).trans (HX5.out.1.cell 0)
      have fa1 : ∀ X : Later [] w5, X.w.cell? ⟨w.heap.size, 1, none⟩ = some (.string a.s) := fun X => (only_cell X.h HX5.out.1.lt (by simp)).trans (HX5.out.1.cell 1)
      have fa2 : ∀ X : Later [] w5, X.w.cell? ⟨w.heap.size, 2, none⟩ = some (.int .i64 a.n) := fun X => (only_cell X.h HX5.out.1.lt (by simp)).trans (HX5.out.1.cell 2)
      have fa3 : ∀ X : Later [] w5, X.w.cell? ⟨w.heap.size, 3, none⟩ = some (.bool a.b) := fun X => (only_cell X.h HX5.out.1.lt (by simp)).trans (HX5.out.1.cell 3)
      have fa4 : ∀ X : Later [] w5, X.w.cell? ⟨w.heap.size, 4, none⟩ = some (.slice a.A a.xs.length a.c) := fun X => (only_cell X.h HX5.out.1.lt (by simp)).trans (HX5.out.1.cell 4)
      have fa5 : ∀ X : Later [] w5, X.w.cell? ⟨w.heap.size, 5, none⟩ = some (.slice a.F a.vs.length a.d) := fun X => (only_cell X.h HX5.out.1.lt (by simp)).trans (HX5.out.1.cell 5)
      have fb0 : ∀ X : Later [] w5, X.w.cell? ⟨w.heap.size + 1, 0, none⟩ = some (.int .i64 b.k) := fun X => (only_cell X.h HX5.out.2.lt (by simp)).trans (HX5.out.2.cell 0)
      have fb1 : ∀ X : Later [] w5, X.w.cell? ⟨w.heap.size + 1, 1, none⟩ = some (.string b.s) := fun X => (only_cell X.h HX5.out.2.lt (by simp)).trans (HX5.out.2.cell 1)
      have fb2 : ∀ X : Later [] w5, X.w.cell? ⟨w.heap.size + 1, 2, none⟩ = some (.int .i64 b.n) := fun X => (only_cell X.h HX5.out.2.lt (by simp)).trans (HX5.out.2.cell 2)
      have fb3 : ∀ X : Later [] w5, X.w.cell? ⟨w.heap.size + 1, 3, none⟩ = some (.bool b.b) := fun X => (only_cell X.h HX5.out.2.lt (by simp)).trans (HX5.out.2.cell 3)
      have fb4 : ∀ X : Later [] w5, X.w.cell? ⟨w.heap.size + 1, 4, none⟩ = some (.slice b.A b.xs.length b.c) := fun X => (only_cell X.h HX5.out.2.lt (by simp)).trans (HX5.out.2.cell 4)
      have fb5 : ∀ X : Later [] w5, X.w.cell? ⟨w.heap.size + 1, 5, none⟩ = some (.slice b.F b.vs.length b.d) := fun X => (only_cell X.h HX5.out.2.lt (by simp)).trans (HX5.out.2.cell 5)
      refine region_seg [false, true, true, false, true] 29 (by kernel_rfl) (by kernel_rfl) (by kernel_rfl) rfl (fun _ _ d _ _ h => by cases d <;> exact h) ?_
      repeat (first | with_reducible refine wpMask_pass ?_ | (refine wpMask_want (by rfl) (fun K hK => ?_); go_big_quiet_op; refine hK _ ?_; clear hK K))
      with_reducible refine wpMask_nil ?_
      clear fa0 fa1 fa2 fa3 fa4 fa5 fb0 fb1 fb2 fb3 fb4 fb5
      refine region_call 3 (by kernel_rfl) rfl (by rfl) (by go_simp; exact ⟨rfl, rfl⟩) ?_
      refine (HCK.out w5 HB5.out).mono ?_
      rintro e w6 ⟨rfl, h⟩
      refine ⟨_, rfl, bel_only h, ?_⟩
      have HB6 := Lib.hid (HB5.out.trans h)
      have HX6 := Lib.hid (And.intro (HX5.out.1.below h HX5.out.1.lt) (HX5.out.2.below h HX5.out.2.lt))
      clear h
      simp only [List.getElem_toArray, List.getElem_cons_zero, List.getElem_cons_succ, Act.put, List.setIfInBounds_toArray, List.set_cons_zero, List.set_cons_succ]
      refine region_call 5 (by kernel_rfl) rfl (by rfl) (by go_simp; exact ⟨rfl, rfl⟩) ?_
      refine (HRC.out w6 HB6.out).mono ?_
      rintro e w7 ⟨rfl, h⟩
      refine ⟨_, rfl, bel_only h, ?_⟩
      have HB7 := Lib.hid (HB6.out.trans h)
      have HX7 := Lib.hid (And.intro (HX6.out.1.below h HX6.out.1.lt) (HX6.out.2.below h HX6.out.2.lt))
      clear h
      simp only [List.getElem_toArray, List.getElem_cons_zero, List.getElem_cons_succ, Act.put, List.setIfInBounds_toArray, List.set_cons_zero, List.set_cons_succ]
      have fa0 : ∀ X : Later [] w7, X.w.cell? ⟨w.heap.size, 0, none⟩ = some (.int .i64 a.k) := fun X => (only_cell X.h HX7.out.1.lt (by simp)).trans (HX7.out.1.cell 0)
      have fa1 : ∀ X : Later [] w7, X.w.cell? ⟨w.heap.size, 1, none⟩ = some (.string a.s) := fun X => (only_cell X.h HX7.out.1.lt (by simp)).trans (HX7.out.1.cell 1)
      have fa2 : ∀ X : Later [] w7, X.w.cell? ⟨w.heap.size, 2, none⟩ = some (.int .i64 a.n) := fun X => (only_cell X.h HX7.out.1.lt (by simp)).trans (HX7.out.1.cell 2)
      have fa3 : ∀ X : Later [] w7, X.w.cell? ⟨w.heap.size, 3, none⟩ = some (.bool a.b) := fun X => (only_cell X.h HX7.out.1.lt (by simp)).trans (HX7.out.1.cell 3)
      have fa4 : ∀ X : Later [] w7, X.w.cell? ⟨w.heap.size, 4, none⟩ = some (.slice a.A a.xs.length a.c) := fun X => (only_cell X.h HX7.out.1.lt (by simp)).trans (HX7.out.1.cell 4)
      have fa5 : ∀ X : Later [] w7, X.w.cell? ⟨w.heap.size, 5, none⟩ = some (.slice a.F a.vs.length a.d) := fun X => (only_cell X.h HX7.out.1.lt (by simp)).trans (HX7.out.1.cell 5)
      have fb0 : ∀ X : Later [] w7, X.w.cell? ⟨w.heap.size + 1, 0, none⟩ = some (.int .i64 b.k) := fun X => (only_cell X.h HX7.out.2.lt (by simp)).trans (HX7.out.2.cell 0)
      have fb1 : ∀ X : Later [] w7, X.w.cell? ⟨w.heap.size + 1, 1, none⟩ = some (.string b.s) := fun X => (only_cell X.h HX7.out.2.lt (by simp)).trans (HX7.out.2.cell 1)
      have fb2 : ∀ X : Later [] w7, X.w.cell? ⟨w.heap.size + 1, 2, none⟩ = some (.int .i64 b.n) := fun X => (only_cell X.h HX7.out.2.lt (by simp)).trans (HX7.out.2.cell 2)
      have fb3 : ∀ X : Later [] w7, X.w.cell? ⟨w.heap.size + 1, 3, none⟩ = some (.bool b.b) := fun X => (only_cell X.h HX7.out.2.lt (by simp)).trans (HX7.out.2.cell 3)
      have fb4 : ∀ X : Later [] w7, X.w.cell? ⟨w.heap.size + 1, 4, none⟩ = some (.slice b.A b.xs.length b.c) := fun X => (only_cell X.h HX7.out.2.lt (by simp)).trans (HX7.out.2.cell 4)
      have fb5 : ∀ X : Later [] w7, X.w.cell? ⟨w.heap.size + 1, 5, none⟩ = some (.slice b.F b.vs.length b.d) := fun X => (only_cell X.h HX7.out.2.lt (by simp)).trans (HX7.out.2.cell 5)
      refine region_seg [false, false, false, false, false, false, true, true, true, true, true, false, true, true] 20 (by kernel_rfl) (by kernel_rfl) (by kernel_rfl) rfl (fun _ _ d _ _ h => by cases d <;> exact h) ?_
      repeat (first | with_reducible refine wpMask_pass ?_ | (refine wpMask_want (by rfl) (fun K hK => ?_); go_big_quiet_op; refine hK _ ?_; clear hK K))
      with_reducible refine wpMask_nil ?_
      clear fa0 fa1 fa2 fa3 fa4 fa5 fb0 fb1 fb2 fb3 fb4 fb5
      refine region_call 11 (by kernel_rfl) rfl (by rfl) (by go_simp; exact ⟨rfl, rfl⟩) ?_
      refine (HEQ.out w7 HB7.out).mono ?_
      rintro e w8 ⟨rfl, h⟩
      refine ⟨_, rfl, bel_only h, ?_⟩
      have HB8 := Lib.hid (HB7.out.trans h)
      have HX8 := Lib.hid (And.intro (HX7.out.1.below h HX7.out.1.lt) (HX7.out.2.below h HX7.out.2.lt))
      clear h
      simp only [List.getElem_toArray, List.getElem_cons_zero, List.getElem_cons_succ, Act.put, List.setIfInBounds_toArray, List.set_cons_zero, List.set_cons_succ]
      refine region_call 14 (by kernel_rfl) rfl (by rfl) (by go_simp; exact ⟨rfl, rfl⟩) ?_
      refine (HRE.out w8 HB8.out).mono ?_
      rintro e w9 ⟨rfl, h⟩
      refine ⟨_, rfl, bel_only h, ?_⟩
      have HB9 := Lib.hid (HB8.out.trans h)
      have HX9 := Lib.hid (And.intro (HX8.out.1.below h HX8.out.1.lt) (HX8.out.2.below h HX8.out.2.lt))
      clear h
      simp only [List.getElem_toArray, List.getElem_cons_zero, List.getElem_cons_succ, Act.put, List.setIfInBounds_toArray, List.set_cons_zero, List.set_cons_succ]
      have fa0 : ∀ X : Later [] w9, X.w.cell? ⟨w.heap.size, 0, none⟩ = some (.int .i64 a.k) := fun X => (only_cell X.h HX9.out.1.lt (by simp)).trans (HX9.out.1.cell 0)
      have fa1 : ∀ X : Later [] w9, X.w.cell? ⟨w.heap.size, 1, none⟩ = some (.string a.s) := fun X => (only_cell X.h HX9.out.1.lt (by simp)).trans (HX9.out.1.cell 1)
      have fa2 : ∀ X : Later [] w9, X.w.cell? ⟨w.heap.size, 2, none⟩ = some (.int .i64 a.n) := fun X => (only_cell X.h HX9.out.1.lt (by simp)).trans (HX9.out.1.cell 2)
      have fa3 : ∀ X : Later [] w9, X.w.cell? ⟨w.heap.size, 3, none⟩ = some (.bool a.b) := fun X => (only_cell X.h HX9.out.1.lt (by simp)).trans (HX9.out.1.cell 3)
      have fa4 : ∀ X : Later [] w9, X.w.cell? ⟨w.heap.size, 4, none⟩ = some (.slice a.A a.xs.length a.c) := fun X => (only_cell X.h HX9.out.1.lt (by simp)).trans (HX9.out.1.cell 4)
      have fa5 : ∀ X : Later [] w9, X.w.cell? ⟨w.heap.size, 5, none⟩ = some (.slice a.F a.vs.length a.d) := fun X => (only_cell X.h HX9.out.1.lt (by simp)).trans (HX9.out.1.cell 5)
      have fb0 : ∀ X : Later [] w9, X.w.cell? ⟨w.heap.size + 1, 0, none⟩ = some (.int .i64 b.k) := fun X => (only_cell X.h HX9.out.2.lt (by simp)).trans (HX9.out.2.cell 0)
      have fb1 : ∀ X : Later [] w9, X.w.cell? ⟨w.heap.size + 1, 1, none⟩ = some (.string b.s) := fun X => (only_cell X.h HX9.out.2.lt (by simp)).trans (HX9.out.2.cell 1)
      have fb2 : ∀ X : Later [] w9, X.w.cell? ⟨w.heap.size + 1, 2, none⟩ = some (.int .i64 b.n) := fun X => (only_cell X.h HX9.out.2.lt (by simp)).trans (HX9.out.2.cell 2)
      have fb3 : ∀ X : Later [] w9, X.w.cell? ⟨w.heap.size + 1, 3, none⟩ = some (.bool b.b) := fun X => (only_cell X.h HX9.out.2.lt (by simp)).trans (HX9.out.2.cell 3)
      have fb4 : ∀ X : Later [] w9, X.w.cell? ⟨w.heap.size + 1, 4, none⟩ = some (.slice b.A b.xs.length b.c) := fun X => (only_cell X.h HX9.out.2.lt (by simp)).trans (HX9.out.2.cell 4)
      have fb5 : ∀ X : Later [] w9, X.w.cell? ⟨w.heap.size + 1, 5, none⟩ = some (.slice b.F b.vs.length b.d) := fun X => (only_cell X.h HX9.out.2.lt (by simp)).trans (HX9.out.2.cell 5)
      refine region_seg [false, false, false, false, false, false, false, false, false, false, false, false, false, false, false, true, true, true, true, true] 13 (by kernel_rfl) (by kernel_rfl) (by kernel_rfl) rfl (fun _ _ d _ _ h => by cases d <;> exact h) ?_
      repeat (first | with_reducible refine wpMask_pass ?_ | (refine wpMask_want (by rfl) (fun K hK => ?_); go_big_quiet_op; refine hK _ ?_; clear hK K))
      with_reducible refine wpMask_nil ?_
      clear fa0 fa1 fa2 fa3 fa4 fa5 fb0 fb1 fb2 fb3 fb4 fb5
      refine region_call 20 (by kernel_rfl) rfl (by rfl) (by go_simp; exact ⟨rfl, rfl⟩) ?_
      refine (HSM.out w9 HB9.out).mono ?_
      rintro e w10 ⟨rfl, h⟩
      refine ⟨_, rfl, bel_only h, ?_⟩
      have HB10 := Lib.hid (HB9.out.trans h)
      have HX10 := Lib.hid (And.intro (HX9.out.1.below h HX9.out.1.lt) (HX9.out.2.below h HX9.out.2.lt))
      clear h
      simp only [List.getElem_toArray, List.getElem_cons_zero, List.getElem_cons_succ, Act.put, List.setIfInBounds_toArray, List.set_cons_zero, List.set_cons_succ]
      refine region_seg [false, false, false, false, false, false, false, false, false, false, false, false, false, false, false, false, false, false, false, false, false, true, true, true, true, true, true, true, true, true, true, true, true] 0 (by kernel_rfl) (by kernel_rfl) (by kernel_rfl) rfl (fun _ _ d _ _ h => by cases d <;> exact h) ?_
      repeat (first | with_reducible refine wpMask_pass ?_ | (refine wpMask_want (by rfl) (fun K hK => ?_); go_big_quiet_op; refine hK _ ?_; clear hK K))
      with_reducible refine wpMask_nil ?_
      refine region_end (by kernel_rfl) ?_
      go_wp2_with fail
      go_ret
      exact ⟨rfl, HB10.out⟩)
end Go.Proofs.YtmgnomahnndeaaaDoor
