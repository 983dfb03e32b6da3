/-
  The law ValueConversion, walked.
-/
import Derived.Test.YtmgnomahnndeaaaDoorLookLaw
import Derived.Test.YtmgnomahnndeaaaDoorRej9
import Derived.Test.YtmgnomahnndeaaaDoorSoC9
namespace Go.Proofs.YtmgnomahnndeaaaDoor
open Go.RowKit Go.BigFrame
set_option linter.unusedVariables false
set_option linter.unusedSimpArgs false

set_option maxRecDepth 100000 in
set_option maxHeartbeats 6400000 in
theorem convLaw (t : VT) (w : World) (hT : MX w) (ht : t.In w (· < w.heap.size)) :
    Calls Tryd.prog 7 #[t.val] w fun e w' => e = .returned (.bool true) ∧ Below w.heap.size w w' := by
  rw [VT.val_eq]
  have HT := Lib.hid hT
  have HI := Lib.hid ht
  have HA := Lib.hid (fun (W : World) (h : MX W) => alive_c W h)
  have HBX := Lib.hid (Blk.new w 34 t.cs)
  have HW0 : Hid (Bel w (w.alloc (.cells #[.int .i64 t.k, .string t.s, .int .i64 t.n, .bool t.b, .slice t.A t.xs.length t.c, .slice t.F t.vs.length t.d] 34))) := Lib.hid (Bel.alloc _ _)
  have HTL : Hid (∀ W, Bel w W → Calls Tryd.prog 15 #[.agg #[.int .i64 t.k, .string t.s, .int .i64 t.n, .bool t.b, .slice t.A t.xs.length t.c, .slice t.F t.vs.length t.d]] W fun e w' => ∃ r : Int, 0 ≤ r ∧ r ≤ 1 ∧ e = .returned (.int .i64 r) ∧ Bel W w') := Lib.hid (fun W h => tooLarge_n t W (ht.bel h))
  have HCK : Hid (∀ W, Bel w W → Calls Tryd.prog 18 #[.agg #[.int .i64 t.k, .string t.s, .int .i64 t.n, .bool t.b, .slice t.A t.xs.length t.c, .slice t.F t.vs.length t.d]] W (IntPost (VT.chk (SizeOf.sizeOf t + 1) t 1) W)) := Lib.hid (fun W h => Check_c t W (ht.bel h))
  by_cases hc : VT.chk (SizeOf.sizeOf t + 1) t 1 = 0
  · have hok := (chk_zero _ t 1 w _ (by omega) ht).1 hc
    rw [hc] at HCK
    have HTO : Hid (∀ W, Bel w W → Calls Tryd.prog 25 #[.agg #[.int .i64 t.k, .string t.s, .int .i64 t.n, .bool t.b, .slice t.A t.xs.length t.c, .slice t.F t.vs.length t.d]] W (ToR 32 t W)) := Lib.hid (fun W h => To_c 32 t 1 (by omega) hok W (ht.bel h))
    have HSO : Hid (∀ W, Bel w W → Calls Tryd.prog 26 #[.agg #[.int .i64 t.k, .string t.s, .int .i64 t.n, .bool t.b, .slice t.A t.xs.length t.c, .slice t.F t.vs.length t.d]] W (SoR t W)) := Lib.hid (fun W h => Sorted_c 32 t 1 (by omega) hok W (ht.bel h))
    have HOK := Lib.hid (PV.sort_ok _ _ hok)
    clear hT ht hc hok
    go_enter Tryd.func7, Tryd.ntmps7
    go_wp2_with (first | (go_at_call 15; (with_reducible refine (HTL.out _ HW0.out).mono ?_); rintro e w1 ⟨r, hr0, hr1, rfl, h⟩; have HB1 := Lib.hid (HW0.out.trans h); have HX1 := Lib.hid (HBX.out.below h HBX.out.lt); obtain ⟨b0, b1, b2, b3, b4, b5⟩ := cs_cells HX1.out; clear h) | (go_at_call 9; (with_reducible refine (HA.out w1 (HT.out.bel HB1.out)).mono ?_); rintro e w3 ⟨rfl, h⟩; have HBR := Lib.hid (HB1.out.trans h); clear h) | (go_at_call 18; (with_reducible refine (HCK.out w1 HB1.out).mono ?_); rintro e w2 ⟨rfl, h⟩; have HB2 := Lib.hid (HB1.out.trans h); have HX2 := Lib.hid (HX1.out.below h HX1.out.lt); clear b0 b1 b2 b3 b4 b5; obtain ⟨b0, b1, b2, b3, b4, b5⟩ := cs_cells HX2.out; clear h) | (go_at_call 25; (with_reducible refine (HTO.out w2 HB2.out).mono ?_); rintro e w3 ⟨a, rfl, h, ha, hh, hcv⟩; have HB3 := Lib.hid (HB2.out.trans h); have HX3 := Lib.hid (HX2.out.below h HX2.out.lt); have HFC := Lib.hid (from_ok a 32 (by omega) hh w3 (ha.only (Only.refl [] _) (fun g hg => ⟨by simp, hg.2⟩) (fun g hg => hg.2)) _ hcv HOK.out); generalize a.val = va at HFC ⊢; clear h ha hh hcv b0 b1 b2 b3 b4 b5) | (go_at_call 24; (with_reducible refine HFC.out.mono ?_); rintro e w4 ⟨u, rfl, h, hu, hpl⟩; have HB4 := Lib.hid (HB3.out.trans (h.trans (Bel.alloc w4 (.cells #[.int .i64 u.k, .string u.s, .int .i64 u.n, .bool u.b, .slice u.A u.xs.length u.c, .slice u.F u.vs.length u.d] 34)))); have HX4 := Lib.hid ((HX3.out.below h HX3.out.lt).alloc (.cells #[.int .i64 u.k, .string u.s, .int .i64 u.n, .bool u.b, .slice u.A u.xs.length u.c, .slice u.F u.vs.length u.d] 34)); have HU4 : Hid (Blk (w4.alloc (.cells #[.int .i64 u.k, .string u.s, .int .i64 u.n, .bool u.b, .slice u.A u.xs.length u.c, .slice u.F u.vs.length u.d] 34)) w4.heap.size 34 u.cs) := Lib.hid (Blk.new w4 34 u.cs); have HUI := Lib.hid (VT.In.bel (hu.same (Q' := (· < w4.heap.size)) (fun g hg => hg.2) (fun _ _ _ => rfl)) (Bel.alloc w4 (.cells #[.int .i64 u.k, .string u.s, .int .i64 u.n, .bool u.b, .slice u.A u.xs.length u.c, .slice u.F u.vs.length u.d] 34))); have HPL := Lib.hid hpl; clear h hu hpl))
    all_goals first
    | (go_ret; exact ⟨rfl, HBR.out⟩)
    | (
      refine region_begin (T := []) (by kernel_rfl) ?_
      have HB5 := Lib.hid (HB4.out.trans (Bel.drew _))
      have HX5 := Lib.hid HX4.out.drew
      have HU5 := Lib.hid HU4.out.drew
      have HI5 := Lib.hid (HUI.out.bel (Bel.drew _))
      obtain ⟨gu, hgu⟩ : ∃ g, g = w4.heap.size := ⟨_, rfl⟩
      rw [← hgu] at HU5 ⊢
      clear hgu
      generalize (w4.alloc (.cells #[.int .i64 u.k, .string u.s, .int .i64 u.n, .bool u.b, .slice u.A u.xs.length u.c, .slice u.F u.vs.length u.d] 34)).drew = w5 at HB5 HX5 HU5 HI5 ⊢
      refine region_call 0 (by kernel_rfl) rfl (by rfl) (by go_simp; exact ⟨rfl, rfl⟩) ?_
      refine (HA.out w5 (HT.out.bel HB5.out)).mono ?_
      rintro e w6 ⟨rfl, h⟩
      refine ⟨_, rfl, bel_only h, ?_⟩
      have HB6 := Lib.hid (HB5.out.trans h)
      have HX6 := Lib.hid (HX5.out.below h HX5.out.lt)
      have HU6 := Lib.hid (HU5.out.below h HU5.out.lt)
      have HI6 := Lib.hid (HI5.out.bel h)
      clear h
      simp only [List.getElem_toArray, List.getElem_cons_zero, List.getElem_cons_succ, Act.put, List.setIfInBounds_toArray, List.set_cons_zero, List.set_cons_succ]
      have ft0 : ∀ X : Later [] w6, X.w.cell? ⟨w.heap.size, 0, none⟩ = some (.int .i64 t.k) := fun X => (only_cell X.h HX6.out.lt (by simp)).trans (HX6.out.cell 0)
      have ft1 : ∀ X : Later [] w6, X.w.cell? ⟨w.heap.size, 1, none⟩ = some (.string t.s) := fun X => (only_cell X.h HX6.out.lt (by simp)).trans (HX6.out.cell 1)
      have ft2 : ∀ X : Later [] w6, X.w.cell? ⟨w.heap.size, 2, none⟩ = some (.int .i64 t.n) := fun X => (only_cell X.h HX6.out.lt (by simp)).trans (HX6.out.cell 2)
      have ft3 : ∀ X : Later [] w6, X.w.cell? ⟨w.heap.size, 3, none⟩ = some (.bool t.b) := fun X => (only_cell X.h HX6.out.lt (by simp)).trans (HX6.out.cell 3)
      have ft4 : ∀ X : Later [] w6, X.w.cell? ⟨w.heap.size, 4, none⟩ = some (.slice t.A t.xs.length t.c) := fun X => (only_cell X.h HX6.out.lt (by simp)).trans (HX6.out.cell 4)
      have ft5 : ∀ X : Later [] w6, X.w.cell? ⟨w.heap.size, 5, none⟩ = some (.slice t.F t.vs.length t.d) := fun X => (only_cell X.h HX6.out.lt (by simp)).trans (HX6.out.cell 5)
      have fu0 : ∀ X : Later [] w6, X.w.cell? ⟨gu, 0, none⟩ = some (.int .i64 u.k) := fun X => (only_cell X.h HU6.out.lt (by simp)).trans (HU6.out.cell 0)
      have fu1 : ∀ X : Later [] w6, X.w.cell? ⟨gu, 1, none⟩ = some (.string u.s) := fun X => (only_cell X.h HU6.out.lt (by simp)).trans (HU6.out.cell 1)
      have fu2 : ∀ X : Later [] w6, X.w.cell? ⟨gu, 2, none⟩ = some (.int .i64 u.n) := fun X => (only_cell X.h HU6.out.lt (by simp)).trans (HU6.out.cell 2)
      have fu3 : ∀ X : Later [] w6, X.w.cell? ⟨gu, 3, none⟩ = some (.bool u.b) := fun X => (only_cell X.h HU6.out.lt (by simp)).trans (HU6.out.cell 3)
      have fu4 : ∀ X : Later [] w6, X.w.cell? ⟨gu, 4, none⟩ = some (.slice u.A u.xs.length u.c) := fun X => (only_cell X.h HU6.out.lt (by simp)).trans (HU6.out.cell 4)
      have fu5 : ∀ X : Later [] w6, X.w.cell? ⟨gu, 5, none⟩ = some (.slice u.F u.vs.length u.d) := fun X => (only_cell X.h HU6.out.lt (by simp)).trans (HU6.out.cell 5)
      refine region_seg [false, true, true, true, true, true, true, true] 9 (by kernel_rfl) (by kernel_rfl) (by kernel_rfl) rfl (fun _ _ d _ _ h => by cases d <;> exact h) ?_
      repeat (first | with_reducible refine wpMask_pass ?_ | (refine wpMask_want (by rfl) (fun K hK => ?_); go_big_quiet_op; refine hK _ ?_; clear hK K))
      with_reducible refine wpMask_nil ?_
      clear ft0 ft1 ft2 ft3 ft4 ft5 fu0 fu1 fu2 fu3 fu4 fu5
      refine region_call 8 (by kernel_rfl) rfl (by rfl) (by go_simp; exact ⟨rfl, rfl⟩) ?_
      refine (HSO.out w6 HB6.out).mono ?_
      rintro e w7 ⟨s, rfl, h, hs, hps⟩
      refine ⟨_, rfl, bel_only h, ?_⟩
      have HB7 := Lib.hid (HB6.out.trans h)
      have HU7 := Lib.hid (HU6.out.below h HU6.out.lt)
      have HI7 := Lib.hid (HI6.out.bel h)
      have HEQ : Hid (Calls Tryd.prog 21 #[.agg #[.int .i64 u.k, .string u.s, .int .i64 u.n, .bool u.b, .slice u.A u.xs.length u.c, .slice u.F u.vs.length u.d], .agg #[.int .i64 s.k, .string s.s, .int .i64 s.n, .bool s.b, .slice s.A s.xs.length s.c, .slice s.F s.vs.length s.d]] w7 (EqPost true w7)) := Lib.hid (by
        have h1 := refEqual_c (SizeOf.sizeOf u + 1) u s w7 (by omega) HI7.out (hs.same (fun g hg => hg.2) (fun _ _ _ => rfl))
        rwa [VT.eqv_of_plain _ u s (HPL.out.trans hps.symm), VT.val_eq, VT.val_eq] at h1)
      clear h hs hps
      simp only [List.getElem_toArray, List.getElem_cons_zero, List.getElem_cons_succ, Act.put, List.setIfInBounds_toArray, List.set_cons_zero, List.set_cons_succ]
      refine region_call 9 (by kernel_rfl) rfl (by rfl) (by go_simp; exact ⟨rfl, rfl⟩) ?_
      refine HEQ.out.mono ?_
      rintro e w8 ⟨rfl, h⟩
      refine ⟨_, rfl, bel_only h, ?_⟩
      have HB8 := Lib.hid (HB7.out.trans h)
      have HU8 := Lib.hid (HU7.out.below h HU7.out.lt)
      have HI8 := Lib.hid (HI7.out.bel h)
      have HCU : Hid (Calls Tryd.prog 18 #[.agg #[.int .i64 u.k, .string u.s, .int .i64 u.n, .bool u.b, .slice u.A u.xs.length u.c, .slice u.F u.vs.length u.d]] w8 (IntPost 0 w8)) := Lib.hid (by
        have h1 := Check_c u w8 HI8.out
        rwa [show VT.chk (SizeOf.sizeOf u + 1) u 1 = 0 from (chk_zero _ u 1 w8 _ (by omega) HI8.out).2 (by rw [HPL.out]; exact HOK.out), VT.val_eq] at h1)
      clear h
      simp only [List.getElem_toArray, List.getElem_cons_zero, List.getElem_cons_succ, Act.put, List.setIfInBounds_toArray, List.set_cons_zero, List.set_cons_succ]
      have fu0 : ∀ X : Later [] w8, X.w.cell? ⟨gu, 0, none⟩ = some (.int .i64 u.k) := fun X => (only_cell X.h HU8.out.lt (by simp)).trans (HU8.out.cell 0)
      have fu1 : ∀ X : Later [] w8, X.w.cell? ⟨gu, 1, none⟩ = some (.string u.s) := fun X => (only_cell X.h HU8.out.lt (by simp)).trans (HU8.out.cell 1)
      have fu2 : ∀ X : Later [] w8, X.w.cell? ⟨gu, 2, none⟩ = some (.int .i64 u.n) := fun X => (only_cell X.h HU8.out.lt (by simp)).trans (HU8.out.cell 2)
      have fu3 : ∀ X : Later [] w8, X.w.cell? ⟨gu, 3, none⟩ = some (.bool u.b) := fun X => (only_cell X.h HU8.out.lt (by simp)).trans (HU8.out.cell 3)
      have fu4 : ∀ X : Later [] w8, X.w.cell? ⟨gu, 4, none⟩ = some (.slice u.A u.xs.length u.c) := fun X => (only_cell X.h HU8.out.lt (by simp)).trans (HU8.out.cell 4)
      have fu5 : ∀ X : Later [] w8, X.w.cell? ⟨gu, 5, none⟩ = some (.slice u.F u.vs.length u.d) := fun X => (only_cell X.h HU8.out.lt (by simp)).trans (HU8.out.cell 5)
      refine region_seg [false, false, false, false, false, false, false, false, false, false, true, true, true] 4 (by kernel_rfl) (by kernel_rfl) (by kernel_rfl) rfl (fun _ _ d _ _ h => by cases d <;> exact h) ?_
      repeat (first | with_reducible refine wpMask_pass ?_ | (refine wpMask_want (by rfl) (fun K hK => ?_); go_big_quiet_op; refine hK _ ?_; clear hK K))
      with_reducible refine wpMask_nil ?_
      clear fu0 fu1 fu2 fu3 fu4 fu5
      refine region_call 13 (by kernel_rfl) rfl (by rfl) (by go_simp; exact ⟨rfl, rfl⟩) ?_
      refine HCU.out.mono ?_
      rintro e w9 ⟨rfl, h⟩
      refine ⟨_, rfl, bel_only h, ?_⟩
      have HB9 := Lib.hid (HB8.out.trans h)
      clear h
      simp only [List.getElem_toArray, List.getElem_cons_zero, List.getElem_cons_succ, Act.put, List.setIfInBounds_toArray, List.set_cons_zero, List.set_cons_succ]
      refine region_seg [false, false, false, false, false, false, false, false, false, false, false, false, false, false, true, true, true] 0 (by kernel_rfl) (by kernel_rfl) (by kernel_rfl) rfl (fun _ _ d _ _ h => by cases d <;> exact h) ?_
      repeat (first | with_reducible refine wpMask_pass ?_ | (refine wpMask_want (by rfl) (fun K hK => ?_); go_big_quiet_op; refine hK _ ?_; clear hK K))
      with_reducible refine wpMask_nil ?_
      refine region_end (by kernel_rfl) ?_
      go_wp2_with fail
      go_ret
      exact ⟨rfl, HB9.out⟩)
  · have hne : (VT.chk (SizeOf.sizeOf t + 1) t 1 != 0) = true := by simpa using hc
    clear hT ht hc
    generalize VT.chk (SizeOf.sizeOf t + 1) t 1 = c at HCK hne
    go_enter Tryd.func7, Tryd.ntmps7
    go_wp2_with (first | (go_at_call 15; (with_reducible refine (HTL.out _ HW0.out).mono ?_); rintro e w1 ⟨r, hr0, hr1, rfl, h⟩; have HB1 := Lib.hid (HW0.out.trans h); have HX1 := Lib.hid (HBX.out.below h HBX.out.lt); obtain ⟨b0, b1, b2, b3, b4, b5⟩ := cs_cells HX1.out; clear h) | (go_at_call 9; (with_reducible refine (HA.out w1 (HT.out.bel HB1.out)).mono ?_); rintro e w3 ⟨rfl, h⟩; have HBR := Lib.hid (HB1.out.trans h); clear h) | (go_at_call 18; (with_reducible refine (HCK.out w1 HB1.out).mono ?_); rintro e w2 ⟨rfl, h⟩; have HB2 := Lib.hid (HB1.out.trans h); clear b0 b1 b2 b3 b4 b5; clear h) | (go_at_call 9; (with_reducible refine (HA.out w2 (HT.out.bel HB2.out)).mono ?_); rintro e w3 ⟨rfl, h⟩; have HBR := Lib.hid (HB2.out.trans h); clear h))
    all_goals (go_ret; exact ⟨rfl, HBR.out⟩)
end Go.Proofs.YtmgnomahnndeaaaDoor
