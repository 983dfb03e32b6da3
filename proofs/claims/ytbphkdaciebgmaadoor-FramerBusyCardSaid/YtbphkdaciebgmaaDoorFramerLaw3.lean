/-
  The law FramerBusy, walked.
-/
import Derived.Test.YtbphkdaciebgmaaDoorFramerPair
namespace Go.Proofs.YtbphkdaciebgmaaDoor
open Go.RowKit Go.BigFrame
set_option linter.unusedVariables false
set_option linter.unusedSimpArgs false
attribute [local go_sem ↓] sliced_cut run_min2 run_max2
attribute [local go_sem] cutA_zero

set_option maxRecDepth 100000 in
set_option maxHeartbeats 4000000 in
theorem busy_walk (A : Option Addr) (n c : Nat) (l : List UInt8) (x : Int) (w : World) (hT : Tz w) (h : l.length = n ∧ n ≤ c ∧ c ≤ maxLen ∧ Reads w w.heap.size A n (vbs l)) (hx : (Lit.int .u8 x).wf = true) :
    Calls Tryd.prog 8 #[.slice A n c, .int .u8 x] w fun e w' => e = .returned (.bool true) ∧ Below w.heap.size w w' := by
  obtain ⟨hl, hnc, hcm, hr⟩ := h
  obtain ⟨hx0, hx1⟩ := wf_u8 hx
  have HT := Lib.hid hT
  have HR := Lib.hid hr
  have HL := Lib.hid hl
  have HN := Lib.hid (new_pair w (n := 65536) (by omega) (by omega))
  clear hT hr hl hx
  by_cases hbad : n = 0 ∨ 65536 < n
  · have h3 : n = 0 ∨ (¬ (n : Int) = 0 ∧ (65536 : Int) < (n : Int)) := by omega
    clear hbad
    rcases h3 with rfl | ⟨h1, h2⟩
    all_goals
      go_enter Tryd.func8, Tryd.ntmps8
      go_wp2_with (first | (go_at_call 15; refine HN.out.mono ?_; rintro e w1 ⟨rfl, hP1⟩; have HP1 := Lib.hid hP1; clear hP1) | (go_at_call 14; refine (alive_c (HT.out.below HP1.out.below (Nat.le_refl _))).mono ?_; rintro e w3 ⟨rfl, hO3⟩))
      go_ret
      exact ⟨rfl, Only.below HP1.out.below hO3 HP1.out.below.size (by simp)⟩
  · have g1 : ((n : Int) == 0) = false := by rw [beq_eq_false_iff_ne]; omega
    have g2 : decide ((65536 : Int) < (n : Int)) = false := by rw [decide_eq_false_iff_not]; omega
    have g3 : ((n : Int) == 0 || decide ((65536 : Int) < (n : Int))) = false := by rw [g1, g2]; rfl
    have hn65 : n ≤ 65536 := by omega
    have hn0 : 0 < n := by omega
    clear hbad
    go_enter Tryd.func8, Tryd.ntmps8
    go_wp2_with fail
    refine HN.out.mono ?_
    rintro e w1 ⟨rfl, hP1⟩
    have HS := Lib.hid (start_pair nil_thing hP1 HT.out ((HR.out.below hP1.below).more hP1.below.size) hnc hcm 0 _ (startS_ok (m := 65536) (l := l) (by rw [HL.out]; exact hn0) (by rw [HL.out]; exact hn65)))
    obtain ⟨ch, hch⟩ : ∃ ch, chunkOf l = ch := ⟨_, rfl⟩
    have hcl : ch.length ≤ 65545 := by rw [← hch]; have h1 := chunkOf_le (p := l) (by rw [HL.out]; exact hn65); have h2 := HL.out; omega
    have hcp : 0 < ch.length := by rw [← hch]; exact chunkOf_pos l
    rw [hch] at HS
    clear hP1 hch
    go_wp2_with fail
    refine HS.out.mono ?_
    rintro e w2 ⟨rfl, hP2⟩
    obtain ⟨L, hL⟩ : ∃ L, L = ch.length := ⟨_, rfl⟩
    have HPE := Lib.hid (pend_pair hP2 L hL)
    have HP2 := Lib.hid hP2
    rw [← hL] at hcl hcp
    have HLL := Lib.hid hL
    clear hP2 hL HS
    go_wp2_with fail
    refine HPE.out.mono ?_
    rintro e w3 ⟨G, gd, rfl, hG, hGk, hGO⟩
    have hP3 := pair_row (fr_thing _ _ _) HP2.out hG hGk hGO
    have hgd := hG.le
    have hgm := hG.max
    clear hG hGk hGO HPE
    have hmax : imax 1 (L : Int) = (L : Int) := by have := imax_spec 1 (L : Int); omega
    obtain ⟨k, hk⟩ : ∃ k : Nat, x % (L : Int) = (k : Int) := ⟨(x % (L : Int)).toNat, by have := Int.emod_nonneg x (show (L : Int) ≠ 0 by omega); omega⟩
    have hkL : k < L := by have := Int.emod_lt_of_pos x (show (0 : Int) < (L : Int) by omega); omega
    have hm1 : x.tmod (L : Int) = (k : Int) := by rw [Int.tmod_eq_emod_of_nonneg hx0]; exact hk
    have HA := Lib.hid (adv_pair (rw_thing _ _ _ _) hP3 (k : Int) 0 _ (advS_ok (m := 65536) (p := ch) (f := false) (k := k) (by rw [← HLL.out]; omega)))
    have HRW := Lib.hid hP3
    clear hP3
    go_wp2_with fail
    refine HA.out.mono ?_
    rintro e w4 ⟨rfl, hP4⟩
    obtain ⟨D, hD⟩ : ∃ D, D = ch.drop k := ⟨_, rfl⟩
    rw [← hD] at hP4
    have hDL : D.length + k = L := by rw [hD, List.length_drop, ← HLL.out]; omega
    have hDp : 0 < D.length := by omega
    have hP4a := hP4.quiet (fr_thing _ _ _) (rw_thing _ _ _ _) ((Only.refl [] w4).alloc (.cells #[.int .u8 1] 5))
    have HS2 := Lib.hid (start_pair (rw_thing _ _ _ _) hP4a HT.out (X := some ⟨w4.heap.size, 0, none⟩) (m := 1) (d := 1) (b := [1]) ((Reads.fresh w4 [1] #[.int .u8 1] rfl 5 (0, 0) (w4.heap.size + 1) (by omega)).more (by simp)) (Nat.le_refl _) (by unfold maxLen; omega) 4 _ (startS_busy hDp [1]))
    have HD := Lib.hid hD
    have HDL := Lib.hid hDL
    clear HA hP4 hP4a hD hDL
    go_wp2_with fail
    refine HS2.out.mono ?_
    rintro e w5 ⟨rfl, hP5⟩
    have HF2 := Lib.hid (finish_pair (rw_thing _ _ _ _) hP5 HT.out 4 _ (finishS_busy hDp))
    clear HS2 hP5
    go_wp2_with fail
    refine HF2.out.mono ?_
    rintro e w6 ⟨rfl, hP6⟩
    have HP6 := Lib.hid hP6
    clear HF2 hP6
    go_wp2_with fail
    refine (adv_pair (rw_thing _ _ _ _) HP6.out _ 3 _ (advS_bad (.inr ?_))).mono ?_
    · have := HDL.out
      simp only
      omega
    rintro e w7 ⟨rfl, hP7⟩
    have HP7 := Lib.hid hP7
    clear HP6 hP7
    go_wp2_with fail
    refine (adv_pair (rw_thing _ _ _ _) HP7.out _ 3 _ (advS_bad (.inl (by omega)))).mono ?_
    rintro e w8 ⟨rfl, hP8⟩
    have HP8 := Lib.hid hP8
    clear HP7 hP8
    go_wp2_with fail
    obtain ⟨T, U, hF, hRw, hd, hTB, hUB, hbel, _, hB2⟩ := HP8.out.quiet (fr_thing _ _ _) (rw_thing _ _ _ _) ((Only.refl [] w8).drew)
    refine region_begin (T := T) (by kernel_rfl) ?_
    generalize w8.drew = V at hF hRw hbel hB2 ⊢
    obtain ⟨hGV, rfl⟩ := hRw
    refine region_call 0 (by kernel_rfl) rfl (by rfl) (by go_simp; exact ⟨rfl, rfl⟩) ?_
    refine (alive_c (HT.out.below hbel (Nat.le_refl _))).mono ?_
    rintro e V1 ⟨rfl, hO1⟩
    refine ⟨_, rfl, hO1.more (by simp), ?_⟩
    simp only [List.getElem_toArray, List.getElem_cons_zero, List.getElem_cons_succ, Act.put, List.setIfInBounds_toArray, List.set_cons_zero, List.set_cons_succ]
    have hF1 := (fr_thing _ _ _).only hF hO1 (by simp)
    have hG1 := hGV.only hO1 (by simp)
    have hcut : ∀ y : Later T V1, (convert 26 9 (.slice (cutA gd k 1 G) (L - k) (gd - k))).run Tryd.prog y.w = .ok (.string ⟨D.toArray⟩) y.w := fun y => by
      have h1 := hG1.cut k (by omega)
      rw [← vbs_drop, ← HD.out] at h1
      exact run_string_of Tryd.underlying26 Tryd.underlying5 Tryd.underlying9 (h1.reads.only' y.h (Nat.le_refl _) (fun hp ad e hm => by
        have h2 := (h1.only y.h (fun j hj hj' => hd j hj' (by rwa [rowT_cut] at hj))).reads
        exact hd _ hm (by rw [← rowT_cut gd k 1 G]; exact mem_rowT.2 ⟨ad, e, rfl⟩))) _
    have hkgd : (k : Int) ≤ (gd : Int) := by omega
    have hkL2 : (k : Int) < (L : Int) := by omega
    unfold maxLen at hgm
    refine region_seg [false, true, true, true, true, true, true, true, true, false, false, true, true, true, true] 24 (by kernel_rfl) (by kernel_rfl) (by kernel_rfl) rfl (fun _ _ d _ _ h => by cases d <;> exact h) ?_
    repeat (first | with_reducible refine wpMask_pass ?_ | (refine wpMask_want (by rfl) (fun K hK => ?_); go_big_quiet_op; refine hK _ ?_; clear hK K))
    with_reducible refine wpMask_nil ?_
    clear hcut hkgd
    obtain ⟨dl, hdl⟩ : ∃ dl, dl = D.length := ⟨_, rfl⟩
    have HDLL := Lib.hid hdl
    refine region_call 9 (by kernel_rfl) rfl (by rfl) (by go_simp; exact ⟨rfl, rfl⟩) ?_
    refine (pending_c hF1 dl HDLL.out).mono ?_
    rintro e V2 ⟨G2, d2, rfl, hR2, hk2, hO2⟩
    refine ⟨_, rfl, hO2.more (by simp), ?_⟩
    simp only [List.getElem_toArray, List.getElem_cons_zero, List.getElem_cons_succ, Act.put, List.setIfInBounds_toArray, List.set_cons_zero, List.set_cons_succ]
    have hF2 := (fr_thing _ _ _).only hF1 hO2 (by simp)
    have hTlt : ∀ j, j ∈ T → j < V1.heap.size := fun j hj => (fr_thing _ _ _).lt hF1 j hj
    have hstr : ∀ y : Later T V2, (convert 26 9 (.slice G2 dl d2)).run Tryd.prog y.w = .ok (.string ⟨D.toArray⟩) y.w := fun y =>
      run_string_of Tryd.underlying26 Tryd.underlying5 Tryd.underlying9 ((hR2.only y.h (fun j hj hj' => by have h1 := hk2 j hj; have h2 := hTlt j hj'; omega)).reads) _
    clear hdl hR2 hk2
    refine region_seg [false, false, false, false, false, false, false, false, false, false, true, false, false, false, false, true, true, true, true] 18 (by kernel_rfl) (by kernel_rfl) (by kernel_rfl) rfl (fun _ _ d _ _ h => by cases d <;> exact h) ?_
    repeat (first | with_reducible refine wpMask_pass ?_ | (refine wpMask_want (by rfl) (fun K hK => ?_); go_big_quiet_op; refine hK _ ?_; clear hK K))
    with_reducible refine wpMask_nil ?_
    clear hstr
    refine region_call 19 (by kernel_rfl) rfl (by rfl) (by go_simp; exact ⟨rfl, rfl⟩) ?_
    refine (done_c hF2 false rfl).mono ?_
    rintro e _ ⟨rfl, rfl⟩
    refine ⟨_, rfl, Only.refl _ _, ?_⟩
    simp only [List.getElem_toArray, List.getElem_cons_zero, List.getElem_cons_succ, Act.put, List.setIfInBounds_toArray, List.set_cons_zero, List.set_cons_succ]
    refine region_seg [false, false, false, false, false, false, false, false, false, false, false, false, false, false, false, false, false, false, false, false, true, true, true, true, true, true, true, true] 9 (by kernel_rfl) (by kernel_rfl) (by kernel_rfl) rfl (fun _ _ d _ _ h => by cases d <;> exact h) ?_
    repeat (first | with_reducible refine wpMask_pass ?_ | (refine wpMask_want (by rfl) (fun K hK => ?_); go_big_quiet_op; refine hK _ ?_; clear hK K))
    with_reducible refine wpMask_nil ?_
    have hadv : advS ⟨65536, D, false⟩ ((L : Int) - (k : Int)) = (0, ⟨65536, [], false⟩) := by
      have h1 := HDL.out
      rw [show (L : Int) - (k : Int) = ((L - k : Nat) : Int) by omega, advS_ok (by omega), List.drop_of_length_le (by omega)]
    refine region_turn 28 (by kernel_rfl) rfl (by rfl) (by go_simp) (advance_c hF2 _ 0 _ hadv) ?_
    intro V3 T3 hF3 hT3 hO3
    simp only [List.getElem_toArray, List.getElem_cons_zero, List.getElem_cons_succ, Act.put, List.setIfInBounds_toArray, List.set_cons_zero, List.set_cons_succ]
    clear hadv
    refine region_seg [false, false, false, false, false, false, false, false, false, false, false, false, false, false, false, false, false, false, false, false, false, false, false, false, false, false, false, false, false, true, true, true, true] 4 (by kernel_rfl) (by kernel_rfl) (by kernel_rfl) rfl (fun _ _ d _ _ h => by cases d <;> exact h) ?_
    repeat (first | with_reducible refine wpMask_pass ?_ | (refine wpMask_want (by rfl) (fun K hK => ?_); go_big_quiet_op; refine hK _ ?_; clear hK K))
    with_reducible refine wpMask_nil ?_
    have hall : Only T V V3 := ((hO1.more (by simp)).trans (hO2.more (by simp))).trans hO3
    have hb3 : Below w.heap.size w V3 := Only.below hbel hall hbel.size hTB
    have hT3B : ∀ j, j ∈ T3 → w.heap.size ≤ j := fun j hj => (hT3 j hj).elim (hTB j) (fun h => Nat.le_trans hbel.size (Nat.le_trans hO1.size (Nat.le_trans hO2.size h)))
    have HB3 := Lib.hid hb3
    have HT3B := Lib.hid hT3B
    refine region_turn 33 (by kernel_rfl) rfl (by rfl) (by go_simp) (finish_c hF3 (HT.out.below hb3 (Nat.le_refl _)) 0 _ (finishS_ok 65536)) ?_
    intro V4 T4 hF4 hT4 hO4
    simp only [List.getElem_toArray, List.getElem_cons_zero, List.getElem_cons_succ, Act.put, List.setIfInBounds_toArray, List.set_cons_zero, List.set_cons_succ]
    refine region_seg [false, false, false, false, false, false, false, false, false, false, false, false, false, false, false, false, false, false, false, false, false, false, false, false, false, false, false, false, false, false, false, false, false, false, true, true, true] 0 (by kernel_rfl) (by kernel_rfl) (by kernel_rfl) rfl (fun _ _ d _ _ h => by cases d <;> exact h) ?_
    repeat (first | with_reducible refine wpMask_pass ?_ | (refine wpMask_want (by rfl) (fun K hK => ?_); go_big_quiet_op; refine hK _ ?_; clear hK K))
    with_reducible refine wpMask_nil ?_
    refine region_end (by kernel_rfl) ?_
    have hfin := Lib.hid (Only.below HB3.out hO4 HB3.out.size HT3B.out)
    clear hO4 hT4 hF4 hF3 hT3 hO3 hall hb3 hT3B
    go_wp2_with fail
    go_ret
    exact ⟨rfl, hfin.out⟩
end Go.Proofs.YtbphkdaciebgmaaDoor
