/-
  The law DechunkTrailingData, walked, where what comes in is of bulk at most 1048576.
-/
import Derived.Test.YtfchkaoifbcgkaaDoorDechLaw3
namespace Go.Proofs.YtfchkaoifbcgkaaDoor
open Go.RowKit Go.BigFrame
set_option linter.unusedVariables false
set_option linter.unusedSimpArgs false
attribute [local go_sem ↓] sliced_cut run_min2 run_max2
attribute [local go_sem] cutA_zero

theorem below_only {w w' : World} (h : Below w.heap.size w w') : Only [] w w' := Only.of_below h (fun k hk _ => hk)
set_option maxRecDepth 100000 in
set_option maxHeartbeats 6000000 in
theorem trailing_walk (A : Option Addr) (n c : Nat) (l : List UInt8) (X : Option Addr) (m d : Nat) (ls : List UInt8) (w : World) (hT : Tabs w) (h : l.length = n ∧ n ≤ c ∧ c ≤ maxLen ∧ Reads w w.heap.size A n (vbs l)) (hn : n ≤ 1048576) (hp : ls.length = m ∧ m ≤ d ∧ d ≤ maxLen ∧ Reads w w.heap.size X m (vbs ls)) (hm : m ≤ 1048576) :
    Calls Tryd.prog 7 #[.slice A n c, .slice X m d] w fun e w' => e = .returned (.bool true) ∧ Below w.heap.size w w' := by
  obtain ⟨hl, hnc, hcm, hr⟩ := h
  obtain ⟨hls, hmd, hdm, hrx⟩ := hp
  have HT := Lib.hid hT
  have HR := Lib.hid hr
  have HRX := Lib.hid hrx
  have HL := Lib.hid hl
  have HLS := Lib.hid hls
  have HE := Lib.hid (encode_c hT.2 hr hnc hcm hn (show 1 ≤ 7 by omega) (by omega))
  have hbb := bodyOf_bounds (k := 7) (by omega) l
  rw [hl] at hbb
  obtain ⟨L, hL⟩ : ∃ L, L = (bodyOf 7 l).length := ⟨_, rfl⟩
  rw [← hL] at hbb HE
  have HLB := Lib.hid hL
  have HCVP := Lib.hid (reads_str (c := c) hr)
  clear hT hr hl hrx hls hL
  by_cases hbig : 2000 < n ∨ 2000 < m
  · have h3 : decide ((2000 : Int) < (n : Int)) = true ∨ (decide ((2000 : Int) < (n : Int)) = false ∧ decide ((2000 : Int) < (m : Int)) = true) := by
      simp only [decide_eq_true_eq, decide_eq_false_iff_not]
      omega
    clear hbig
    rcases h3 with h1 | ⟨h1, h2⟩
    all_goals
      go_enter Tryd.func7, Tryd.ntmps7
      go_wp2_with (first | (go_at_call 21; refine HE.out.mono ?_; rintro e1 w1 ⟨A1, c1, rfl, _, _, hO1⟩; have HO1 := Lib.hid hO1; clear hO1) | (go_at_call 15; refine (newd_c w1).mono ?_; rintro e2 w2 ⟨rfl, _, hO2⟩; have HO2 := Lib.hid (HO1.out.trans hO2); clear hO2) | (go_at_call 14; refine (alive_c (HT.out.only HO2.out)).mono ?_; rintro e w3 ⟨rfl, hO3⟩; have HO3 := Lib.hid (HO2.out.trans hO3); clear hO3))
      go_ret
      exact ⟨rfl, only_nil_trans HO3.out⟩
  · have hn2 : n ≤ 2000 := by omega
    have hm2 : m ≤ 2000 := by omega
    have g1 : decide ((2000 : Int) < (n : Int)) = false := by simp; omega
    have g2 : decide ((2000 : Int) < (m : Int)) = false := by simp; omega
    have hLb : L ≤ 20005 := by omega
    obtain ⟨z, hz⟩ := run_body (k := 7) (by omega) (by omega) l
    have hf1 := feedS_run hz 0
    rw [Nat.zero_add, ← HLB.out] at hf1
    have HF1 := Lib.hid hf1
    have HG5 : Hid (Good ⟨5, [], 0, z, l⟩ L) := Lib.hid (by
      have := good_init.run hz
      rw [Nat.zero_add, ← HLB.out] at this
      exact this)
    have hfe : ∃ ef, feedS ⟨5, [], 0, z, l⟩ L 0 ls = (⟨5, [], 0, z, l⟩, L, ef) ∧ ((m = 0 ∧ ef = 0) ∨ (0 < m ∧ ef = 8)) := by
      have h1 := HLS.out
      cases ls with
      | nil => exact ⟨0, rfl, .inl ⟨by simpa using h1.symm, rfl⟩⟩
      | cons x t => exact ⟨8, feedS_none (by simp [acc]), .inr ⟨by simp at h1; omega, rfl⟩⟩
    obtain ⟨ef, hfe, hef⟩ := hfe
    have HFE := Lib.hid hfe
    clear hbig hz hf1 hfe
    have hcase : ((m : Int) = 0 ∧ decide ((0 : Int) < (m : Int)) = false ∧ ef = 0) ∨ (decide ((0 : Int) < (m : Int)) = true ∧ ef = 8) := by
      rcases hef with ⟨h1, h2⟩ | ⟨h1, h2⟩
      · exact .inl ⟨by omega, by simp; omega, h2⟩
      · exact .inr ⟨by simp; omega, h2⟩
    clear hef
    rcases hcase with ⟨_, hmp, rfl⟩ | ⟨hmp, rfl⟩
    all_goals
      go_enter Tryd.func7, Tryd.ntmps7
      go_wp2_with (first | (go_at_call 21; refine HE.out.mono ?_; rintro e1 w1 ⟨A1, c1, rfl, hR1, _, hO1⟩; have HO1 := Lib.hid hO1; have HR1 := Lib.hid hR1; have HT1 := Lib.hid (HT.out.only hO1); clear hR1 hO1) | (go_at_call 15; refine (newd_c w1).mono ?_; rintro e2 w2 ⟨rfl, hD2, hO2⟩; have hP2 : Pair (Dc w1.heap.size DSt.init 0 0) Nil w1 w1.heap.size w2 := pair_solo hD2 (by simp) (only_nil_below hO2) (Nat.le_refl _) hO2.size; have HF2 := Lib.hid (feed_pair nil_thing hP2 HT1.out good_init (HR1.out.reads.below hP2.below) HR1.out.le HR1.out.max (by omega) HF1.out); clear hD2 hO2 hP2) | (go_at_call 8; (with_reducible refine HF2.out.mono ?_); rintro e3 w3 ⟨rfl, hP3⟩; have HP3 := Lib.hid hP3; have HF3 := Lib.hid (feed_pair (m := 0) (d := 0) (X := none) (b := []) nil_thing hP3 HT1.out HG5.out (by simpa [vbs] using Reads.none_) (Nat.le_refl _) (Nat.zero_le _) (by omega) rfl); clear hP3) | (go_at_call 12; refine (complete_pair HP3.out true rfl).mono ?_; rintro e _ ⟨rfl, rfl⟩) | (go_at_call 11; refine (whole_pair HP3.out true rfl).mono ?_; rintro e _ ⟨rfl, rfl⟩) | (go_at_call 8; (with_reducible refine HF3.out.mono ?_); rintro e4 w4 ⟨rfl, hP4⟩; have HF4 := Lib.hid (feed_pair nil_thing hP4 HT1.out HG5.out ((HRX.out.only' (HO1.out.trans (below_only hP4.below)) (Nat.le_refl _) (by simp)).more HO1.out.size) hmd hdm (by omega) HFE.out); clear hP4) | (go_at_call 8; (with_reducible refine HF4.out.mono ?_); rintro e5 w5 ⟨rfl, hP5⟩; have HP5 := Lib.hid hP5; clear hP5))
      have HCV : Hid (∀ w', Only [] w1 w' → (convert 26 9 (.slice A n c)).run Tryd.prog w' = .ok (.string ⟨l.toArray⟩) w') := Lib.hid (fun w' hO => HCVP.out w' (HO1.out.trans hO))
      refine region_begin (T := []) (by kernel_rfl) ?_
      have HQV := Lib.hid (HP5.out.quiet (dc_thing _ _ _ _) nil_thing ((Only.refl [] w5).drew))
      generalize w5.drew = V at HQV ⊢
      refine region_call 0 (by kernel_rfl) rfl (by rfl) (by go_simp; exact ⟨rfl, rfl⟩) ?_
      refine (alive_c (HT1.out.below HQV.out.below (Nat.le_refl _))).mono ?_
      rintro e V1 ⟨rfl, hO4⟩
      refine ⟨_, rfl, hO4, ?_⟩
      simp only [List.getElem_toArray, List.getElem_cons_zero, List.getElem_cons_succ, Act.put, List.setIfInBounds_toArray, List.set_cons_zero, List.set_cons_succ]
      have HQV1 := Lib.hid (HQV.out.quiet (dc_thing _ _ _ _) nil_thing hO4)
      have hs8 : ∀ x : Later [] V1, (convert 26 9 (.slice A n c)).run Tryd.prog x.w = .ok (.string ⟨l.toArray⟩) x.w := fun x => HCV.out x.w ((below_only HQV1.out.below).trans x.h)
      clear hO4
      refine region_seg [false, true, true, true, true, true, true, true, true, true, true] 18 (by kernel_rfl) (by kernel_rfl) (by kernel_rfl) rfl (fun _ _ d _ _ h => by cases d <;> exact h) ?_
      with_reducible refine wpMask_pass ?_
      iterate 6 (refine wpMask_want (by rfl) (fun K hK => ?_); go_big_quiet_op; refine hK _ ?_; clear hK K)
      try rw [@decide_eq_true (0 < m) _ (by simpa using hmp)]
      repeat (first | with_reducible refine wpMask_pass ?_ | (refine wpMask_want (by rfl) (fun K hK => ?_); go_big_quiet_op; refine hK _ ?_; clear hK K))
      with_reducible refine wpMask_nil ?_
      refine region_call 11 (by kernel_rfl) rfl (by rfl) (by go_simp; exact ⟨rfl, rfl⟩) ?_
      refine (complete_pair HQV1.out true rfl).mono ?_
      rintro e _ ⟨rfl, rfl⟩
      refine ⟨_, rfl, Only.refl _ _, ?_⟩
      simp only [List.getElem_toArray, List.getElem_cons_zero, List.getElem_cons_succ, Act.put, List.setIfInBounds_toArray, List.set_cons_zero, List.set_cons_succ]
      refine region_seg [false, false, false, false, false, false, false, false, false, false, false, false, true, true, true, false, false, true, true] 12 (by kernel_rfl) (by kernel_rfl) (by kernel_rfl) rfl (fun _ _ d _ _ h => by cases d <;> exact h) ?_
      repeat (first | with_reducible refine wpMask_pass ?_ | (refine wpMask_want (by rfl) (fun K hK => ?_); go_big_quiet_op; refine hK _ ?_; clear hK K))
      with_reducible refine wpMask_nil ?_
      refine region_call 15 (by kernel_rfl) rfl (by rfl) (by go_simp; exact ⟨rfl, rfl⟩) ?_
      refine (payd_pair HQV1.out HG5.out (by omega) n HL.out.symm).mono ?_
      rintro e V2 ⟨G2, D2, rfl, hG, _, hO1⟩
      refine ⟨_, rfl, hO1, ?_⟩
      simp only [List.getElem_toArray, List.getElem_cons_zero, List.getElem_cons_succ, Act.put, List.setIfInBounds_toArray, List.set_cons_zero, List.set_cons_succ]
      have hs7 : ∀ x : Later [] V2, (convert 26 9 (.slice G2 n D2)).run Tryd.prog x.w = .ok (.string ⟨l.toArray⟩) x.w := fun x => row_str hG x.w x.h
      have HQV2 := Lib.hid (HQV1.out.quiet (dc_thing _ _ _ _) nil_thing hO1)
      clear hG hO1
      refine region_seg [false, false, false, false, false, false, false, false, false, false, false, false, false, false, false, false, true, false, false, true, true, true, true, false, true, true] 4 (by kernel_rfl) (by kernel_rfl) (by kernel_rfl) rfl (fun _ _ d _ _ h => by cases d <;> exact h) ?_
      repeat (first | with_reducible refine wpMask_pass ?_ | (refine wpMask_want (by rfl) (fun K hK => ?_); go_big_quiet_op; refine hK _ ?_; clear hK K))
      with_reducible refine wpMask_nil ?_
      refine region_call 23 (by kernel_rfl) rfl (by rfl) (by go_simp; exact ⟨rfl, rfl⟩) ?_
      refine (offset_pair HQV2.out).mono ?_
      rintro e _ ⟨rfl, rfl⟩
      refine ⟨_, rfl, Only.refl _ _, ?_⟩
      simp only [List.getElem_toArray, List.getElem_cons_zero, List.getElem_cons_succ, Act.put, List.setIfInBounds_toArray, List.set_cons_zero, List.set_cons_succ]
      refine region_seg [false, false, false, false, false, false, false, false, false, false, false, false, false, false, false, false, false, false, false, false, false, false, false, false, false, false, true, true, true] 0 (by kernel_rfl) (by kernel_rfl) (by kernel_rfl) rfl (fun _ _ d _ _ h => by cases d <;> exact h) ?_
      repeat (first | with_reducible refine wpMask_pass ?_ | (refine wpMask_want (by rfl) (fun K hK => ?_); go_big_quiet_op; refine hK _ ?_; clear hK K))
      with_reducible refine wpMask_nil ?_
      refine region_end (by kernel_rfl) ?_
      go_wp2_with fail
      go_ret
      exact ⟨by simp, only_nil_trans (HO1.out.trans (below_only HQV2.out.below))⟩
end Go.Proofs.YtfchkaoifbcgkaaDoor
