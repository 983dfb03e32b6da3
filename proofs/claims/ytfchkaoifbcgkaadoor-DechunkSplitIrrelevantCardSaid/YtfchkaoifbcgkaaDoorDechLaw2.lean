/-
  The law DechunkSplitIrrelevant, walked.
-/
import Derived.Test.YtfchkaoifbcgkaaDoorDecPair
namespace Go.Proofs.YtfchkaoifbcgkaaDoor
open Go.RowKit Go.BigFrame
set_option linter.unusedVariables false
set_option linter.unusedSimpArgs false
attribute [local go_sem ↓] sliced_cut run_min2 run_max2
attribute [local go_sem] cutA_zero

set_option maxRecDepth 100000 in
set_option maxHeartbeats 8000000 in
theorem split_walk (A : Option Addr) (n c : Nat) (l : List UInt8) (PA : Option Addr) (m d : Nat) (ps : List UInt8) (w : World) (hT : Tabs w) (h : l.length = n ∧ n ≤ c ∧ c ≤ maxLen ∧ Reads w w.heap.size A n (vbs l)) (hp : ps.length = m ∧ m ≤ d ∧ d ≤ maxLen ∧ Reads w w.heap.size PA m (vbs ps)) :
    Calls Tryd.prog 6 #[.slice A n c, .slice PA m d] w fun e w' => e = .returned (.bool true) ∧ Below w.heap.size w w' := by
  obtain ⟨hl, hnc, hcm, hr⟩ := h
  obtain ⟨hpl, hmd, hdm, hpr⟩ := hp
  have HT := Lib.hid hT
  have HR := Lib.hid hr
  have HL := Lib.hid hl
  have HPR := Lib.hid hpr
  have HPL := Lib.hid hpl
  have hdm' := hdm
  unfold maxLen at hdm'
  have hcm' := hcm
  unfold maxLen at hcm'
  clear hT hr hl hpr hpl
  by_cases hbig : 2000 < n ∨ m = 0 ∨ 100 < m
  · have h3 : decide ((2000 : Int) < (n : Int)) = true ∨ (decide ((2000 : Int) < (n : Int)) = false ∧ ((m : Int) == 0) = true) ∨ (decide ((2000 : Int) < (n : Int)) = false ∧ ((m : Int) == 0) = false ∧ decide ((100 : Int) < (m : Int)) = true) := by
      simp only [decide_eq_true_eq, decide_eq_false_iff_not, beq_iff_eq, beq_eq_false_iff_ne]
      omega
    clear hbig
    rcases h3 with h1 | ⟨h1, h2⟩ | ⟨h1, h2, h4⟩
    all_goals
      go_enter Tryd.func6, Tryd.ntmps6
      go_wp2_with (go_at_call 14; refine (alive_c HT.out).mono ?_; rintro e w3 ⟨rfl, hO3⟩)
      go_ret
      exact ⟨rfl, only_nil_trans hO3⟩
  · have hn : n ≤ 2000 := by omega
    have hm0 : 0 < m := by omega
    have hm1 : m ≤ 100 := by omega
    have g1 : decide ((2000 : Int) < (n : Int)) = false := by simp; omega
    have g2 : ((m : Int) == 0) = false := by rw [beq_eq_false_iff_ne]; omega
    have g3 : decide ((100 : Int) < (m : Int)) = false := by simp; omega
    obtain ⟨⟨s', o', e'⟩, hfe⟩ : ∃ f, feedS DSt.init 0 0 l = f := ⟨_, rfl⟩
    have HFE := Lib.hid hfe
    have hgd := feed_good hfe
    have HGD := Lib.hid hgd
    have he8 : e' ≤ 8 := hgd.2.2
    have ho2 : o' ≤ 2000 := by have := hgd.2.1; have := HL.out; omega
    clear hfe hgd hbig
    go_enter Tryd.func6, Tryd.ntmps6
    go_wp2_with (first | (go_at_call 15; (with_reducible refine (newd_c w).mono ?_); rintro e1 w1 ⟨rfl, hD1, hO1⟩; have HD1 := Lib.hid hD1; have HO1 := Lib.hid hO1; clear hD1 hO1) | (go_at_call 15; (with_reducible refine (newd_c w1).mono ?_); rintro e2 w2 ⟨rfl, hD2, hO2⟩; have HP2 : Hid (Pair (Dc w.heap.size DSt.init 0 0) (Dc w1.heap.size DSt.init 0 0) w w.heap.size w2) := Lib.hid (pair_made (dc_thing _ _ _ _) HD1.out (by simp) hD2 (by simp) (Below.refl _ _) HO1.out hO2); clear hD2 hO2) | (go_at_call 8; refine (feed_pair (dc_thing _ _ _ _) HP2.out.swap HT.out good_init (HR.out.below HP2.out.below) hnc hcm (by omega) HFE.out).mono ?_; rintro e3 w3 ⟨rfl, hP3⟩; have HP3 := Lib.hid hP3.swap; clear hP3))
    go_loopw [8, 9, 10] (fun s8 s9 s10 wr => ∃ (j : Nat) (X1 : Option Addr) (n1 c1 : Nat) (s1 : DSt) (o1 e1 q : Nat), s8 = .int .i64 e1 ∧ s9 = .slice X1 n1 c1 ∧ s10 = .int .i64 q ∧ q ≤ j ∧ j + n1 = n ∧ n1 ≤ c1 ∧ c1 ≤ maxLen ∧ Hid (Reads w w.heap.size X1 n1 (vbs (l.drop j))) ∧ Hid (feedS DSt.init 0 0 (l.take j) = (s1, o1, e1)) ∧ Hid (Pair (Dc w.heap.size s1 o1 e1) (Dc w1.heap.size s' o' e') w w.heap.size wr)) (fun _ s9 _ _ => lenOf s9)
    case atStart => exact ⟨0, A, n, c, DSt.init, 0, 0, 0, rfl, rfl, rfl, Nat.le_refl _, by omega, hnc, hcm, HR, Lib.hid rfl, HP3⟩
    case round =>
      clear HP3 HP2 HD1
      obtain ⟨j, X1, n1, c1, s1, o1, e1, q, rfl, rfl, rfl, hqj, hjn, hnc1, hcm1, hrd, hf1, hP⟩ := hrel
      have hcm2 := hcm1
      unfold maxLen at hcm2
      by_cases h0 : n1 = 0
      · subst h0
        have hall : (s', o', e') = (s1, o1, e1) := by
          have h1 := hf1.out
          rw [List.take_of_length_le (by rw [HL.out]; omega), HFE.out] at h1
          exact h1
        simp only [Prod.mk.injEq] at hall
        obtain ⟨rfl, rfl, rfl⟩ := hall
        clear hf1 hrd
        obtain ⟨⟨p, dd, ee⟩, hdo⟩ : ∃ f, decOf l = f := ⟨_, rfl⟩
        have hde := decOf_feed HFE.out
        rw [hdo] at hde
        have HDE := Lib.hid hde
        have HDC := Lib.hid (fun (wr : World) (hb : Below w.heap.size w wr) => dec_c (HT.out.below hb (Nat.le_refl _)) (HR.out.below hb) hb.size hnc hcm (by omega) p dd ee hdo)
        obtain ⟨wb, hwb⟩ : ∃ wb, wb = s'.whole := ⟨_, rfl⟩
        have HWB := Lib.hid hwb
        obtain ⟨L, hL⟩ : ∃ L, L = s'.pay.length := ⟨_, rfl⟩
        have HLP := Lib.hid hL
        obtain ⟨M, hM⟩ : ∃ M, M = s'.sizes.length := ⟨_, rfl⟩
        have HLS := Lib.hid hM
        have HMS : Hid (M ≤ 1000000) := Lib.hid (by rw [hM]; have := HGD.out.1.count; omega)
        obtain ⟨cb, hcb⟩ : ∃ cb, cb = s'.complete := ⟨_, rfl⟩
        have HCB := Lib.hid hcb
        clear hde hdo hwb hL hM hcb
        by_cases he : e' = 0
        · subst he
          have hde := HDE.out
          rw [if_pos rfl] at hde
          simp only [Prod.mk.injEq] at hde
          obtain ⟨rfl, hdd, rfl⟩ := hde
          rw [← HCB.out] at hdd
          subst hdd
          rw [← HLP.out] at HDC
          clear HDE
          go_wp2_with (go_at_call 19; refine (HDC.out _ hP.out.below).mono ?_; rintro e5 w5 ⟨Y5, y5, rfl, hY, _, hO5⟩; have HRY := Lib.hid hY; have HPA := Lib.hid (hP.out.quiet (dc_thing _ _ _ _) (dc_thing _ _ _ _) hO5); clear hY hO5)
          refine region_begin (T := []) (by kernel_rfl) ?_
          have HQV := Lib.hid (HPA.out.quiet (dc_thing _ _ _ _) (dc_thing _ _ _ _) ((Only.refl [] w5).drew))
          have hsp : ∀ y : Later [] w5.drew, (convert 26 9 (.slice Y5 L y5)).run Tryd.prog y.w = .ok (.string ⟨s'.pay.toArray⟩) y.w := fun y => row_str HRY.out y.w ((Only.refl [] w5).drew.trans y.h)
          generalize w5.drew = V at HQV hsp ⊢
          refine region_seg [true, true, true, true, true, true] 10 (by kernel_rfl) (by kernel_rfl) (by kernel_rfl) rfl (fun _ _ d _ _ h => by cases d <;> exact h) ?_
          repeat (first | with_reducible refine wpMask_pass ?_ | (refine wpMask_want (by rfl) (fun K hK => ?_); go_big_quiet_op; refine hK _ ?_; clear hK K) | with_reducible refine wpMask_skip (by kernel_rfl) ?_)
          with_reducible refine wpMask_nil ?_
          refine region_call 6 (by kernel_rfl) rfl (by rfl) (by go_simp; exact ⟨rfl, rfl⟩) ?_
          refine (payd_pair HQV.out.swap HGD.out.1 (by omega) L HLP.out).mono ?_
          rintro e V1 ⟨G1, D1, rfl, hG, _, hO1⟩
          refine ⟨_, rfl, hO1, ?_⟩
          simp only [List.getElem_toArray, List.getElem_cons_zero, List.getElem_cons_succ, Act.put, List.setIfInBounds_toArray, List.set_cons_zero, List.set_cons_succ]
          have hsG1 : ∀ y : Later [] V1, (convert 26 9 (.slice G1 L D1)).run Tryd.prog y.w = .ok (.string ⟨s'.pay.toArray⟩) y.w := fun y => row_str hG y.w y.h
          have HQV1 := Lib.hid (HQV.out.quiet (dc_thing _ _ _ _) (dc_thing _ _ _ _) hO1)
          clear hG hO1
          refine region_seg [false, false, false, false, false, false, false, true, true, true, true, true] 4 (by kernel_rfl) (by kernel_rfl) (by kernel_rfl) rfl (fun _ _ d _ _ h => by cases d <;> exact h) ?_
          repeat (first | with_reducible refine wpMask_pass ?_ | (refine wpMask_want (by rfl) (fun K hK => ?_); go_big_quiet_op; refine hK _ ?_; clear hK K) | with_reducible refine wpMask_skip (by kernel_rfl) ?_)
          with_reducible refine wpMask_nil ?_
          refine region_call 12 (by kernel_rfl) rfl (by rfl) (by go_simp; exact ⟨rfl, rfl⟩) ?_
          refine (complete_pair HQV1.out.swap dd HCB.out).mono ?_
          rintro e _ ⟨rfl, rfl⟩
          refine ⟨_, rfl, Only.refl _ _, ?_⟩
          simp only [List.getElem_toArray, List.getElem_cons_zero, List.getElem_cons_succ, Act.put, List.setIfInBounds_toArray, List.set_cons_zero, List.set_cons_succ]
          refine region_seg [false, false, false, false, false, false, false, false, false, false, false, false, false, true, true, true] 0 (by kernel_rfl) (by kernel_rfl) (by kernel_rfl) rfl (fun _ _ d _ _ h => by cases d <;> exact h) ?_
          repeat (first | with_reducible refine wpMask_pass ?_ | (refine wpMask_want (by rfl) (fun K hK => ?_); go_big_quiet_op; refine hK _ ?_; clear hK K) | with_reducible refine wpMask_skip (by kernel_rfl) ?_)
          with_reducible refine wpMask_nil ?_
          refine region_end (by kernel_rfl) ?_
          go_wp2_with fail
          refine region_begin (T := []) (by kernel_rfl) ?_
          have HQU := Lib.hid (HQV1.out.quiet (dc_thing _ _ _ _) (dc_thing _ _ _ _) ((Only.refl [] V1).drew))
          generalize V1.drew = U at HQU ⊢
          refine region_call 0 (by kernel_rfl) rfl (by rfl) (by go_simp; exact ⟨rfl, rfl⟩) ?_
          refine (alive_c (HT.out.below HQU.out.below (Nat.le_refl _))).mono ?_
          rintro e U1 ⟨rfl, hO1⟩
          refine ⟨_, rfl, hO1, ?_⟩
          simp only [List.getElem_toArray, List.getElem_cons_zero, List.getElem_cons_succ, Act.put, List.setIfInBounds_toArray, List.set_cons_zero, List.set_cons_succ]
          have HQU1 := Lib.hid (HQU.out.quiet (dc_thing _ _ _ _) (dc_thing _ _ _ _) hO1)
          clear hO1
          refine region_seg [false, true, true, true, true, true, true, true, true, true, true, true, true, false, false, true] 28 (by kernel_rfl) (by kernel_rfl) (by kernel_rfl) rfl (fun _ _ d _ _ h => by cases d <;> exact h) ?_
          repeat (first | with_reducible refine wpMask_pass ?_ | (refine wpMask_want (by rfl) (fun K hK => ?_); go_big_quiet_op; refine hK _ ?_; clear hK K) | with_reducible refine wpMask_skip (by kernel_rfl) ?_)
          with_reducible refine wpMask_nil ?_
          refine region_call 13 (by kernel_rfl) rfl (by rfl) (by go_simp; exact ⟨rfl, rfl⟩) ?_
          refine (payd_pair HQU1.out HGD.out.1 (by omega) L HLP.out).mono ?_
          rintro e U2 ⟨G2, D2, rfl, hG, _, hO1⟩
          refine ⟨_, rfl, hO1, ?_⟩
          simp only [List.getElem_toArray, List.getElem_cons_zero, List.getElem_cons_succ, Act.put, List.setIfInBounds_toArray, List.set_cons_zero, List.set_cons_succ]
          have hsG2 : ∀ y : Later [] U2, (convert 26 9 (.slice G2 L D2)).run Tryd.prog y.w = .ok (.string ⟨s'.pay.toArray⟩) y.w := fun y => row_str hG y.w y.h
          have HQU2 := Lib.hid (HQU1.out.quiet (dc_thing _ _ _ _) (dc_thing _ _ _ _) hO1)
          clear hG hO1
          refine region_seg [false, false, false, false, false, false, false, false, false, false, false, false, false, false, true] 26 (by kernel_rfl) (by kernel_rfl) (by kernel_rfl) rfl (fun _ _ d _ _ h => by cases d <;> exact h) ?_
          repeat (first | with_reducible refine wpMask_pass ?_ | (refine wpMask_want (by rfl) (fun K hK => ?_); go_big_quiet_op; refine hK _ ?_; clear hK K) | with_reducible refine wpMask_skip (by kernel_rfl) ?_)
          with_reducible refine wpMask_nil ?_
          refine region_call 16 (by kernel_rfl) rfl (by rfl) (by go_simp; exact ⟨rfl, rfl⟩) ?_
          refine (payd_pair HQU2.out.swap HGD.out.1 (by omega) L HLP.out).mono ?_
          rintro e U3 ⟨G3, D3, rfl, hG, _, hO1⟩
          refine ⟨_, rfl, hO1, ?_⟩
          simp only [List.getElem_toArray, List.getElem_cons_zero, List.getElem_cons_succ, Act.put, List.setIfInBounds_toArray, List.set_cons_zero, List.set_cons_succ]
          have hsG3 : ∀ y : Later [] U3, (convert 26 9 (.slice G3 L D3)).run Tryd.prog y.w = .ok (.string ⟨s'.pay.toArray⟩) y.w := fun y => row_str hG y.w y.h
          have HQU3 := Lib.hid (HQU2.out.quiet (dc_thing _ _ _ _) (dc_thing _ _ _ _) hO1)
          clear hG hO1
          refine region_seg [false, false, false, false, false, false, false, false, false, false, false, false, false, false, false, false, false, true, true, true, true, true, false, true] 19 (by kernel_rfl) (by kernel_rfl) (by kernel_rfl) rfl (fun _ _ d _ _ h => by cases d <;> exact h) ?_
          repeat (first | with_reducible refine wpMask_pass ?_ | (refine wpMask_want (by rfl) (fun K hK => ?_); go_big_quiet_op; refine hK _ ?_; clear hK K) | with_reducible refine wpMask_skip (by kernel_rfl) ?_)
          with_reducible refine wpMask_nil ?_
          refine region_call 22 (by kernel_rfl) rfl (by rfl) (by go_simp; exact ⟨rfl, rfl⟩) ?_
          refine (offset_pair HQU3.out).mono ?_
          rintro e _ ⟨rfl, rfl⟩
          refine ⟨_, rfl, Only.refl _ _, ?_⟩
          simp only [List.getElem_toArray, List.getElem_cons_zero, List.getElem_cons_succ, Act.put, List.setIfInBounds_toArray, List.set_cons_zero, List.set_cons_succ]
          refine region_call 24 (by kernel_rfl) rfl (by rfl) (by go_simp; exact ⟨rfl, rfl⟩) ?_
          refine (offset_pair HQU3.out.swap).mono ?_
          rintro e _ ⟨rfl, rfl⟩
          refine ⟨_, rfl, Only.refl _ _, ?_⟩
          simp only [List.getElem_toArray, List.getElem_cons_zero, List.getElem_cons_succ, Act.put, List.setIfInBounds_toArray, List.set_cons_zero, List.set_cons_succ]
          refine region_seg [false, false, false, false, false, false, false, false, false, false, false, false, false, false, false, false, false, false, false, false, false, false, false, false, false, true, true, true, true, false, true] 12 (by kernel_rfl) (by kernel_rfl) (by kernel_rfl) rfl (fun _ _ d _ _ h => by cases d <;> exact h) ?_
          repeat (first | with_reducible refine wpMask_pass ?_ | (refine wpMask_want (by rfl) (fun K hK => ?_); go_big_quiet_op; refine hK _ ?_; clear hK K) | with_reducible refine wpMask_skip (by kernel_rfl) ?_)
          with_reducible refine wpMask_nil ?_
          refine region_call 29 (by kernel_rfl) rfl (by rfl) (by go_simp; exact ⟨rfl, rfl⟩) ?_
          refine (whole_pair HQU3.out wb HWB.out).mono ?_
          rintro e _ ⟨rfl, rfl⟩
          refine ⟨_, rfl, Only.refl _ _, ?_⟩
          simp only [List.getElem_toArray, List.getElem_cons_zero, List.getElem_cons_succ, Act.put, List.setIfInBounds_toArray, List.set_cons_zero, List.set_cons_succ]
          refine region_call 31 (by kernel_rfl) rfl (by rfl) (by go_simp; exact ⟨rfl, rfl⟩) ?_
          refine (whole_pair HQU3.out.swap wb HWB.out).mono ?_
          rintro e _ ⟨rfl, rfl⟩
          refine ⟨_, rfl, Only.refl _ _, ?_⟩
          simp only [List.getElem_toArray, List.getElem_cons_zero, List.getElem_cons_succ, Act.put, List.setIfInBounds_toArray, List.set_cons_zero, List.set_cons_succ]
          refine region_seg [false, false, false, false, false, false, false, false, false, false, false, false, false, false, false, false, false, false, false, false, false, false, false, false, false, false, false, false, false, false, false, false, true, true, true, true, false, true] 5 (by kernel_rfl) (by kernel_rfl) (by kernel_rfl) rfl (fun _ _ d _ _ h => by cases d <;> exact h) ?_
          repeat (first | with_reducible refine wpMask_pass ?_ | (refine wpMask_want (by rfl) (fun K hK => ?_); go_big_quiet_op; refine hK _ ?_; clear hK K) | with_reducible refine wpMask_skip (by kernel_rfl) ?_)
          with_reducible refine wpMask_nil ?_
          refine region_call 36 (by kernel_rfl) rfl (by rfl) (by go_simp; exact ⟨rfl, rfl⟩) ?_
          refine (sized_pair HQU3.out HGD.out.1 (by omega) M HLS.out).mono ?_
          rintro e U4 ⟨G4, D4, rfl, hG, _, hO1⟩
          refine ⟨_, rfl, hO1, ?_⟩
          simp only [List.getElem_toArray, List.getElem_cons_zero, List.getElem_cons_succ, Act.put, List.setIfInBounds_toArray, List.set_cons_zero, List.set_cons_succ]
          have HSG4 := Lib.hid hG
          have HOSG4 := Lib.hid hO1
          have HQU4 := Lib.hid (HQU3.out.quiet (dc_thing _ _ _ _) (dc_thing _ _ _ _) hO1)
          clear hG hO1
          refine region_call 38 (by kernel_rfl) rfl (by rfl) (by go_simp; exact ⟨rfl, rfl⟩) ?_
          refine (sized_pair HQU4.out.swap HGD.out.1 (by omega) M HLS.out).mono ?_
          rintro e U5 ⟨G5, D5, rfl, hG, _, hO1⟩
          refine ⟨_, rfl, hO1, ?_⟩
          simp only [List.getElem_toArray, List.getElem_cons_zero, List.getElem_cons_succ, Act.put, List.setIfInBounds_toArray, List.set_cons_zero, List.set_cons_succ]
          have HSG5 := Lib.hid hG
          have HOSG5 := Lib.hid hO1
          have HQU5 := Lib.hid (HQU4.out.quiet (dc_thing _ _ _ _) (dc_thing _ _ _ _) hO1)
          clear hG hO1
          refine region_call 39 (by kernel_rfl) rfl (by rfl) (by go_simp; exact ⟨rfl, rfl⟩) ?_
          refine (equali_c (HSG4.out.reads.only' HOSG5.out (Nat.le_refl _) (by simp)) HSG5.out.reads D4 D5 HMS.out HMS.out).mono ?_
          rintro e U6 ⟨rfl, hO1⟩
          refine ⟨_, rfl, hO1, ?_⟩
          simp only [List.getElem_toArray, List.getElem_cons_zero, List.getElem_cons_succ, Act.put, List.setIfInBounds_toArray, List.set_cons_zero, List.set_cons_succ]
          have HQU6 := Lib.hid (HQU5.out.quiet (dc_thing _ _ _ _) (dc_thing _ _ _ _) hO1)
          clear hO1
          refine region_seg [false, false, false, false, false, false, false, false, false, false, false, false, false, false, false, false, false, false, false, false, false, false, false, false, false, false, false, false, false, false, false, false, false, false, false, false, false, false, false, false, true, true] 0 (by kernel_rfl) (by kernel_rfl) (by kernel_rfl) rfl (fun _ _ d _ _ h => by cases d <;> exact h) ?_
          repeat (first | with_reducible refine wpMask_pass ?_ | (refine wpMask_want (by rfl) (fun K hK => ?_); go_big_quiet_op; refine hK _ ?_; clear hK K) | with_reducible refine wpMask_skip (by kernel_rfl) ?_)
          with_reducible refine wpMask_nil ?_
          refine region_end (by kernel_rfl) ?_
          go_wp2_with fail
          go_ret
          exact ⟨by simp, HQU6.out.below⟩
        · have hde := HDE.out
          rw [if_neg he] at hde
          simp only [Prod.mk.injEq] at hde
          obtain ⟨rfl, rfl, rfl⟩ := hde
          have hnei : ((ee : Int) == 0) = false := by rw [beq_eq_false_iff_ne]; omega
          clear HDE
          go_wp2_with (go_at_call 19; refine (HDC.out _ hP.out.below).mono ?_; rintro e5 w5 ⟨Y5, y5, rfl, hY, _, hO5⟩; have HPA := Lib.hid (hP.out.quiet (dc_thing _ _ _ _) (dc_thing _ _ _ _) hO5); clear hY hO5)
          go_quiet (fail)
          have HQV1 := Lib.hid (HPA.out.quiet (dc_thing _ _ _ _) (dc_thing _ _ _ _) ((Only.refl [] w5).drewN nq))
          go_wp2_with fail
          refine region_begin (T := []) (by kernel_rfl) ?_
          have HQU := Lib.hid (HQV1.out.quiet (dc_thing _ _ _ _) (dc_thing _ _ _ _) ((Only.refl [] (w5.drewN nq)).drew))
          generalize (w5.drewN nq).drew = U at HQU ⊢
          refine region_call 0 (by kernel_rfl) rfl (by rfl) (by go_simp; exact ⟨rfl, rfl⟩) ?_
          refine (alive_c (HT.out.below HQU.out.below (Nat.le_refl _))).mono ?_
          rintro e U1 ⟨rfl, hO1⟩
          refine ⟨_, rfl, hO1, ?_⟩
          simp only [List.getElem_toArray, List.getElem_cons_zero, List.getElem_cons_succ, Act.put, List.setIfInBounds_toArray, List.set_cons_zero, List.set_cons_succ]
          have HQU1 := Lib.hid (HQU.out.quiet (dc_thing _ _ _ _) (dc_thing _ _ _ _) hO1)
          clear hO1
          refine region_seg [false, true, true, true, true, true, true, true, true, true, true, true, true, false, false, true] 28 (by kernel_rfl) (by kernel_rfl) (by kernel_rfl) rfl (fun _ _ d _ _ h => by cases d <;> exact h) ?_
          repeat (first | with_reducible refine wpMask_pass ?_ | (refine wpMask_want (by rfl) (fun K hK => ?_); go_big_quiet_op; refine hK _ ?_; clear hK K) | with_reducible refine wpMask_skip (by kernel_rfl) ?_)
          with_reducible refine wpMask_nil ?_
          refine region_call 13 (by kernel_rfl) rfl (by rfl) (by go_simp; exact ⟨rfl, rfl⟩) ?_
          refine (payd_pair HQU1.out HGD.out.1 (by omega) L HLP.out).mono ?_
          rintro e U2 ⟨G2, D2, rfl, hG, _, hO1⟩
          refine ⟨_, rfl, hO1, ?_⟩
          simp only [List.getElem_toArray, List.getElem_cons_zero, List.getElem_cons_succ, Act.put, List.setIfInBounds_toArray, List.set_cons_zero, List.set_cons_succ]
          have hsG2 : ∀ y : Later [] U2, (convert 26 9 (.slice G2 L D2)).run Tryd.prog y.w = .ok (.string ⟨s'.pay.toArray⟩) y.w := fun y => row_str hG y.w y.h
          have HQU2 := Lib.hid (HQU1.out.quiet (dc_thing _ _ _ _) (dc_thing _ _ _ _) hO1)
          clear hG hO1
          refine region_seg [false, false, false, false, false, false, false, false, false, false, false, false, false, false, true] 26 (by kernel_rfl) (by kernel_rfl) (by kernel_rfl) rfl (fun _ _ d _ _ h => by cases d <;> exact h) ?_
          repeat (first | with_reducible refine wpMask_pass ?_ | (refine wpMask_want (by rfl) (fun K hK => ?_); go_big_quiet_op; refine hK _ ?_; clear hK K) | with_reducible refine wpMask_skip (by kernel_rfl) ?_)
          with_reducible refine wpMask_nil ?_
          refine region_call 16 (by kernel_rfl) rfl (by rfl) (by go_simp; exact ⟨rfl, rfl⟩) ?_
          refine (payd_pair HQU2.out.swap HGD.out.1 (by omega) L HLP.out).mono ?_
          rintro e U3 ⟨G3, D3, rfl, hG, _, hO1⟩
          refine ⟨_, rfl, hO1, ?_⟩
          simp only [List.getElem_toArray, List.getElem_cons_zero, List.getElem_cons_succ, Act.put, List.setIfInBounds_toArray, List.set_cons_zero, List.set_cons_succ]
          have hsG3 : ∀ y : Later [] U3, (convert 26 9 (.slice G3 L D3)).run Tryd.prog y.w = .ok (.string ⟨s'.pay.toArray⟩) y.w := fun y => row_str hG y.w y.h
          have HQU3 := Lib.hid (HQU2.out.quiet (dc_thing _ _ _ _) (dc_thing _ _ _ _) hO1)
          clear hG hO1
          refine region_seg [false, false, false, false, false, false, false, false, false, false, false, false, false, false, false, false, false, true, true, true, true, true, false, true] 19 (by kernel_rfl) (by kernel_rfl) (by kernel_rfl) rfl (fun _ _ d _ _ h => by cases d <;> exact h) ?_
          repeat (first | with_reducible refine wpMask_pass ?_ | (refine wpMask_want (by rfl) (fun K hK => ?_); go_big_quiet_op; refine hK _ ?_; clear hK K) | with_reducible refine wpMask_skip (by kernel_rfl) ?_)
          with_reducible refine wpMask_nil ?_
          refine region_call 22 (by kernel_rfl) rfl (by rfl) (by go_simp; exact ⟨rfl, rfl⟩) ?_
          refine (offset_pair HQU3.out).mono ?_
          rintro e _ ⟨rfl, rfl⟩
          refine ⟨_, rfl, Only.refl _ _, ?_⟩
          simp only [List.getElem_toArray, List.getElem_cons_zero, List.getElem_cons_succ, Act.put, List.setIfInBounds_toArray, List.set_cons_zero, List.set_cons_succ]
          refine region_call 24 (by kernel_rfl) rfl (by rfl) (by go_simp; exact ⟨rfl, rfl⟩) ?_
          refine (offset_pair HQU3.out.swap).mono ?_
          rintro e _ ⟨rfl, rfl⟩
          refine ⟨_, rfl, Only.refl _ _, ?_⟩
          simp only [List.getElem_toArray, List.getElem_cons_zero, List.getElem_cons_succ, Act.put, List.setIfInBounds_toArray, List.set_cons_zero, List.set_cons_succ]
          refine region_seg [false, false, false, false, false, false, false, false, false, false, false, false, false, false, false, false, false, false, false, false, false, false, false, false, false, true, true, true, true, false, true] 12 (by kernel_rfl) (by kernel_rfl) (by kernel_rfl) rfl (fun _ _ d _ _ h => by cases d <;> exact h) ?_
          repeat (first | with_reducible refine wpMask_pass ?_ | (refine wpMask_want (by rfl) (fun K hK => ?_); go_big_quiet_op; refine hK _ ?_; clear hK K) | with_reducible refine wpMask_skip (by kernel_rfl) ?_)
          with_reducible refine wpMask_nil ?_
          refine region_call 29 (by kernel_rfl) rfl (by rfl) (by go_simp; exact ⟨rfl, rfl⟩) ?_
          refine (whole_pair HQU3.out wb HWB.out).mono ?_
          rintro e _ ⟨rfl, rfl⟩
          refine ⟨_, rfl, Only.refl _ _, ?_⟩
          simp only [List.getElem_toArray, List.getElem_cons_zero, List.getElem_cons_succ, Act.put, List.setIfInBounds_toArray, List.set_cons_zero, List.set_cons_succ]
          refine region_call 31 (by kernel_rfl) rfl (by rfl) (by go_simp; exact ⟨rfl, rfl⟩) ?_
          refine (whole_pair HQU3.out.swap wb HWB.out).mono ?_
          rintro e _ ⟨rfl, rfl⟩
          refine ⟨_, rfl, Only.refl _ _, ?_⟩
          simp only [List.getElem_toArray, List.getElem_cons_zero, List.getElem_cons_succ, Act.put, List.setIfInBounds_toArray, List.set_cons_zero, List.set_cons_succ]
          refine region_seg [false, false, false, false, false, false, false, false, false, false, false, false, false, false, false, false, false, false, false, false, false, false, false, false, false, false, false, false, false, false, false, false, true, true, true, true, false, true] 5 (by kernel_rfl) (by kernel_rfl) (by kernel_rfl) rfl (fun _ _ d _ _ h => by cases d <;> exact h) ?_
          repeat (first | with_reducible refine wpMask_pass ?_ | (refine wpMask_want (by rfl) (fun K hK => ?_); go_big_quiet_op; refine hK _ ?_; clear hK K) | with_reducible refine wpMask_skip (by kernel_rfl) ?_)
          with_reducible refine wpMask_nil ?_
          refine region_call 36 (by kernel_rfl) rfl (by rfl) (by go_simp; exact ⟨rfl, rfl⟩) ?_
          refine (sized_pair HQU3.out HGD.out.1 (by omega) M HLS.out).mono ?_
          rintro e U4 ⟨G4, D4, rfl, hG, _, hO1⟩
          refine ⟨_, rfl, hO1, ?_⟩
          simp only [List.getElem_toArray, List.getElem_cons_zero, List.getElem_cons_succ, Act.put, List.setIfInBounds_toArray, List.set_cons_zero, List.set_cons_succ]
          have HSG4 := Lib.hid hG
          have HOSG4 := Lib.hid hO1
          have HQU4 := Lib.hid (HQU3.out.quiet (dc_thing _ _ _ _) (dc_thing _ _ _ _) hO1)
          clear hG hO1
          refine region_call 38 (by kernel_rfl) rfl (by rfl) (by go_simp; exact ⟨rfl, rfl⟩) ?_
          refine (sized_pair HQU4.out.swap HGD.out.1 (by omega) M HLS.out).mono ?_
          rintro e U5 ⟨G5, D5, rfl, hG, _, hO1⟩
          refine ⟨_, rfl, hO1, ?_⟩
          simp only [List.getElem_toArray, List.getElem_cons_zero, List.getElem_cons_succ, Act.put, List.setIfInBounds_toArray, List.set_cons_zero, List.set_cons_succ]
          have HSG5 := Lib.hid hG
          have HOSG5 := Lib.hid hO1
          have HQU5 := Lib.hid (HQU4.out.quiet (dc_thing _ _ _ _) (dc_thing _ _ _ _) hO1)
          clear hG hO1
          refine region_call 39 (by kernel_rfl) rfl (by rfl) (by go_simp; exact ⟨rfl, rfl⟩) ?_
          refine (equali_c (HSG4.out.reads.only' HOSG5.out (Nat.le_refl _) (by simp)) HSG5.out.reads D4 D5 HMS.out HMS.out).mono ?_
          rintro e U6 ⟨rfl, hO1⟩
          refine ⟨_, rfl, hO1, ?_⟩
          simp only [List.getElem_toArray, List.getElem_cons_zero, List.getElem_cons_succ, Act.put, List.setIfInBounds_toArray, List.set_cons_zero, List.set_cons_succ]
          have HQU6 := Lib.hid (HQU5.out.quiet (dc_thing _ _ _ _) (dc_thing _ _ _ _) hO1)
          clear hO1
          refine region_seg [false, false, false, false, false, false, false, false, false, false, false, false, false, false, false, false, false, false, false, false, false, false, false, false, false, false, false, false, false, false, false, false, false, false, false, false, false, false, false, false, true, true] 0 (by kernel_rfl) (by kernel_rfl) (by kernel_rfl) rfl (fun _ _ d _ _ h => by cases d <;> exact h) ?_
          repeat (first | with_reducible refine wpMask_pass ?_ | (refine wpMask_want (by rfl) (fun K hK => ?_); go_big_quiet_op; refine hK _ ?_; clear hK K) | with_reducible refine wpMask_skip (by kernel_rfl) ?_)
          with_reducible refine wpMask_nil ?_
          refine region_end (by kernel_rfl) ?_
          go_wp2_with fail
          go_ret
          exact ⟨by simp, HQU6.out.below⟩
      · have hpos : 0 < n1 := by omega
        have hposi : (0 : Int) < (n1 : Int) := by omega
        obtain ⟨id, hid⟩ : ∃ id, id = q % m := ⟨_, rfl⟩
        have hidl : id < m := by rw [hid]; exact Nat.mod_lt _ hm0
        obtain ⟨xg, xo, hX, hxg, hxc⟩ := (HPR.out.below hP.out.below).plain hm0
        have hpsl : id < ps.length := by rw [HPL.out]; exact hidl
        obtain ⟨v, hv⟩ : ∃ v, v = (ps[id]'hpsl).toNat := ⟨_, rfl⟩
        have hv255 : v ≤ 255 := by rw [hv]; have := UInt8.toNat_lt (ps[id]'hpsl); omega
        have hcell : wr.cell? ⟨xg, xo + id, none⟩ = some (.int .u8 (v : Int)) := by
          rw [hv]
          exact hxc id _ (by rw [vbs_getElem?, List.getElem?_eq_getElem hpsl]; rfl)
        obtain ⟨k, hk⟩ : ∃ k, k = min n1 (1 + v) := ⟨_, rfl⟩
        have hkn : k ≤ n1 := by omega
        have hk0 : 0 < k := by omega
        have hmn : imin (n1 : Int) (1 + (v : Int)) = (k : Int) := by have := imin_spec (n1 : Int) (1 + (v : Int)); omega
        obtain ⟨⟨s2, o2, e2⟩, hf2⟩ : ∃ f, feedS s1 o1 e1 ((l.drop j).take k) = f := ⟨_, rfl⟩
        have hb1 := hrd.out.cut_ (k := 0) (m := k) (c := c1) (Nat.zero_le _) hkn hnc1
        rw [cutA_zero, Nat.sub_zero, List.drop_zero, ← vbs_take] at hb1
        have HB1 := Lib.hid hb1
        have hb2 := hrd.out.cut_ (k := k) (m := n1) (c := c1) hkn (Nat.le_refl _) hnc1
        rw [← vbs_drop, ← vbs_take, List.drop_drop, List.take_of_length_le (by rw [List.length_drop, HL.out]; omega)] at hb2
        have HB2 := Lib.hid hb2
        obtain ⟨hg1, hoj, _⟩ := feed_good hf1.out
        have hoj2 : o1 ≤ 2000 := by rw [List.length_take, HL.out] at hoj; omega
        have HF := Lib.hid (feed_pair (dc_thing _ _ _ _) hP.out HT.out hg1 (HB1.out.below hP.out.below) (by omega) hcm1 (by omega) hf2)
        have hf3 : Hid (feedS DSt.init 0 0 (l.take (j + k)) = (s2, o2, e2)) := Lib.hid (by
          rw [List.take_add, feedS_append, hf1.out]
          exact hf2)
        have hki : (k : Int) ≤ (n1 : Int) := by omega
        have hc1i : k ≤ c1 := by omega
        have hq2 : q ≤ 2000 := by omega
        subst hX
        have ht1 : (q : Int).tmod (m : Int) = (id : Int) := by rw [Int.tmod_eq_emod_of_nonneg (by omega), hid]; rfl
        have ht2 : (q : Int) % (m : Int) = (id : Int) := by rw [hid]; rfl
        have hs1 : IntKind.i64.wrap (1 + (v : Int)) = 1 + (v : Int) := IntWalk.i64_in _ (by clear ht1 ht2; omega)
        have hs2 : IntKind.i64.wrap (v : Int) = (v : Int) := IntWalk.i64_in _ (by clear ht1 ht2 hs1; omega)
        have hs3 : wrap64 (v : Int) = (v : Int) := IntWalk.wrap64_in _ (by clear ht1 ht2 hs1 hs2; omega)
        clear hid hv hxc hpsl hk hf2 hb1 hb2 hg1 hoj hP hf1 hrd
        go_wp2_with (go_at_call 8; refine HF.out.mono ?_; rintro e5 w5 ⟨rfl, hP5⟩; have HP5 := Lib.hid hP5; clear hP5)
        clear hs1 hs2 hs3 ht1 ht2
        go_roundw
        case rel => exact ⟨j + k, _, n1 - k, c1 - k, s2, o2, e2, q + 1, rfl, rfl, by go_num, by omega, by omega, by omega, by unfold maxLen; omega, HB2, hf3, HP5⟩
        case measure => simp [lenOf]; omega
end Go.Proofs.YtfchkaoifbcgkaaDoor
