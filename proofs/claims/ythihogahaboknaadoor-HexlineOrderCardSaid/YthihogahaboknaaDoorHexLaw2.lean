/-
  The laws HexlineOrder, HexlineIsCanonical, walked.
-/
import Derived.Test.YthihogahaboknaaDoorHexLaw
import Derived.Test.YthihogahaboknaaDoorRegion
namespace Go.Proofs.YthihogahaboknaaDoor
open Go.RowKit Go.BigFrame
set_option linter.unusedVariables false
set_option linter.unusedSimpArgs false
attribute [local go_sem ↓] sliced_cut run_min2 run_max2
attribute [local go_sem] cutA_zero

/-! ### HexlineOrder -/
set_option maxHeartbeats 1000000 in
theorem order_small (n m : Int) (w : World) (hT : Tabs w) (h : n < 0 ∨ (0 ≤ n ∧ m < 0) ∨ (0 ≤ n ∧ 0 ≤ m ∧ m ≤ n) ∨ (0 ≤ n ∧ 0 ≤ m ∧ n < m ∧ 65536 < m)) :
    Calls Tryd.prog 7 #[.int .i64 n, .int .i64 m] w fun e w' => e = .returned (.bool true) ∧ Below w.heap.size w w' := by
  have HT := Lib.hid hT
  clear hT
  rcases h with h1 | ⟨h1, h2⟩ | ⟨h1, h2, h3⟩ | ⟨h1, h2, h3, h4⟩
  all_goals
    go_enter Tryd.func7, Tryd.ntmps7
    go_wp2_with (go_at_call 10; refine (alive_c HT.out).mono ?_; rintro e w3 ⟨rfl, hO3⟩)
    go_ret
    exact ⟨rfl, only_nil_below hO3⟩
theorem own_cut {w : World} {A : Option Addr} {n c : Nat} {l : List UInt8} (h : Own w A n c l) (k : Nat) (hk : k ≤ n) : ∀ w', Only [] w w' → (convert 22 9 (.slice A k c)).run Tryd.prog w' = .ok (.string ⟨(l.take k).toArray⟩) w' :=
  fun w' ho => run_string_of Tryd.underlying22 Tryd.underlying5 Tryd.underlying9 (by
    have := (h.2.2.2.only' ho (Nat.le_refl _) (by simp)).cut_ (k := 0) (m := k) (Nat.zero_le _) hk h.2.1
    rw [cutA_zero] at this
    simpa [vbs_take] using this) c
set_option maxHeartbeats 2000000 in
theorem order_walk (n m : Int) (w : World) (hT : Tabs w) (_ : (Lit.int .i64 n).wf = true) (_ : (Lit.int .i64 m).wf = true) :
    Calls Tryd.prog 7 #[.int .i64 n, .int .i64 m] w fun e w' => e = .returned (.bool true) ∧ Below w.heap.size w w' := by
  by_cases hs : n < 0 ∨ m < 0 ∨ m ≤ n ∨ 65536 < m
  · exact order_small n m w hT (by omega)
  · obtain ⟨a, rfl⟩ : ∃ a : Nat, n = (a : Int) := ⟨n.toNat, by omega⟩
    obtain ⟨b, rfl⟩ : ∃ b : Nat, m = (b : Int) := ⟨m.toNat, by omega⟩
    have hab : a < b := by omega
    have hb : b ≤ 65536 := by omega
    have h1 : ¬ (a : Int) < 0 := by omega
    have h2 : ¬ (b : Int) < 0 := by omega
    have h3 : ¬ (b : Int) ≤ (a : Int) := by omega
    have h4 : ¬ (65536 : Int) < (b : Int) := by omega
    have HT := Lib.hid hT
    have HFa := Lib.hid (fun w (h : Tabs w) => format_c h (show a ≤ 65536 by omega))
    have HFb := Lib.hid (fun w (h : Tabs w) => format_c h hb)
    have hle := line_mono (n := a) (m := b) (by omega)
    have hdiff := line_differs hab hb
    have hpos : 0 < (hexLine a).length := by rw [hexLine_length]; omega
    have hlen : (hexLine b).length ≤ 7 := by rw [hexLine_length]; have := hexOf_le hb; omega
    clear hs hT hab hb
    generalize hexLine a = La at *
    generalize hexLine b = Lb at *
    have hle2 : (La.length : Int) ≤ (Lb.length : Int) := by omega
    have hpos2 : (0 : Int) < (La.length : Int) := by omega
    have hne : (Lb.take La.length == La) = false := by rw [beq_eq_false_iff_ne]; exact hdiff
    clear hdiff
    go_enter Tryd.func7, Tryd.ntmps7
    go_wp2_with fail
    refine (HFa.out _ HT.out).mono ?_
    rintro e w1 ⟨A1, c1, rfl, ho1, hO1⟩
    have HO1 := Lib.hid hO1
    have HW1 := Lib.hid ho1
    clear hO1 ho1
    go_wp2_with fail
    refine (HFb.out _ (HT.out.only HO1.out)).mono ?_
    rintro e w2 ⟨A2, c2, rfl, ho2, hO2⟩
    have HO2 := Lib.hid hO2
    have HW2 := Lib.hid ho2
    have hc2 : (La.length : Int) ≤ (c2 : Int) := by have := ho2.2.1; omega
    have hc2m : (c2 : Int) < 9223372036854775808 := by have := ho2.2.2.1; unfold maxLen at this; omega
    clear hO2 ho2
    go_wp2_with fail
    refine region_begin (T := []) (by kernel_rfl) ?_
    refine region_call 0 (by kernel_rfl) rfl (by rfl) (by go_simp; exact ⟨rfl, rfl⟩) ?_
    refine (alive_c (HT.out.only ((HO1.out.trans HO2.out).drew))).mono ?_
    rintro e w3 ⟨rfl, hO3⟩
    have HO3 := Lib.hid hO3
    refine ⟨_, rfl, hO3, ?_⟩
    simp only [List.getElem_toArray, List.getElem_cons_zero, List.getElem_cons_succ, Act.put, List.setIfInBounds_toArray, List.set_cons_zero, List.set_cons_succ]
    have s1 : ∀ x : Later [] w3, (convert 22 9 (.slice A1 La.length c1)).run Tryd.prog x.w = .ok (.string ⟨La.toArray⟩) x.w := fun x => own_str HW1.out x.w (HO2.out.trans ((((Only.refl [] w2).drew).trans HO3.out).trans x.h))
    have s2 : ∀ x : Later [] w3, (convert 22 9 (.slice A2 La.length c2)).run Tryd.prog x.w = .ok (.string ⟨(Lb.take La.length).toArray⟩) x.w := fun x => own_cut HW2.out La.length (by omega) x.w ((((Only.refl [] w2).drew).trans HO3.out).trans x.h)
    clear hO3
    refine region_seg [false, true, true, true, true, true, true, true, true, true, true, true, true, true, true, true, true, true, true, true, true, true, true, true, true, true, true, true, true, true, true, true] 0 (by kernel_rfl) (by kernel_rfl) (by kernel_rfl) rfl (fun _ _ d _ _ h => by cases d <;> exact h) ?_
    repeat (first | with_reducible refine wpMask_pass ?_ | (refine wpMask_want (by rfl) (fun K hK => ?_); go_big_quiet_op; refine hK _ ?_; clear hK K))
    with_reducible refine wpMask_nil ?_
    refine region_end (by kernel_rfl) ?_
    go_wp2
    go_ret
    refine ⟨?_, only_nil_below ((HO1.out.trans HO2.out).drew.trans HO3.out)⟩
    first | rfl | (show Ending.returned (Value.bool (!(Lb.take La.length == La))) = _; rw [hne]; rfl)

/-! ### HexlineIsCanonical -/
set_option maxHeartbeats 2000000 in
theorem canonical_walk (A : Option Addr) (n c : Nat) (l : List UInt8) (w : World) (hT : Tabs w) (h : l.length = n ∧ n ≤ c ∧ c ≤ maxLen ∧ Reads w w.heap.size A n (vbs l)) :
    Calls Tryd.prog 6 #[.slice A n c] w fun e w' => e = .returned (.bool true) ∧ Below w.heap.size w w' := by
  obtain ⟨hl, hnc, hcm, hr⟩ := h
  have HT := Lib.hid hT
  have HR := Lib.hid hr
  have HP := Lib.hid (parse_c hT hr (Nat.le_refl _) hnc hcm)
  have hok : ∀ n k, parseOf l = (n, k, 0) → n ≤ 65536 ∧ k = (hexLine n).length ∧ k ≤ l.length ∧ l.take k = hexLine n := fun n k h => parse_ok h
  have herr := parse_err l
  generalize parseOf l = a at *
  obtain ⟨s, k, e⟩ := a
  unfold ansV at HP
  simp only at HP herr
  clear hT hr
  by_cases hbig : 1000 < n ∨ e ≠ 0
  · have h3 : e ≠ 0 ∨ (e = 0 ∧ 1000 < n) := by omega
    clear hok herr hbig
    rcases h3 with he | ⟨rfl, hbi0⟩
    · have hei : ((e : Int) != 0) = true := by rw [bne_iff_ne]; omega
      go_enter Tryd.func6, Tryd.ntmps6
      go_wp2_with (first | (go_at_call 11; refine HP.out.mono ?_; rintro e1 w1 ⟨rfl, hO1⟩; have HO1 := Lib.hid hO1; clear hO1) | (go_at_call 10; refine (alive_c (HT.out.only HO1.out)).mono ?_; rintro e3 w3 ⟨rfl, hO3⟩))
      go_ret
      exact ⟨rfl, only_nil_below (HO1.out.trans hO3)⟩
    · have hbi : (1000 : Int) < (n : Int) := by omega
      go_enter Tryd.func6, Tryd.ntmps6
      go_wp2_with (first | (go_at_call 11; refine HP.out.mono ?_; rintro e1 w1 ⟨rfl, hO1⟩; have HO1 := Lib.hid hO1; clear hO1) | (go_at_call 10; refine (alive_c (HT.out.only HO1.out)).mono ?_; rintro e3 w3 ⟨rfl, hO3⟩))
      go_ret
      exact ⟨rfl, only_nil_below (HO1.out.trans hO3)⟩
  · obtain rfl : e = 0 := by omega
    have hbi : ¬ (1000 : Int) < (n : Int) := by omega
    obtain ⟨hs, hk, hkl, htk⟩ := hok _ _ rfl
    have HF := Lib.hid (fun w (h : Tabs w) => format_c h hs)
    have htk2 : l.take (hexLine s).length = hexLine s := by rw [← hk]; exact htk
    have hkl2 : (hexLine s).length ≤ n := by omega
    subst hk
    clear hok herr hbig hs htk hkl
    generalize hexLine s = L at *
    have hkn : (L.length : Int) ≤ (n : Int) := by omega
    have hmin : imin (L.length : Int) (n : Int) = (L.length : Int) := by have := imin_spec (L.length : Int) (n : Int); omega
    have HK := Lib.hid htk2
    have hkc : (L.length : Int) ≤ (c : Int) := by omega
    have hk0 : (0 : Int) ≤ (L.length : Int) := by omega
    clear htk2
    go_enter Tryd.func6, Tryd.ntmps6
    go_wp2_with (first | (go_at_call 11; refine HP.out.mono ?_; rintro e1 w1 ⟨rfl, hO1⟩; have HO1 := Lib.hid hO1; clear hO1))
    refine (HF.out _ (HT.out.only HO1.out)).mono ?_
    rintro e w2 ⟨A2, c2, rfl, ho2, hO2⟩
    have HO2 := Lib.hid hO2
    have HW2 := Lib.hid ho2
    clear hO2 ho2
    go_wp2_with fail
    refine region_begin (T := []) (by kernel_rfl) ?_
    refine region_call 0 (by kernel_rfl) rfl (by rfl) (by go_simp; exact ⟨rfl, rfl⟩) ?_
    refine (alive_c (HT.out.only ((HO1.out.trans HO2.out).drew))).mono ?_
    rintro e w3 ⟨rfl, hO3⟩
    have HO3 := Lib.hid hO3
    refine ⟨_, rfl, hO3, ?_⟩
    simp only [List.getElem_toArray, List.getElem_cons_zero, List.getElem_cons_succ, Act.put, List.setIfInBounds_toArray, List.set_cons_zero, List.set_cons_succ]
    have s1 : ∀ x : Later [] w3, (convert 22 9 (.slice A2 L.length c2)).run Tryd.prog x.w = .ok (.string ⟨L.toArray⟩) x.w := fun x => own_str HW2.out x.w ((((Only.refl [] w2).drew).trans HO3.out).trans x.h)
    have s2 : ∀ x : Later [] w3, (convert 22 9 (.slice A L.length c)).run Tryd.prog x.w = .ok (.string ⟨L.toArray⟩) x.w := fun x => by
      have := own_cut (w := w) ⟨hl, hnc, hcm, HR.out⟩ L.length hkl2 x.w (((HO1.out.trans HO2.out).drew.trans HO3.out).trans x.h)
      rw [HK.out] at this
      exact this
    clear hO3
    refine region_seg [false, true, true, true, true, true, true, true, true, true, true, true, true, true, true, true, true, true, true, true, true, true, true, true, true, true, true, true, true, true] 0 (by kernel_rfl) (by kernel_rfl) (by kernel_rfl) rfl (fun _ _ d _ _ h => by cases d <;> exact h) ?_
    repeat (first | with_reducible refine wpMask_pass ?_ | (refine wpMask_want (by rfl) (fun K hK => ?_); go_big_quiet_op; refine hK _ ?_; clear hK K))
    with_reducible refine wpMask_nil ?_
    refine region_end (by kernel_rfl) ?_
    go_wp2
    go_ret
    exact ⟨rfl, only_nil_below ((HO1.out.trans HO2.out).drew.trans HO3.out)⟩
end Go.Proofs.YthihogahaboknaaDoor
