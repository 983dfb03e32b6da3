/-
  The law DechunkDecodeMatchesReference, walked.
-/
import Derived.Test.YtfchkaoifbcgkaaDoorRefDec
import Derived.Test.YtfchkaoifbcgkaaDoorFrame
namespace Go.Proofs.YtfchkaoifbcgkaaDoor
open Go.RowKit Go.BigFrame
set_option linter.unusedVariables false
set_option linter.unusedSimpArgs false
attribute [local go_sem ↓] sliced_cut run_min2 run_max2
attribute [local go_sem] cutA_zero

theorem only_nil_trans {w w' : World} (h : Only [] w w') : Below w.heap.size w w' := h.to_below (Nat.le_refl _) (by simp)
set_option maxRecDepth 100000 in
set_option maxHeartbeats 1600000 in
theorem decodeMatches_walk (A : Option Addr) (n c : Nat) (l : List UInt8) (w : World) (hT : Tabs w) (h : l.length = n ∧ n ≤ c ∧ c ≤ maxLen ∧ Reads w w.heap.size A n (vbs l)) :
    Calls Tryd.prog 4 #[.slice A n c] w fun e w' => e = .returned (.bool true) ∧ Below w.heap.size w w' := by
  obtain ⟨hl, hnc, hcm, hr⟩ := h
  have HT := Lib.hid hT
  have HR := Lib.hid hr
  clear hT hr hl
  by_cases hbig : 800 < n
  · have hbi : (800 : Int) < (n : Int) := by omega
    go_enter Tryd.func4, Tryd.ntmps4
    go_wp2_with (go_at_call 14; refine (alive_c HT.out).mono ?_; rintro e w3 ⟨rfl, hO3⟩)
    go_ret
    exact ⟨rfl, only_nil_trans hO3⟩
  · have hbi : ¬ (800 : Int) < (n : Int) := by omega
    obtain ⟨⟨p, d, e⟩, hd⟩ : ∃ f, decOf l = f := ⟨_, rfl⟩
    have HD := Lib.hid (dec_c HT.out HR.out (Nat.le_refl _) hnc hcm (by omega) p d e hd)
    have HF := Lib.hid (fun (w1 : World) (hO : Only [] w w1) => refDec_c (HR.out.only' hO (Nat.le_refl _) (by simp)) hO.size hnc hcm (by omega) p d e hd)
    have hcm' := hcm
    unfold maxLen at hcm'
    clear hd hcm
    generalize p.length = L at HD HF
    go_enter Tryd.func4, Tryd.ntmps4
    go_wp2_with (first | (go_at_call 19; refine HD.out.mono ?_; rintro e1 w1 ⟨Y1, y1, rfl, hR1, _, hO1⟩; have HR1 := Lib.hid hR1; have HO1 := Lib.hid hO1; clear hR1 hO1) | (go_at_call 20; refine (HF.out _ HO1.out).mono ?_; rintro e2 w2 ⟨Y2, y2, rfl, hR2, _, hO2⟩; have HR2 := Lib.hid hR2; have HO2 := Lib.hid hO2; clear hR2 hO2) | (go_at_call 14; refine (alive_c (HT.out.only (HO1.out.trans HO2.out))).mono ?_; rintro e3 w3 ⟨rfl, hO3⟩; have hcv1 := row_str HR1.out w3 (HO2.out.trans hO3); have hcv2 := row_str HR2.out w3 hO3; have HO3 := Lib.hid hO3; clear hO3))
    go_ret
    refine ⟨by simp, only_nil_trans (HO1.out.trans (HO2.out.trans HO3.out))⟩
end Go.Proofs.YtfchkaoifbcgkaaDoor
