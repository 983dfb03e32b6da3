/-
  Contract of hexline.Parse.
-/
import Derived.Test.YtfchkaoifbcgkaaDoorLead
import Derived.Test.YtfchkaoifbcgkaaDoorHexFormat
import Derived.Test.YtfchkaoifbcgkaaDoorStd
import Derived.RegionTactic
import Derived.ChangeAlike
import Derived.Deep.QuietTactic
import Derived.BigQuiet
namespace Go.Proofs.YtfchkaoifbcgkaaDoor
open Go.RowKit Go.BigFrame
set_option linter.unusedVariables false
set_option linter.unusedSimpArgs false
attribute [local go_sem ↓] sliced_cut run_min2 run_max2
attribute [local go_sem] cutA_zero

/-! ### Parse -/
def ansV (a : Ans) : Value := .tuple #[.int .i64 (a.1 : Int), .int .i64 (a.2.1 : Int), .int .i64 (a.2.2 : Int)]
set_option maxHeartbeats 1600000 in
theorem parse_c {w : World} (hT : Tabs w) {B n c : Nat} {A : Option Addr} {l : List UInt8} (hr : Reads w B A n (vbs l)) (hB : B ≤ w.heap.size) (hnc : n ≤ c) (hcm : c ≤ maxLen) :
    Calls Tryd.prog 42 #[.slice A n c] w fun e w' => e = .returned (ansV (parseOf l)) ∧ Only [] w w' := by
  have HS := Lib.hid (leadingSize_c hT hr hB hnc hcm)
  have HT := Lib.hid hT
  have HR := Lib.hid hr
  have hle := lead_le l 0 (by omega)
  have HP : Hid (parseOf l = parseAt (lead 0 l) l) := Lib.hid rfl
  generalize lead 0 l = s at *
  clear hT hr
  by_cases hs : 65536 < s
  · have hpa : Hid (parseOf l = (0, 0, 5)) := Lib.hid (by rw [HP.out]; unfold parseAt; rw [if_pos hs])
    have hsi : (s : Int) < 0 ∨ (65536 : Int) < (s : Int) := by omega
    clear hs hle
    go_enter Tryd.func42, Tryd.ntmps42
    go_wp2_with (first | (go_at_call 46; refine HS.out.mono ?_; rintro e w1 ⟨rfl, hO1⟩) | (go_at_call 40; refine (format_out hsi).mono ?_; rintro e w2 ⟨rfl, rfl⟩))
    go_ret3
    rw [hpa.out]
    exact ⟨rfl, hO1⟩
  · obtain ⟨b1, hb1⟩ : ∃ b, (hexLine s).isPrefixOf l = b := ⟨_, rfl⟩
    obtain ⟨b2, hb2⟩ : ∃ b, l.isPrefixOf (hexLine s) = b := ⟨_, rfl⟩
    have hpa : Hid (parseOf l = if b1 then (s, (hexLine s).length, 0) else if b2 then (0, 0, 7) else (0, 0, 5)) := Lib.hid (by rw [HP.out]; unfold parseAt; rw [if_neg hs, hb1, hb2])
    have HF := Lib.hid (fun w (h : Tabs w) => format_c h.2 (show s ≤ 65536 by omega))
    have H1 := Lib.hid (fun (w2 : World) (A2 : Option Addr) (c2 : Nat) (hO : Only [] w w2) (ho : Own w2 A2 (hexLine s).length c2 (hexLine s)) =>
      hasPrefix_c (HR.out.only' hO hB (by simp)) ho.2.2.2 c c2 hnc hcm)
    have H2 := Lib.hid (fun (w2 : World) (A2 : Option Addr) (c2 : Nat) (hO : Only [] w w2) (ho : Own w2 A2 (hexLine s).length c2 (hexLine s)) =>
      hasPrefix_c ho.2.2.2 (HR.out.only' hO hB (by simp)) c2 c ho.2.1 ho.2.2.1)
    rw [hb1] at H1
    rw [hb2] at H2
    clear hb1 hb2 hle
    generalize hE : parseOf l = res at hpa ⊢
    clear hE
    obtain ⟨L, hL⟩ : ∃ L, hexLine s = L := ⟨_, rfl⟩
    rw [hL] at hpa HF H1 H2
    clear hL
    cases b1 with
    | true =>
      go_enter Tryd.func42, Tryd.ntmps42
      go_wp2_with (first | (go_at_call 46; refine HS.out.mono ?_; rintro e w1 ⟨rfl, hO1⟩) | (go_at_call 40; refine (HF.out _ (HT.out.only hO1)).mono ?_; rintro e w2 ⟨A2, c2, rfl, ho, hO2⟩; have HO := Lib.hid ho; clear ho) | (go_at_call 47; (with_reducible refine (H1.out _ A2 c2 (hO1.trans hO2) HO.out).mono ?_); rintro e w3 ⟨rfl, rfl⟩))
      go_ret3
      have := hpa.out; simp only [if_true] at this; rw [this]
      exact ⟨rfl, hO1.trans hO2⟩
    | false =>
      cases b2 with
      | true =>
        go_enter Tryd.func42, Tryd.ntmps42
        go_wp2_with (first | (go_at_call 46; refine HS.out.mono ?_; rintro e w1 ⟨rfl, hO1⟩) | (go_at_call 40; refine (HF.out _ (HT.out.only hO1)).mono ?_; rintro e w2 ⟨A2, c2, rfl, ho, hO2⟩; have HO := Lib.hid ho; clear ho) | (go_at_call 47; (with_reducible refine (H1.out _ A2 c2 (hO1.trans hO2) HO.out).mono ?_); rintro e w3 ⟨rfl, rfl⟩) | (go_at_call 47; (with_reducible refine (H2.out _ A2 c2 (hO1.trans hO2) HO.out).mono ?_); rintro e w4 ⟨rfl, rfl⟩))
        go_ret3
        have := hpa.out; simp only [Bool.false_eq_true, if_true, if_false] at this; rw [this]
        exact ⟨rfl, hO1.trans hO2⟩
      | false =>
        go_enter Tryd.func42, Tryd.ntmps42
        go_wp2_with (first | (go_at_call 46; refine HS.out.mono ?_; rintro e w1 ⟨rfl, hO1⟩) | (go_at_call 40; refine (HF.out _ (HT.out.only hO1)).mono ?_; rintro e w2 ⟨A2, c2, rfl, ho, hO2⟩; have HO := Lib.hid ho; clear ho) | (go_at_call 47; (with_reducible refine (H1.out _ A2 c2 (hO1.trans hO2) HO.out).mono ?_); rintro e w3 ⟨rfl, rfl⟩) | (go_at_call 47; (with_reducible refine (H2.out _ A2 c2 (hO1.trans hO2) HO.out).mono ?_); rintro e w4 ⟨rfl, rfl⟩))
        go_ret3
        have := hpa.out; simp only [Bool.false_eq_true, if_true, if_false] at this; rw [this]
        exact ⟨rfl, hO1.trans hO2⟩
end Go.Proofs.YtfchkaoifbcgkaaDoor
