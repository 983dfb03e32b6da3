/-
  Contracts of package hexline, and of the law's 'alive'.
-/
import Derived.Test.YthihogahaboknaaDoorFmt
namespace Go.Proofs.YthihogahaboknaaDoor
open Go.RowKit Go.BigFrame
set_option linter.unusedVariables false
set_option linter.unusedSimpArgs false
attribute [local go_sem ↓] sliced_cut run_min2 run_max2
attribute [local go_sem] cutA_zero

/-! ### Format -/
/-- A slice of the call's own that reads as a list of bytes. -/
def Own (w : World) (A : Option Addr) (n c : Nat) (l : List UInt8) : Prop := l.length = n ∧ n ≤ c ∧ c ≤ maxLen ∧ Reads w w.heap.size A n (vbs l)
set_option maxHeartbeats 800000 in
theorem format_c {w : World} (hT : Tabs w) {n : Nat} (hn : n ≤ 65536) :
    Calls Tryd.prog 8 #[.int .i64 n] w fun e w' => ∃ A c, e = .returned (.tuple #[.slice A (hexLine n).length c, .int .i64 0]) ∧ Own w' A (hexLine n).length c (hexLine n) ∧ Only [] w w' := by
  have HC := Lib.hid (appendInt_c hT hn)
  have hlen5 := hexOf_le hn
  clear hT
  have h0 : ¬ (n : Int) < 0 := by omega
  have h1 : ¬ (65536 : Int) < (n : Int) := by omega
  obtain ⟨i0, hi0, hz0, hz1, hz2⟩ := info_parts info_byte
  have hl : Hid ((hexLine n).length = (hexOf n).length + 2) := Lib.hid (hexLine_length n)
  have hcr : Hid (vbs (hexOf n) ++ Lib.strCells ⟨#[13, 10]⟩ = vbs (hexLine n)) := Lib.hid (by rw [hexLine, vbs_append]; rfl)
  have hb1 : Hid ((hexOf n).length + (⟨#[13, 10]⟩ : ByteArray).size ≤ maxLen) := Lib.hid (by show (hexOf n).length + 2 ≤ maxLen; unfold maxLen; omega)
  have hb2 : Hid ((hexOf n).length + (⟨#[13, 10]⟩ : ByteArray).size ≤ 140737488355328) := Lib.hid (by show (hexOf n).length + 2 ≤ _; omega)
  go_enter Tryd.func8, Tryd.ntmps8
  go_wp2_with (first | (go_at_call 13; refine HC.out.mono ?_; rintro e w1 ⟨v, rfl, h1, h2⟩; have H1 := Lib.hid h1; have H2 := Lib.hid h2; clear h1 h2) | (with_reducible refine Lib.wpList_append_own_string _ rfl (.tmp 11) (.const (.string ⟨#[13, 10]⟩)) 22 9 rfl w.heap.size 5 i0 Tryd.underlying22 Tryd.underlying9 hi0 hz0 hz1 hz2 v (hexOf n).length (vbs (hexOf n)) rfl H1.out ⟨#[13, 10]⟩ rfl hb1.out hb2.out H2.out.size ?_; intro v2 w2 hR2 hO2 hK2; have HR2 := Lib.hid hR2; clear hR2 hK2))
  go_ret2
  obtain ⟨A, c, rfl, h5, h6, h7, _⟩ := Reads.of_own HR2.out
  have e1 : (hexOf n).length + (⟨#[13, 10]⟩ : ByteArray).size = (hexLine n).length := hl.out.symm
  rw [e1, hcr.out] at h7
  rw [e1] at h5 ⊢
  exact ⟨A, c, rfl, ⟨rfl, h5, h6, h7⟩, H2.out.grown hO2 (fun k hk => .inr (H1.out.lt k hk).1)⟩
set_option maxHeartbeats 800000 in
theorem format_out {w : World} {n : Int} (hn : n < 0 ∨ 65536 < n) :
    Calls Tryd.prog 8 #[.int .i64 n] w fun e w' => e = .returned (.tuple #[.slice none 0 0, .int .i64 3]) ∧ w = w' := by
  by_cases h0 : n < 0
  · clear hn
    go_enter Tryd.func8, Tryd.ntmps8
    go_wp2
    go_ret2
    exact ⟨rfl, rfl⟩
  · have h1 : 65536 < n := by omega
    clear hn
    go_enter Tryd.func8, Tryd.ntmps8
    go_wp2
    go_ret2
    exact ⟨rfl, rfl⟩

/-! ### Parse -/
def ansV (a : Ans) : Value := .tuple #[.int .i64 (a.1 : Int), .int .i64 (a.2.1 : Int), .int .i64 (a.2.2 : Int)]
set_option maxHeartbeats 1600000 in
theorem parse_c {w : World} (hT : Tabs w) {B n c : Nat} {A : Option Addr} {l : List UInt8} (hr : Reads w B A n (vbs l)) (hB : B ≤ w.heap.size) (hnc : n ≤ c) (hcm : c ≤ maxLen) :
    Calls Tryd.prog 11 #[.slice A n c] w fun e w' => e = .returned (ansV (parseOf l)) ∧ Only [] w w' := by
  have HS := Lib.hid (leadingSize_c hT hr hB hnc hcm)
  have HT := Lib.hid hT
  have HR := Lib.hid hr
  have hle := lead_le l 0 (by omega)
  have HP : Hid (parseOf l = parseAt (lead 0 l) l) := Lib.hid rfl
  generalize lead 0 l = s at *
  clear hT hr
  by_cases hs : 65536 < s
  · have hpa : Hid (parseOf l = (0, 0, 5)) := Lib.hid (by rw [HP.out]; unfold parseAt; rw [if_pos hs])
    have hsi : (s : Int) < 0 ∨ (65536 : Int) < (s : Int) := by omega
    clear hs hle
    go_enter Tryd.func11, Tryd.ntmps11
    go_wp2_with (first | (go_at_call 15; refine HS.out.mono ?_; rintro e w1 ⟨rfl, hO1⟩) | (go_at_call 8; refine (format_out hsi).mono ?_; rintro e w2 ⟨rfl, rfl⟩))
    go_ret3
    rw [hpa.out]
    exact ⟨rfl, hO1⟩
  · obtain ⟨b1, hb1⟩ : ∃ b, (hexLine s).isPrefixOf l = b := ⟨_, rfl⟩
    obtain ⟨b2, hb2⟩ : ∃ b, l.isPrefixOf (hexLine s) = b := ⟨_, rfl⟩
    have hpa : Hid (parseOf l = if b1 then (s, (hexLine s).length, 0) else if b2 then (0, 0, 7) else (0, 0, 5)) := Lib.hid (by rw [HP.out]; unfold parseAt; rw [if_neg hs, hb1, hb2])
    have HF := Lib.hid (fun w (h : Tabs w) => format_c h (show s ≤ 65536 by omega))
    have H1 := Lib.hid (fun (w2 : World) (A2 : Option Addr) (c2 : Nat) (hO : Only [] w w2) (ho : Own w2 A2 (hexLine s).length c2 (hexLine s)) =>
      hasPrefix_c (HR.out.only' hO hB (by simp)) ho.2.2.2 c c2 hnc hcm)
    have H2 := Lib.hid (fun (w2 : World) (A2 : Option Addr) (c2 : Nat) (hO : Only [] w w2) (ho : Own w2 A2 (hexLine s).length c2 (hexLine s)) =>
      hasPrefix_c ho.2.2.2 (HR.out.only' hO hB (by simp)) c2 c ho.2.1 ho.2.2.1)
    rw [hb1] at H1
    rw [hb2] at H2
    clear hb1 hb2 hle
    generalize hE : parseOf l = res at hpa ⊢
    clear hE
    obtain ⟨L, hL⟩ : ∃ L, hexLine s = L := ⟨_, rfl⟩
    rw [hL] at hpa HF H1 H2
    clear hL
    cases b1 with
    | true =>
      go_enter Tryd.func11, Tryd.ntmps11
      go_wp2_with (first | (go_at_call 15; refine HS.out.mono ?_; rintro e w1 ⟨rfl, hO1⟩) | (go_at_call 8; refine (HF.out _ (HT.out.only hO1)).mono ?_; rintro e w2 ⟨A2, c2, rfl, ho, hO2⟩; have HO := Lib.hid ho; clear ho) | (go_at_call 16; (with_reducible refine (H1.out _ A2 c2 (hO1.trans hO2) HO.out).mono ?_); rintro e w3 ⟨rfl, rfl⟩))
      go_ret3
      have := hpa.out; simp only [if_true] at this; rw [this]
      exact ⟨rfl, hO1.trans hO2⟩
    | false =>
      cases b2 with
      | true =>
        go_enter Tryd.func11, Tryd.ntmps11
        go_wp2_with (first | (go_at_call 15; refine HS.out.mono ?_; rintro e w1 ⟨rfl, hO1⟩) | (go_at_call 8; refine (HF.out _ (HT.out.only hO1)).mono ?_; rintro e w2 ⟨A2, c2, rfl, ho, hO2⟩; have HO := Lib.hid ho; clear ho) | (go_at_call 16; (with_reducible refine (H1.out _ A2 c2 (hO1.trans hO2) HO.out).mono ?_); rintro e w3 ⟨rfl, rfl⟩) | (go_at_call 16; (with_reducible refine (H2.out _ A2 c2 (hO1.trans hO2) HO.out).mono ?_); rintro e w4 ⟨rfl, rfl⟩))
        go_ret3
        have := hpa.out; simp only [Bool.false_eq_true, if_true, if_false] at this; rw [this]
        exact ⟨rfl, hO1.trans hO2⟩
      | false =>
        go_enter Tryd.func11, Tryd.ntmps11
        go_wp2_with (first | (go_at_call 15; refine HS.out.mono ?_; rintro e w1 ⟨rfl, hO1⟩) | (go_at_call 8; refine (HF.out _ (HT.out.only hO1)).mono ?_; rintro e w2 ⟨A2, c2, rfl, ho, hO2⟩; have HO := Lib.hid ho; clear ho) | (go_at_call 16; (with_reducible refine (H1.out _ A2 c2 (hO1.trans hO2) HO.out).mono ?_); rintro e w3 ⟨rfl, rfl⟩) | (go_at_call 16; (with_reducible refine (H2.out _ A2 c2 (hO1.trans hO2) HO.out).mono ?_); rintro e w4 ⟨rfl, rfl⟩))
        go_ret3
        have := hpa.out; simp only [Bool.false_eq_true, if_true, if_false] at this; rw [this]
        exact ⟨rfl, hO1.trans hO2⟩
end Go.Proofs.YthihogahaboknaaDoor
