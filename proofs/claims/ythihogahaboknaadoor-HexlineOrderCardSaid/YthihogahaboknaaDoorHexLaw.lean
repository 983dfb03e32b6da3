/-
  The example of the chapter on hexline, walked: 'alive' returns true; the laws HexlineFormatMatchesReference, HexlineParseMatchesReference.
-/
import Derived.Test.YthihogahaboknaaDoorHexRef2
import Derived.Test.YthihogahaboknaaDoorFrame
namespace Go.Proofs.YthihogahaboknaaDoor
open Go.RowKit Go.BigFrame
set_option linter.unusedVariables false
set_option linter.unusedSimpArgs false
attribute [local go_sem ↓] sliced_cut run_min2 run_max2
attribute [local go_sem] cutA_zero

theorem only_nil_below {w w' : World} (h : Only [] w w') : Below w.heap.size w w' := h.to_below (Nat.le_refl _) (by simp)
/-- 'string(b)' in any later world. -/
theorem own_str {w : World} {A : Option Addr} {n c : Nat} {l : List UInt8} (h : Own w A n c l) : ∀ w', Only [] w w' → (convert 22 9 (.slice A n c)).run Tryd.prog w' = .ok (.string ⟨l.toArray⟩) w' :=
  fun w' ho => run_string_of Tryd.underlying22 Tryd.underlying5 Tryd.underlying9 (h.2.2.2.only' ho (Nat.le_refl _) (by simp)) c
theorem line26 : hexLine 26 = [49, 97, 13, 10] := by
  rw [hexLine, hexOf_big (by omega), hexOf_small (by omega)]; rfl
theorem p1A : parseOf [49, 65] = (0, 0, 5) := (parse_ref _).trans (by decide)
theorem p1a : parseOf [49, 97] = (0, 0, 7) := (parse_ref _).trans (by decide)

set_option maxHeartbeats 1000000 in
theorem alive_c {w : World} (hT : Tabs w) :
    Calls Tryd.prog 10 #[] w fun e w' => e = .returned (.bool true) ∧ Only [] w w' := by
  have kc := fun (w : World) (C : Array Value) (n c : Nat) => Lib.run_convert_bytes_const (P := Tryd.prog) w 22 5 C n c Tryd.underlying22 Tryd.underlying5
  have HT := Lib.hid hT
  have HF := Lib.hid (format_c hT (show 26 ≤ 65536 by omega))
  rw [line26] at HF
  clear hT
  go_enter Tryd.func10, Tryd.ntmps10
  go_wp2_with fail
  refine HF.out.mono ?_
  rintro e w1 ⟨A1, c1, rfl, ho1, hO1⟩
  have HO1 := Lib.hid hO1
  have HOwn := Lib.hid ho1
  clear hO1 ho1
  go_wp2_with fail
  refine (parse_c (l := [49, 65]) ((HT.out.only HO1.out).only ((Only.refl [] w1).alloc _)) (Reads.fresh w1 [49, 65] #[.int .u8 49, .int .u8 65] (by rfl) 5 (2, 3) (w1.heap.size + 1) (by omega)) (by simp) (Nat.le_refl _) (by decide)).mono ?_
  rintro e w2 ⟨rfl, hO2⟩
  have HO2 := Lib.hid ((HO1.out.alloc (.cells #[.int .u8 49, .int .u8 65] 5 (2, 3))).trans hO2)
  have HO12 := Lib.hid (((Only.refl [] w1).alloc (.cells #[.int .u8 49, .int .u8 65] 5 (2, 3))).trans hO2)
  clear hO2
  rw [p1A]
  unfold ansV
  go_wp2_with fail
  refine (parse_c (l := [49, 97]) ((HT.out.only HO2.out).only ((Only.refl [] w2).alloc _)) (Reads.fresh w2 [49, 97] #[.int .u8 49, .int .u8 97] (by rfl) 5 (2, 3) (w2.heap.size + 1) (by omega)) (by simp) (Nat.le_refl _) (by decide)).mono ?_
  rintro e w3 ⟨rfl, hO3⟩
  have hcv : (convert 22 9 (.slice A1 4 c1)).run Tryd.prog w3 = .ok (.string ⟨#[49, 97, 13, 10]⟩) w3 := own_str HOwn.out w3 (HO12.out.trans (((Only.refl [] w2).alloc (.cells #[.int .u8 49, .int .u8 97] 5 (2, 3))).trans hO3))
  have HO3 := Lib.hid ((HO2.out.alloc (.cells #[.int .u8 49, .int .u8 97] 5 (2, 3))).trans hO3)
  clear hO3
  rw [p1a]
  unfold ansV
  go_wp2_with fail
  go_ret
  exact ⟨rfl, HO3.out⟩

/-! ### HexlineFormatMatchesReference -/
set_option maxHeartbeats 1000000 in
theorem formatMatches_walk (n : Int) (w : World) (hT : Tabs w) (_ : (Lit.int .i64 n).wf = true) :
    Calls Tryd.prog 3 #[.int .i64 n] w fun e w' => e = .returned (.bool true) ∧ Below w.heap.size w w' := by
  have HT := Lib.hid hT
  clear hT
  by_cases h : n < 0 ∨ 65536 < n
  · have HF1 := Lib.hid (fun w => format_out (w := w) h)
    have HF2 := Lib.hid (fun w => refFormat_out (w := w) h)
    clear h
    have hcv : ∀ w, (convert 22 9 (.slice none 0 0)).run Tryd.prog w = .ok (.string ⟨#[]⟩) w := fun w => run_string_of (l := []) (B := 0) Tryd.underlying22 Tryd.underlying5 Tryd.underlying9 Reads.none_ 0
    go_enter Tryd.func3, Tryd.ntmps3
    go_wp2_with (first | (go_at_call 8; refine (HF1.out _).mono ?_; rintro e w1 ⟨rfl, rfl⟩) | (go_at_call 9; refine (HF2.out _).mono ?_; rintro e w2 ⟨rfl, rfl⟩) | (go_at_call 10; refine (alive_c HT.out).mono ?_; rintro e w3 ⟨rfl, hO3⟩))
    go_ret
    exact ⟨rfl, only_nil_below hO3⟩
  · obtain ⟨m, rfl⟩ : ∃ m : Nat, n = (m : Int) := ⟨n.toNat, by omega⟩
    have hm : m ≤ 65536 := by omega
    clear h
    go_enter Tryd.func3, Tryd.ntmps3
    go_wp2_with (first | (go_at_call 8; refine (format_c HT.out hm).mono ?_; rintro e w1 ⟨A1, c1, rfl, ho1, hO1⟩; have HO1 := Lib.hid hO1; have HW1 := Lib.hid ho1; clear hO1 ho1) | (go_at_call 9; refine (refFormat_c hm).mono ?_; rintro e w2 ⟨A2, c2, rfl, ho2, hO2⟩; have HO2 := Lib.hid hO2; have HW2 := Lib.hid ho2; clear hO2 ho2) | (go_at_call 10; refine (alive_c (HT.out.only (HO1.out.trans HO2.out))).mono ?_; rintro e w3 ⟨rfl, hO3⟩; have hcv1 := own_str HW1.out w3 (HO2.out.trans hO3); have hcv2 := own_str HW2.out w3 hO3; have HO3 := Lib.hid hO3; clear hO3))
    go_ret
    exact ⟨by simp, only_nil_below ((HO1.out.trans HO2.out).trans HO3.out)⟩

/-! ### HexlineParseMatchesReference -/
set_option maxHeartbeats 1000000 in
theorem parseMatches_walk (A : Option Addr) (n c : Nat) (l : List UInt8) (w : World) (hT : Tabs w) (h : l.length = n ∧ n ≤ c ∧ c ≤ maxLen ∧ Reads w w.heap.size A n (vbs l)) :
    Calls Tryd.prog 4 #[.slice A n c] w fun e w' => e = .returned (.bool true) ∧ Below w.heap.size w w' := by
  obtain ⟨hl, hnc, hcm, hr⟩ := h
  have HT := Lib.hid hT
  have HR := Lib.hid hr
  clear hT hr hl
  by_cases hbig : 1000 < n
  · have hbi : (1000 : Int) < (n : Int) := by omega
    go_enter Tryd.func4, Tryd.ntmps4
    go_wp2_with (go_at_call 10; refine (alive_c HT.out).mono ?_; rintro e w3 ⟨rfl, hO3⟩)
    go_ret
    exact ⟨rfl, only_nil_below hO3⟩
  · have hbi : ¬ (1000 : Int) < (n : Int) := by omega
    have HP := Lib.hid (parse_c HT.out HR.out (Nat.le_refl _) hnc hcm)
    have HQ := Lib.hid (fun w1 (h : Only [] w w1) => refParse_c (HR.out.only' h (Nat.le_refl _) (by simp)) hnc hcm)
    rw [← parse_ref l] at HQ
    generalize parseOf l = a at *
    unfold ansV at HP HQ
    go_enter Tryd.func4, Tryd.ntmps4
    go_wp2_with (first | (go_at_call 11; refine HP.out.mono ?_; rintro e w1 ⟨rfl, hO1⟩; have HO1 := Lib.hid hO1; clear hO1) | (go_at_call 12; refine (HQ.out _ HO1.out).mono ?_; rintro e w2 ⟨rfl, hW⟩; rw [hW]; clear hW) | (go_at_call 10; refine (alive_c (HT.out.only HO1.out)).mono ?_; rintro e w3 ⟨rfl, hO3⟩))
    go_ret
    exact ⟨by simp, only_nil_below (HO1.out.trans hO3)⟩
end Go.Proofs.YthihogahaboknaaDoor
