/-
  The example of the chapter on framer, walked: 'alive' returns true; the laws FramerEncodeMatchesReference, FramerEncodeLength.
-/
import Derived.Test.YtbphkdaciebgmaaDoorEncode
import Derived.Test.YtbphkdaciebgmaaDoorFramerRef2
import Derived.Test.YtbphkdaciebgmaaDoorFrame
import Derived.LoopTactic
namespace Go.Proofs.YtbphkdaciebgmaaDoor
open Go.RowKit Go.BigFrame
set_option linter.unusedVariables false
set_option linter.unusedSimpArgs false
attribute [local go_sem ↓] sliced_cut run_min2 run_max2
attribute [local go_sem] cutA_zero

theorem only_nil_trans {w w' : World} (h : Only [] w w') : Below w.heap.size w w' := h.to_below (Nat.le_refl _) (by simp)
/-- 'string(b)' in any later world. -/
theorem row_str {w : World} {A : Option Addr} {n c : Nat} {l : List UInt8} (h : RowAt w 5 A n c (vbs l)) : ∀ w', Only [] w w' → (convert 26 9 (.slice A n c)).run Tryd.prog w' = .ok (.string ⟨l.toArray⟩) w' :=
  fun w' ho => run_string_of Tryd.underlying26 Tryd.underlying5 Tryd.underlying9 (h.reads.only' ho (Nat.le_refl _) (by simp)) c

theorem body_abc : bodyOf 2 [97, 98, 99] = [50, 13, 10, 97, 98, 13, 10, 49, 13, 10, 99, 13, 10, 48, 13, 10, 13, 10] := by
  rw [bodyOf, chunksOf_pos (by omega) (by simp), chunksOf_pos (by omega) (by simp)]
  simp only [List.drop_succ_cons, List.drop_zero, List.take_succ_cons, List.take_zero]
  rw [List.take_nil, List.drop_nil, chunksOf_nil, chunkOf_nil]
  simp only [chunkOf, hexLine, List.length_cons, List.length_nil]
  rw [hexOf_small (by omega), hexOf_small (by omega)]
  rfl
set_option maxHeartbeats 1000000 in
theorem alive_c {w : World} (hT : Tz w) :
    Calls Tryd.prog 14 #[] w fun e w' => e = .returned (.bool true) ∧ Only [] w w' := by
  have kc := fun (w : World) (C : Array Value) (n c : Nat) => Lib.run_convert_bytes_const (P := Tryd.prog) w 26 5 C n c Tryd.underlying26 Tryd.underlying5
  have hO := (Only.refl [] w).alloc (.cells #[.int .u8 97, .int .u8 98, .int .u8 99] 5 (3, 4))
  have HE := Lib.hid (encode_c (k := 2) (d := 3) (hT.only hO) ((Reads.fresh w [97, 98, 99] #[.int .u8 97, .int .u8 98, .int .u8 99] rfl 5 (3, 4) (w.heap.size + 1) (by omega)).more (by simp)) (Nat.le_refl _) (by unfold maxLen; simp) (by simp) (by omega) (by omega))
  have HO := Lib.hid hO
  rw [body_abc] at HE
  clear hT hO
  go_enter Tryd.func14, Tryd.ntmps14
  go_wp2_with (go_at_call 20; refine HE.out.mono ?_; rintro e w1 ⟨A1, c1, rfl, hR1, hk1, hO1⟩; have hcv : (convert 26 9 (.slice A1 18 c1)).run Tryd.prog w1 = .ok (.string ⟨#[50, 13, 10, 97, 98, 13, 10, 49, 13, 10, 99, 13, 10, 48, 13, 10, 13, 10]⟩) w1 := row_str hR1 w1 (Only.refl _ _); have HO1 := Lib.hid hO1; clear hR1 hk1 hO1)
  go_ret
  exact ⟨rfl, HO.out.trans HO1.out⟩

/-! ### FramerEncodeMatchesReference -/
set_option maxHeartbeats 1000000 in
theorem encodeMatches_walk (A : Option Addr) (n c : Nat) (l : List UInt8) (k : Int) (w : World) (hT : Tz w) (h : l.length = n ∧ n ≤ c ∧ c ≤ maxLen ∧ Reads w w.heap.size A n (vbs l)) (_ : (Lit.int .i64 k).wf = true) :
    Calls Tryd.prog 4 #[.slice A n c, .int .i64 k] w fun e w' => e = .returned (.bool true) ∧ Below w.heap.size w w' := by
  obtain ⟨hl, hnc, hcm, hr⟩ := h
  have HT := Lib.hid hT
  have HR := Lib.hid hr
  clear hT hr hl
  by_cases hbig : 3000 < n
  · have hbi : (3000 : Int) < (n : Int) := by omega
    go_enter Tryd.func4, Tryd.ntmps4
    go_wp2_with (go_at_call 14; refine (alive_c HT.out).mono ?_; rintro e w3 ⟨rfl, hO3⟩)
    go_ret
    exact ⟨rfl, only_nil_trans hO3⟩
  · have hbi : ¬ (3000 : Int) < (n : Int) := by omega
    by_cases hk : k < 1 ∨ 65536 < k
    · have HE := Lib.hid (encode_bad w hk (.slice A n c))
      have HF := Lib.hid (fun w => refEncode_bad w hk (.slice A n c))
      have HG := Lib.hid (fun w => new_bad w hk)
      have hcv : ∀ w, (convert 26 9 (.slice none 0 0)).run Tryd.prog w = .ok (.string ⟨#[]⟩) w := fun w => run_string_of (l := []) (B := 0) Tryd.underlying26 Tryd.underlying5 Tryd.underlying9 Reads.none_ 0
      clear hk
      go_enter Tryd.func4, Tryd.ntmps4
      go_wp2_with (first | (go_at_call 20; refine HE.out.mono ?_; rintro e w1 ⟨rfl, hO1⟩; have HO1 := Lib.hid hO1; clear hO1) | (go_at_call 21; refine (HF.out _).mono ?_; rintro e w2 ⟨rfl, rfl⟩) | (go_at_call 15; refine (HG.out _).mono ?_; rintro e w4 ⟨rfl, rfl⟩) | (go_at_call 14; refine (alive_c (HT.out.only HO1.out)).mono ?_; rintro e w3 ⟨rfl, hO3⟩))
      go_ret
      exact ⟨by simp, only_nil_trans (HO1.out.trans hO3)⟩
    · obtain ⟨k, rfl⟩ : ∃ m : Nat, k = (m : Int) := ⟨k.toNat, by omega⟩
      have hk1 : 1 ≤ k := by omega
      have hk2 : k ≤ 65536 := by omega
      have HE := Lib.hid (encode_c HT.out HR.out hnc hcm (by omega) hk1 hk2)
      have HF := Lib.hid (fun w1 (h : Only [] w w1) => refEncode_c (HR.out.only' h (Nat.le_refl _) (by simp)) h.size hnc hcm (by omega) hk1 hk2)
      have HG := Lib.hid (fun w => new_c w hk1 hk2)
      clear hk hk1 hk2
      generalize bodyOf k l = L at HE HF
      go_enter Tryd.func4, Tryd.ntmps4
      go_wp2_with (first | (go_at_call 20; refine HE.out.mono ?_; rintro e w1 ⟨A1, c1, rfl, hR1, hk1, hO1⟩; have HO1 := Lib.hid hO1; have HR1 := Lib.hid hR1; clear hR1 hk1 hO1) | (go_at_call 21; refine (HF.out _ HO1.out).mono ?_; rintro e w2 ⟨A2, c2, rfl, hR2, hk2, hO2⟩; have HO2 := Lib.hid hO2; have HR2 := Lib.hid hR2; clear hR2 hk2 hO2) | (go_at_call 15; refine (HG.out _).mono ?_; rintro e w4 ⟨rfl, hF4, hO4⟩; have HO4 := Lib.hid hO4; clear hF4 hO4) | (go_at_call 14; refine (alive_c (HT.out.only (HO1.out.trans (HO2.out.trans HO4.out)))).mono ?_; rintro e w3 ⟨rfl, hO3⟩; have hcv1 := row_str HR1.out w3 (HO2.out.trans (HO4.out.trans hO3)); have hcv2 := row_str HR2.out w3 (HO4.out.trans hO3); have HO3 := Lib.hid hO3; clear hO3))
      go_ret
      exact ⟨by simp, only_nil_trans (HO1.out.trans (HO2.out.trans (HO4.out.trans HO3.out)))⟩

/-! ### FramerEncodeLength -/
end Go.Proofs.YtbphkdaciebgmaaDoor
