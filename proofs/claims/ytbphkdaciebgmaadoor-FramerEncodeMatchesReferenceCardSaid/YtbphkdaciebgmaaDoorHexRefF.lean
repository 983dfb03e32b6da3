/-
  Contracts of the reference of layer 3: Hex, Format.
-/
import Derived.Test.YtbphkdaciebgmaaDoorText
import Derived.Test.YtbphkdaciebgmaaDoorHex
import Derived.LoopTactic
import Derived.RegionTactic
import Derived.ChangeAlike
import Derived.Deep.QuietTactic
import Derived.BigQuiet
namespace Go.Proofs.YtbphkdaciebgmaaDoor
open Go.RowKit Go.BigFrame
set_option linter.unusedVariables false
set_option linter.unusedSimpArgs false
attribute [local go_sem ↓] sliced_cut run_min2 run_max2
attribute [local go_sem] cutA_zero

/-! ### Hex -/
theorem hexS_at : ∀ i : Fin 16, (hexS[i.val]'(by have := i.isLt; show i.val < 16; omega)) = dg i.val := by decide
theorem hex_at {u : Nat} (h : u < 16) (w : World) :
    (Instr.index 9 (.string ⟨#[48, 49, 50, 51, 52, 53, 54, 55, 56, 57, 97, 98, 99, 100, 101, 102]⟩) (.int .i64 (u : Int))).run Tryd.prog w = .ok (.int .u8 ((dg u).toNat : Int)) w := by
  have := run_index_str hexS u (show u < 16 by omega) w
  rw [show hexS[u]'(show u < 16 by omega) = dg u from hexS_at ⟨u, h⟩] at this
  exact this
set_option maxHeartbeats 1600000 in
theorem refHex_c {w : World} {n : Nat} (hn : n ≤ 65536) :
    Calls Tryd.prog 33 #[.int .i64 n] w fun e w' => e = .returned (.string ⟨(hexOf n).toArray⟩) ∧ Only [] w w' := by
  go_enter Tryd.func33, Tryd.ntmps33
  go_wp2
  go_loopw [0, 3] (fun s0 s3 w' => ∃ (u : Nat) (suf : List UInt8), s0 = .int .i64 u ∧ s3 = .string ⟨suf.toArray⟩ ∧ u ≤ 65536 ∧ Hid (hexOf n = hexOf u ++ suf) ∧ Hid (Only [] w w')) (fun s0 _ _ => (intOf s0).toNat)
  case atStart => exact ⟨n, [], rfl, rfl, hn, Lib.hid (by simp), Lib.hid (Only.refl _ _)⟩
  case round =>
    obtain ⟨u, suf, rfl, rfl, hu, hhex, hO⟩ := hrel
    have hsuf : suf.length ≤ 5 := by
      have := congrArg List.length hhex.out
      have h5 := hexOf_le hn
      rw [List.length_append] at this
      omega
    have hsz : ¬ (9223372036854775807 < 1 + suf.length) := by omega
    by_cases h16 : 16 ≤ u
    · have hge : (16 : Int) ≤ (u : Int) := by omega
      obtain ⟨dd, hdd⟩ : ∃ d, dg (u % 16) = d := ⟨_, rfl⟩
      have hdig : ∀ w, (Instr.index 9 (.string ⟨#[48, 49, 50, 51, 52, 53, 54, 55, 56, 57, 97, 98, 99, 100, 101, 102]⟩) (.int .i64 ((u : Int) % 16))).run Tryd.prog w = .ok (.int .u8 (dd.toNat : Int)) w := fun w => by
        have := hex_at (u := u % 16) (by omega) w
        rw [hdd] at this
        exact this
      have HD := Lib.hid hdd
      have hcv := fun W => one_string W dd
      have hap := str_cons dd suf
      clear hdd
      go_wp2
      go_roundw
      case rel => exact ⟨u / 16, dd :: suf, by simp, rfl, by omega, Lib.hid (by rw [hhex.out, hexOf_big h16, HD.out, List.append_assoc]; rfl), Lib.hid (hO.out.alloc _)⟩
      case measure => simp [intOf]; omega
    · have hge : ¬ (16 : Int) ≤ (u : Int) := by omega
      obtain ⟨dd, hdd⟩ : ∃ d, dg u = d := ⟨_, rfl⟩
      have hdig : ∀ w, (Instr.index 9 (.string ⟨#[48, 49, 50, 51, 52, 53, 54, 55, 56, 57, 97, 98, 99, 100, 101, 102]⟩) (.int .i64 (u : Int))).run Tryd.prog w = .ok (.int .u8 (dd.toNat : Int)) w := fun w => by
        have := hex_at (u := u) (by omega) w
        rw [hdd] at this
        exact this
      have HD := Lib.hid hdd
      have hcv := fun W => one_string W dd
      have hap := str_cons dd suf
      have hres : Hid (hexOf n = dd :: suf) := Lib.hid (by rw [hhex.out, hexOf_small (n := u) (by omega), HD.out]; rfl)
      clear hdd
      go_wp2
      go_ret
      refine ⟨?_, hO.out.alloc _⟩
      rw [hres.out]
      rfl
set_option maxHeartbeats 800000 in
theorem refFormat_c {w : World} {n : Nat} (hn : n ≤ 65536) :
    Calls Tryd.prog 29 #[.int .i64 n] w fun e w' => ∃ A c, e = .returned (.tuple #[.slice A (hexLine n).length c, .int .i64 0]) ∧ Own w' A (hexLine n).length c (hexLine n) ∧ Only [] w w' := by
  have HC := Lib.hid (refHex_c (w := w) hn)
  have hlen5 := hexOf_le hn
  have h0 : ¬ (n : Int) < 0 := by omega
  have h1 : ¬ (65536 : Int) < (n : Int) := by omega
  have hap : (⟨(hexOf n).toArray⟩ : ByteArray) ++ ⟨#[13, 10]⟩ = ⟨(hexLine n).toArray⟩ := str_append (hexOf n) [13, 10]
  have hsz : ¬ (9223372036854775807 < (hexOf n).length + 2) := by omega
  have hll : Hid ((hexLine n).length ≤ 140737488355328) := Lib.hid (by rw [hexLine_length]; omega)
  generalize hexOf n = H at *
  go_enter Tryd.func29, Tryd.ntmps29
  go_wp2_with (go_at_call 33; refine HC.out.mono ?_; rintro e w1 ⟨rfl, hO1⟩; have HO1 := Lib.hid hO1; clear hO1; obtain ⟨A2, c2, w2, hcv, ho, hO2⟩ := to_bytes w1 (hexLine n) hll.out; have HO := Lib.hid ho; have HO2 := Lib.hid hO2; clear ho hO2)
  go_ret2
  exact ⟨A2, c2, rfl, HO.out, HO1.out.trans HO2.out⟩
set_option maxHeartbeats 800000 in
theorem refFormat_out {w : World} {n : Int} (hn : n < 0 ∨ 65536 < n) :
    Calls Tryd.prog 29 #[.int .i64 n] w fun e w' => e = .returned (.tuple #[.slice none 0 0, .int .i64 3]) ∧ w = w' := by
  by_cases h0 : n < 0
  · clear hn
    go_enter Tryd.func29, Tryd.ntmps29
    go_wp2
    go_ret2
    exact ⟨rfl, rfl⟩
  · have h1 : 65536 < n := by omega
    clear hn
    go_enter Tryd.func29, Tryd.ntmps29
    go_wp2
    go_ret2
    exact ⟨rfl, rfl⟩
end Go.Proofs.YtbphkdaciebgmaaDoor
