/-
  The contract of bytes.Clone.
-/
import Derived.Test.YtfchkaoifbcgkaaDoorText
import Derived.RegionTactic
import Derived.ChangeAlike
import Derived.Deep.QuietTactic
import Derived.BigQuiet
namespace Go.Proofs.YtfchkaoifbcgkaaDoor
open Go.RowKit Go.BigFrame
set_option linter.unusedVariables false
set_option linter.unusedSimpArgs false
attribute [local go_sem ↓] sliced_cut run_min2 run_max2
attribute [local go_sem] cutA_zero

set_option maxHeartbeats 400000 in
set_option maxRecDepth 100000 in
theorem clone_none (w : World) :
    Calls Tryd.prog 23 #[.slice none 0 0] w fun e w' => e = .returned (.slice none 0 0) ∧ w = w' := by
  have he : ∀ w : World, (binOp .eql 26 (.slice none 0 0) (.slice none 0 0)).run Tryd.prog w = .ok (.bool true) w := fun _ => rfl
  go_enter Tryd.func23, Tryd.ntmps23
  go_wp2
  go_ret
  exact ⟨rfl, rfl⟩
set_option maxHeartbeats 400000 in
set_option maxRecDepth 100000 in
theorem clone_some {w : World} {B : Nat} {g : Addr} {n c : Nat} {l : List UInt8} (hr : Reads w B (some g) n (vbs l)) (hB : B ≤ w.heap.size) (hn : n ≤ 70368744177664) :
    Calls Tryd.prog 23 #[.slice (some g) n c] w fun e w' => ∃ G d, e = .returned (.slice G n d) ∧ RowAt w' 5 G n d (vbs l) ∧ (∀ k, k ∈ rowT G → w.heap.size ≤ k) ∧ Only [] w w' := by
  obtain ⟨i0, hi, hz0, hz1, hz2⟩ := info_parts info_byte
  have hrow := Lib.hid (RowAt.of_blk (Blk.new w 5 []) (by simp))
  have hsrc := Lib.hid (hr.only' ((Only.refl [] w).alloc (.cells #[] 5)) hB (by simp))
  have hb1 := Lib.hid (show 0 + n ≤ maxLen by unfold maxLen; omega)
  have hb2 := Lib.hid (show (0 + n) * 1 ≤ 140737488355328 by omega)
  clear hr
  have he : ∀ w : World, (binOp .eql 26 (.slice (some g) n c) (.slice none 0 0)).run Tryd.prog w = .ok (.bool false) w := fun _ => rfl
  go_enter Tryd.func23, Tryd.ntmps23
  go_wp2_with (first | (with_reducible refine wp_rowAppend rfl (.tmp 5) (.tmp 6) 26 rfl 5 i0 _ 1 Tryd.underlying26 hi hz0 hz1 hz2 rfl _ 0 0 [] rfl hrow.out B (some g) n c (vbs l) rfl hsrc.out (vbs_one _) hb1.out hb2.out n (Nat.zero_add n).symm ?_; intro A2 c2 w2 HR2 hO2 HK2))
  go_ret
  refine ⟨A2, c2, rfl, by simpa using HR2.out, fun k hk => ?_, ?_⟩
  · rcases HK2.out k hk with h | h
    · simp [rowT_some] at h; omega
    · simp at h; omega
  · exact ((Only.refl [] w).alloc _).join hO2 (fun k hk => .inr (by simp [rowT_some] at hk; omega))
/-- A copy in a block of its own (nil stays nil). -/
theorem clone_c {w : World} {A : Option Addr} {n c : Nat} {l : List UInt8} (h : RowAt w 5 A n c (vbs l)) (hn : n ≤ 70368744177664) :
    Calls Tryd.prog 23 #[.slice A n c] w fun e w' => ∃ G d, e = .returned (.slice G n d) ∧ RowAt w' 5 G n d (vbs l) ∧ (∀ k, k ∈ rowT G → w.heap.size ≤ k) ∧ Only [] w w' := by
  cases A with
  | none =>
    have hc := h.none_ rfl
    have hn0 : n = 0 := by have := h.le; omega
    subst hc hn0
    refine (clone_none w).mono ?_
    rintro e w' ⟨rfl, rfl⟩
    exact ⟨none, 0, rfl, h, by simp [rowT], Only.refl _ _⟩
  | some g => exact clone_some h.reads (Nat.le_refl _) hn
end Go.Proofs.YtfchkaoifbcgkaaDoor
