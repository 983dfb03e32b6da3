/-
  Contracts: the laws' own example, and that it is looked up as the chapter says.
-/
import Derived.Test.YtmgnomahnndeaaaDoorLook2
namespace Go.Proofs.YtmgnomahnndeaaaDoor
open Go.RowKit Go.BigFrame
set_option linter.unusedVariables false
set_option linter.unusedSimpArgs false

def five : VT := .mk 1 ByteArray.empty 5 false none 0 [] none 0 [] []
def exB (h : Nat) : VT := .mk 4 ByteArray.empty 0 false none 0 [] (some ⟨h, 0, none⟩) 1 [⟨#[98]⟩] [five]
def exA (h : Nat) : VT := .mk 4 ByteArray.empty 0 false none 0 [] (some ⟨h + 1, 0, none⟩) 1 [⟨#[97]⟩] [exB h]
theorem five_in (w : World) (Q : Nat → Prop) : five.In w Q :=
  .mk _ (by decide) (by decide) (by decide) (by decide) (by decide) rfl (fun h => absurd h (by decide)) (fun h => absurd h (by decide)) (by intro x hx; cases hx) (by intro x hx; cases hx) (by intro x hx; cases hx)
theorem ex_in {w : World} {h : Nat} {Q : Nat → Prop} (hq : Q h ∧ Q (h + 1)) (h1 : Blk w h 57 [.string ⟨#[98]⟩, .int .i64 1, .string ByteArray.empty, .int .i64 5, .bool false, .slice none 0 0, .slice none 0 0])
    (h2 : Blk w (h + 1) 57 [.string ⟨#[97]⟩, .int .i64 4, .string ByteArray.empty, .int .i64 0, .bool false, .slice none 0 0, .slice (some ⟨h, 0, none⟩) 1 1]) : (exA h).In w Q := by
  have hB : (exB h).In w Q := by
    refine .mk _ (of_decide_eq_true rfl) (of_decide_eq_true rfl) (of_decide_eq_true rfl) (of_decide_eq_true rfl) (of_decide_eq_true rfl) rfl (fun h => absurd h (by simp [exB, VT.xs])) (fun _ => ⟨h, 0, rfl, hq.1, fun i x key hk hx => ?_⟩) (by intro x hx; cases hx) (fun x hx => ?_) (fun k hk => ?_)
    · match i, hk, hx with
      | 0, hk, hx =>
        simp [exB, VT.ks, VT.vs] at hk hx
        subst hk hx
        exact ⟨h1.cell 0, h1.cell 1, h1.cell 2, h1.cell 3, h1.cell 4, h1.cell 5, h1.cell 6⟩
      | n + 1, hk, hx => simp [exB, VT.ks] at hk
    · simp [exB, VT.vs] at hx; subst hx; exact five_in w Q
    · simp [exB, VT.ks] at hk; subst hk; decide
  refine .mk _ (of_decide_eq_true rfl) (of_decide_eq_true rfl) (of_decide_eq_true rfl) (of_decide_eq_true rfl) (of_decide_eq_true rfl) rfl (fun h => absurd h (by simp [exA, VT.xs])) (fun _ => ⟨h + 1, 0, rfl, hq.2, fun i x key hk hx => ?_⟩) (by intro x hx; cases hx) (fun x hx => ?_) (fun k hk => ?_)
  · match i, hk, hx with
    | 0, hk, hx =>
      simp [exA, VT.ks, VT.vs] at hk hx
      subst hk hx
      exact ⟨h2.cell 0, h2.cell 1, h2.cell 2, h2.cell 3, h2.cell 4, h2.cell 5, h2.cell 6⟩
    | n + 1, hk, hx => simp [exA, VT.ks] at hk
  · simp [exA, VT.vs] at hx; subst hx; exact hB
  · simp [exA, VT.ks] at hk; subst hk; decide

set_option maxHeartbeats 1000000 in
theorem example_c (w : World) : Calls Tryd.prog 27 #[] w fun e w' => ∃ h, e = .returned (exA h).val ∧ (exA h).In w' (· < w'.heap.size) ∧ Bel w w' := by
  go_enter Tryd.func27, Tryd.ntmps27
  go_wp2_with fail
  obtain ⟨W1, hW1⟩ : ∃ W1, W1 = (w.alloc (.cells #[.int .i64 4, .string ⟨#[]⟩, .int .i64 0, .bool false, .slice none 0 0, .slice (some ⟨w.heap.size + 1 + 1 + 1, 0, none⟩) 1 1] 34)).alloc (.cells #[.int .i64 1, .string ⟨#[]⟩, .int .i64 5, .bool false, .slice none 0 0, .slice none 0 0] 34) := ⟨_, rfl⟩
  have hs1 : W1.heap.size = w.heap.size + 1 + 1 := by rw [hW1]; simp
  have hr : Blk W1 w.heap.size 34 (exA (w.heap.size + 1 + 1)).cs := by rw [hW1]; exact (Blk.new w 34 (exA (w.heap.size + 1 + 1)).cs).alloc _
  have hb : Bel w W1 := by rw [hW1]; exact (Bel.alloc w _).trans (Bel.alloc _ _)
  rw [← hW1]
  have h1 : Blk (W1.alloc (.cells #[.string ⟨#[98]⟩, .int .i64 1, .string ⟨#[]⟩, .int .i64 5, .bool false, .slice none 0 0, .slice none 0 0] 57)) (w.heap.size + 1 + 1) 57 [.string ⟨#[98]⟩, .int .i64 1, .string ByteArray.empty, .int .i64 5, .bool false, .slice none 0 0, .slice none 0 0] := by
    rw [← hs1]; exact Blk.new W1 _ _
  have hr1 := hr.alloc (.cells #[.string ⟨#[98]⟩, .int .i64 1, .string ⟨#[]⟩, .int .i64 5, .bool false, .slice none 0 0, .slice none 0 0] 57)
  have hb1 := hb.trans (Bel.alloc W1 (.cells #[.string ⟨#[98]⟩, .int .i64 1, .string ⟨#[]⟩, .int .i64 5, .bool false, .slice none 0 0, .slice none 0 0] 57))
  have hs2 : (W1.alloc (.cells #[.string ⟨#[98]⟩, .int .i64 1, .string ⟨#[]⟩, .int .i64 5, .bool false, .slice none 0 0, .slice none 0 0] 57)).heap.size = w.heap.size + 1 + 1 + 1 := by simp [hs1]
  clear hW1 hr hb hs1
  generalize W1.alloc (.cells #[.string ⟨#[98]⟩, .int .i64 1, .string ⟨#[]⟩, .int .i64 5, .bool false, .slice none 0 0, .slice none 0 0] 57) = W2 at *
  have h2 : Blk (W2.alloc (.cells #[.string ⟨#[97]⟩, .int .i64 4, .string ⟨#[]⟩, .int .i64 0, .bool false, .slice none 0 0, .slice (some ⟨w.heap.size + 1 + 1, 0, none⟩) 1 1] 57)) (w.heap.size + 1 + 1 + 1) 57 [.string ⟨#[97]⟩, .int .i64 4, .string ByteArray.empty, .int .i64 0, .bool false, .slice none 0 0, .slice (some ⟨w.heap.size + 1 + 1, 0, none⟩) 1 1] := by
    rw [← hs2]; exact Blk.new W2 _ _
  have h1' := h1.alloc (.cells #[.string ⟨#[97]⟩, .int .i64 4, .string ⟨#[]⟩, .int .i64 0, .bool false, .slice none 0 0, .slice (some ⟨w.heap.size + 1 + 1, 0, none⟩) 1 1] 57)
  have hr2 := hr1.alloc (.cells #[.string ⟨#[97]⟩, .int .i64 4, .string ⟨#[]⟩, .int .i64 0, .bool false, .slice none 0 0, .slice (some ⟨w.heap.size + 1 + 1, 0, none⟩) 1 1] 57)
  refine bodyPost_ret (results_cell_row rfl _ _ w.heap.size _ _ (0, 0) _ rfl hr2 Tryd.underlying34 rfl (by kernel_rfl)) rfl ?_
  exact ⟨w.heap.size + 1 + 1, rfl, ex_in ⟨h1'.lt, h2.lt⟩ h1' h2, hb1.trans (Bel.alloc _ _)⟩
end Go.Proofs.YtmgnomahnndeaaaDoor
