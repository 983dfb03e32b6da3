/-
  Contract of hexline.Format.
-/
import Derived.Test.YtfchkaoifbcgkaaDoorFmt
import Derived.RegionTactic
import Derived.ChangeAlike
import Derived.Deep.QuietTactic
import Derived.BigQuiet
namespace Go.Proofs.YtfchkaoifbcgkaaDoor
open Go.RowKit Go.BigFrame
set_option linter.unusedVariables false
set_option linter.unusedSimpArgs false
attribute [local go_sem ↓] sliced_cut run_min2 run_max2
attribute [local go_sem] cutA_zero

set_option maxHeartbeats 800000 in
theorem format_c {w : World} (hT : Tz w) {n : Nat} (hn : n ≤ 65536) :
    Calls Tryd.prog 40 #[.int .i64 n] w fun e w' => ∃ A c, e = .returned (.tuple #[.slice A (hexLine n).length c, .int .i64 0]) ∧ Own w' A (hexLine n).length c (hexLine n) ∧ Only [] w w' := by
  have HC := Lib.hid (appendInt_c hT hn)
  have hlen5 := hexOf_le hn
  clear hT
  have h0 : ¬ (n : Int) < 0 := by omega
  have h1 : ¬ (65536 : Int) < (n : Int) := by omega
  obtain ⟨i0, hi0, hz0, hz1, hz2⟩ := info_parts info_byte
  have hl : Hid ((hexLine n).length = (hexOf n).length + 2) := Lib.hid (hexLine_length n)
  have hcr : Hid (vbs (hexOf n) ++ Lib.strCells ⟨#[13, 10]⟩ = vbs (hexLine n)) := Lib.hid (by rw [hexLine, vbs_append]; rfl)
  have hb1 : Hid ((hexOf n).length + (⟨#[13, 10]⟩ : ByteArray).size ≤ maxLen) := Lib.hid (by show (hexOf n).length + 2 ≤ maxLen; unfold maxLen; omega)
  have hb2 : Hid ((hexOf n).length + (⟨#[13, 10]⟩ : ByteArray).size ≤ 140737488355328) := Lib.hid (by show (hexOf n).length + 2 ≤ _; omega)
  go_enter Tryd.func40, Tryd.ntmps40
  go_wp2_with (first | (go_at_call 44; refine HC.out.mono ?_; rintro e w1 ⟨v, rfl, h1, h2⟩; have H1 := Lib.hid h1; have H2 := Lib.hid h2; clear h1 h2) | (with_reducible refine Lib.wpList_append_own_string _ rfl (.tmp 11) (.const (.string ⟨#[13, 10]⟩)) 26 9 rfl w.heap.size 5 i0 Tryd.underlying26 Tryd.underlying9 hi0 hz0 hz1 hz2 v (hexOf n).length (vbs (hexOf n)) rfl H1.out ⟨#[13, 10]⟩ rfl hb1.out hb2.out H2.out.size ?_; intro v2 w2 hR2 hO2 hK2; have HR2 := Lib.hid hR2; clear hR2 hK2))
  go_ret2
  obtain ⟨A, c, rfl, h5, h6, h7, _⟩ := Reads.of_own HR2.out
  have e1 : (hexOf n).length + (⟨#[13, 10]⟩ : ByteArray).size = (hexLine n).length := hl.out.symm
  rw [e1, hcr.out] at h7
  rw [e1] at h5 ⊢
  exact ⟨A, c, rfl, ⟨rfl, h5, h6, h7⟩, H2.out.grown hO2 (fun k hk => .inr (H1.out.lt k hk).1)⟩
set_option maxHeartbeats 800000 in
theorem format_out {w : World} {n : Int} (hn : n < 0 ∨ 65536 < n) :
    Calls Tryd.prog 40 #[.int .i64 n] w fun e w' => e = .returned (.tuple #[.slice none 0 0, .int .i64 3]) ∧ w = w' := by
  by_cases h0 : n < 0
  · clear hn
    go_enter Tryd.func40, Tryd.ntmps40
    go_wp2
    go_ret2
    exact ⟨rfl, rfl⟩
  · have h1 : 65536 < n := by omega
    clear hn
    go_enter Tryd.func40, Tryd.ntmps40
    go_wp2
    go_ret2
    exact ⟨rfl, rfl⟩
end Go.Proofs.YtfchkaoifbcgkaaDoor
