/-
  Contracts of bytes.Equal and bytes.HasPrefix.
-/
import Derived.Test.YtfchkaoifbcgkaaDoorText
import Derived.RegionTactic
import Derived.ChangeAlike
import Derived.Deep.QuietTactic
import Derived.BigQuiet
namespace Go.Proofs.YtfchkaoifbcgkaaDoor
open Go.RowKit Go.BigFrame
set_option linter.unusedVariables false
set_option linter.unusedSimpArgs false
attribute [local go_sem ↓] sliced_cut run_min2 run_max2
attribute [local go_sem] cutA_zero

set_option maxHeartbeats 400000 in
theorem equal_c {w : World} {B1 B2 : Nat} {A1 A2 : Option Addr} {n1 n2 : Nat} {l1 l2 : List UInt8} (h1 : Reads w B1 A1 n1 (vbs l1)) (h2 : Reads w B2 A2 n2 (vbs l2)) (c1 c2 : Nat) :
    Calls Tryd.prog 52 #[.slice A1 n1 c1, .slice A2 n2 c2] w fun e w' => e = .returned (.bool (l1 == l2)) ∧ w = w' := by
  have r1 : (convert 26 9 (.slice A1 n1 c1)).run Tryd.prog w = .ok (.string ⟨l1.toArray⟩) w := run_string_of Tryd.underlying26 Tryd.underlying5 Tryd.underlying9 h1 c1
  have r2 : (convert 26 9 (.slice A2 n2 c2)).run Tryd.prog w = .ok (.string ⟨l2.toArray⟩) w := run_string_of Tryd.underlying26 Tryd.underlying5 Tryd.underlying9 h2 c2
  clear h1 h2
  go_enter Tryd.func52, Tryd.ntmps52
  go_wp2
  go_ret
  exact ⟨rfl, rfl⟩
set_option maxHeartbeats 800000 in
theorem hasPrefix_c {w : World} {B1 B2 : Nat} {A1 A2 : Option Addr} {n1 n2 : Nat} {l1 l2 : List UInt8} (h1 : Reads w B1 A1 n1 (vbs l1)) (h2 : Reads w B2 A2 n2 (vbs l2)) (c1 c2 : Nat) (hc : n1 ≤ c1) (hc2 : c1 ≤ maxLen) :
    Calls Tryd.prog 47 #[.slice A1 n1 c1, .slice A2 n2 c2] w fun e w' => e = .returned (.bool (l2.isPrefixOf l1)) ∧ w = w' := by
  have hl1 : l1.length = n1 := by have := h1.1; rwa [vbs_length] at this
  have hl2 : l2.length = n2 := by have := h2.1; rwa [vbs_length] at this
  by_cases hn : n2 ≤ n1
  · have hr : Reads w B1 A1 n2 (vbs (l1.take n2)) := by
      have := h1.cut_ (k := 0) (m := n2) (Nat.zero_le _) hn hc
      rw [cutA_zero] at this
      simpa [vbs_take] using this
    have hcall := Lib.hid (equal_c hr h2 c1 c2)
    have hres : Hid (l2.isPrefixOf l1 = (l1.take n2 == l2)) := Lib.hid (by
      rw [Bool.eq_iff_iff, List.isPrefixOf_iff_prefix, beq_iff_eq, List.prefix_iff_eq_take, hl2]
      exact eq_comm)
    have hni : (n2 : Int) ≤ (n1 : Int) := by omega
    unfold maxLen at hc2
    have hci : (n1 : Int) ≤ (c1 : Int) := by omega
    have hcb : (c1 : Int) < 9223372036854775808 := by omega
    clear hl1 hl2 h1 h2 hr
    go_enter Tryd.func47, Tryd.ntmps47
    go_wp2_with (go_at_call 52; refine hcall.out.mono ?_; rintro e w' ⟨rfl, rfl⟩)
    go_ret
    exact ⟨by rw [hres.out]; rfl, rfl⟩
  · have hres : Hid (l2.isPrefixOf l1 = false) := Lib.hid (by
      rw [Bool.eq_false_iff]
      intro h
      have := (List.isPrefixOf_iff_prefix.1 h).length_le
      omega)
    have hni : ¬ (n2 : Int) ≤ (n1 : Int) := by omega
    clear hl1 hl2 h1 h2
    go_enter Tryd.func47, Tryd.ntmps47
    go_wp2
    go_ret
    exact ⟨by rw [hres.out]; rfl, rfl⟩
end Go.Proofs.YtfchkaoifbcgkaaDoor
