/-
  Contract of the reference of layer 3: value.
-/
import Derived.Test.YtfchkaoifbcgkaaDoorHexFormat
namespace Go.Proofs.YtfchkaoifbcgkaaDoor
open Go.RowKit Go.BigFrame
set_option linter.unusedVariables false
set_option linter.unusedSimpArgs false
attribute [local go_sem ↓] sliced_cut run_min2 run_max2
attribute [local go_sem] cutA_zero

/-! ### Parse -/
def hvI (x : UInt8) : Int := match hv x with | some d => (d : Int) | none => -1
set_option maxHeartbeats 800000 in
theorem value_c (w : World) (x : UInt8) : Calls Tryd.prog 32 #[.int .u8 x.toNat] w fun e w' => e = .returned (.int .i64 (hvI x)) ∧ w' = w := by
  have hx : x.toNat < 256 := UInt8.toNat_lt _
  have hr : Hid (hvI x = if 48 ≤ x.toNat ∧ x.toNat ≤ 57 then (x.toNat : Int) - 48 else if 97 ≤ x.toNat ∧ x.toNat ≤ 102 then (x.toNat : Int) - 87 else -1) := Lib.hid (by
    unfold hvI hv
    by_cases h1 : 48 ≤ x.toNat ∧ x.toNat ≤ 57
    · rw [if_pos h1, if_pos h1]; simp only; omega
    · rw [if_neg h1, if_neg h1]
      by_cases h2 : 97 ≤ x.toNat ∧ x.toNat ≤ 102
      · rw [if_pos h2, if_pos h2]; simp only; omega
      · rw [if_neg h2, if_neg h2])
  generalize hvI x = res at *
  generalize x.toNat = m at *
  have e1 : ∀ k : Int, 0 ≤ (m : Int) - k + 0 ∨ True := fun _ => .inr trivial
  by_cases h1 : 48 ≤ m ∧ m ≤ 57
  · have hr2 := hr.out
    rw [if_pos h1] at hr2
    have HR2 := Lib.hid hr2
    have h2 : (48 : Int) ≤ (m : Int) := by omega
    have h3 : (m : Int) ≤ 57 := by omega
    clear hr2 hr h1 e1
    go_enter Tryd.func32, Tryd.ntmps32
    go_wp2
    go_ret
    exact ⟨by rw [HR2.out]; rfl, rfl⟩
  · by_cases h2 : 97 ≤ m ∧ m ≤ 102
    · have hr2 := hr.out
      rw [if_neg h1, if_pos h2] at hr2
      have HR2 := Lib.hid hr2
      have h3 : (48 : Int) ≤ (m : Int) := by omega
      have h4 : ¬ (m : Int) ≤ 57 := by omega
      have h5 : (97 : Int) ≤ (m : Int) := by omega
      have h6 : (m : Int) ≤ 102 := by omega
      clear hr2 hr h1 h2 e1
      go_enter Tryd.func32, Tryd.ntmps32
      go_wp2
      go_ret
      exact ⟨by rw [HR2.out]; rfl, rfl⟩
    · have hr2 := hr.out
      rw [if_neg h1, if_neg h2] at hr2
      have HR2 := Lib.hid hr2
      clear hr2 hr e1
      by_cases h3 : (48 : Int) ≤ (m : Int)
      · have h4 : ¬ (m : Int) ≤ 57 := by omega
        by_cases h5 : (97 : Int) ≤ (m : Int)
        · have h6 : ¬ (m : Int) ≤ 102 := by omega
          clear h1 h2
          go_enter Tryd.func32, Tryd.ntmps32
          go_wp2
          go_ret
          exact ⟨by rw [HR2.out]; rfl, rfl⟩
        · clear h1 h2
          go_enter Tryd.func32, Tryd.ntmps32
          go_wp2
          go_ret
          exact ⟨by rw [HR2.out]; rfl, rfl⟩
      · have h5 : ¬ (97 : Int) ≤ (m : Int) := by omega
        clear h1 h2
        go_enter Tryd.func32, Tryd.ntmps32
        go_wp2
        go_ret
        exact ⟨by rw [HR2.out]; rfl, rfl⟩
end Go.Proofs.YtfchkaoifbcgkaaDoor
