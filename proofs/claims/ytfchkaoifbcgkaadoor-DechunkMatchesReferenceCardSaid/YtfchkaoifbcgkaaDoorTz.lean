/-
  math/bits.TrailingZeros of 16 (the shelf's laying laysTZ), internal/strconv.isPowerOfTwo.
-/
import Derived.Test.YtfchkaoifbcgkaaDoorText
import Derived.Test.YtfchkaoifbcgkaaDoorShelf
import Derived.RegionTactic
import Derived.ChangeAlike
import Derived.Deep.QuietTactic
import Derived.BigQuiet
namespace Go.Proofs.YtfchkaoifbcgkaaDoor
open Go.RowKit Go.BigFrame
set_option linter.unusedVariables false
set_option linter.unusedSimpArgs false
attribute [local go_sem ↓] sliced_cut run_min2 run_max2
attribute [local go_sem] cutA_zero

/-- The table of math/bits that TrailingZeros reads. -/
def Tz (w : World) : Prop := TabAt 5 Lib.deBruijn64tab w
theorem Tz.lt {w : World} (h : Tz w) : 5 < w.heap.size := cell_lt (h 0 (by decide))
theorem Tz.only' {S : List Nat} {w w' : World} (h : Tz w) (ho : Only S w w') (hS : ∀ k, k ∈ S → k ≠ 5) : Tz w' :=
  fun j hj => cell_only (h j hj) ho (fun hk => hS _ hk rfl)
theorem Tz.only {w w' : World} (h : Tz w) (ho : Only [] w w') : Tz w' := h.only' ho (by simp)
theorem tz_c {w : World} (hT : Tz w) : Calls Tryd.prog 69 #[.int .u64 16] w fun e w' => e = .returned (.int .i64 4) ∧ w' = w := by
  have h := Any7.bits_TrailingZeros Tryd.laysTZ 16 (by omega) w (fun _ => hT)
  have e : Lib.ctz 64 16 = 4 := by decide
  rw [e] at h
  exact h
set_option maxHeartbeats 400000 in
theorem pow2_c (w : World) : Calls Tryd.prog 68 #[.int .i64 16] w fun e w' => e = .returned (.bool true) ∧ w' = w := by
  have hb : bits .and .i64 16 15 = 0 := by decide
  go_enter Tryd.func68, Tryd.ntmps68
  go_wp2
  go_ret
  exact ⟨rfl, rfl⟩
end Go.Proofs.YtfchkaoifbcgkaaDoor
