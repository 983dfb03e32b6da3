/-
  Contracts: the reference of layer 15: quoted, Escaper.
-/
import Derived.Test.YtpcapmdfjmpdiaaGreatDoorZPb17
namespace Go.Proofs.YtpcapmdfjmpdiaaGreatDoor
open Go.RowKit Go.BigFrame
set_option linter.unusedVariables false
set_option linter.unusedSimpArgs false
set_option maxRecDepth 100000

theorem ext_take (a : List UInt8) (k : Nat) : ((ofL a).extract 0 k).toList = a.take k := by
  rw [ByteArray.toList_eq, ByteArray.data_extract]
  simp [ofL]
/-- 'escS' in the words of a walk. -/
theorem escS_w (s : HS) : escS s =
    if (!(ofL s.p).toList.isEmpty) = true then (0, false)
    else if ((s.c : Int) == 0) = true then (0, true)
    else if ((s.c : Int) == 7) = true ∨ ((s.c : Int) == 8) = true then (1, true)
    else if ((s.c : Int) == 9) = true ∨ ((s.c : Int) == 10) = true then (2, true)
    else if ((s.c : Int) == 17) = true ∨ ((s.c : Int) == 18) = true then (3, true)
    else if ((s.c : Int) == 20) = true ∨ ((s.c : Int) == 21) = true then (4, true)
    else (0, false) := by
  have hk : ∀ j : Nat, ((s.c : Int) == (j : Int)) = true ↔ s.c = j := fun j => by rw [beq_iff_eq]; omega
  have h0 : ((s.c : Int) == 0) = true ↔ s.c = 0 := hk 0
  have h7 : ((s.c : Int) == 7) = true ↔ s.c = 7 := hk 7
  have h8 : ((s.c : Int) == 8) = true ↔ s.c = 8 := hk 8
  have h9 : ((s.c : Int) == 9) = true ↔ s.c = 9 := hk 9
  have h10 : ((s.c : Int) == 10) = true ↔ s.c = 10 := hk 10
  have h17 : ((s.c : Int) == 17) = true ↔ s.c = 17 := hk 17
  have h18 : ((s.c : Int) == 18) = true ↔ s.c = 18 := hk 18
  have h20 : ((s.c : Int) == 20) = true ↔ s.c = 20 := hk 20
  have h21 : ((s.c : Int) == 21) = true ↔ s.c = 21 := hk 21
  have hp : (!(ofL s.p).toList.isEmpty) = true ↔ s.p ≠ [] := by rw [ofL_list]; cases s.p <;> simp
  simp only [h0, h7, h8, h9, h10, h17, h18, h20, h21, hp]
  rfl
end Go.Proofs.YtpcapmdfjmpdiaaGreatDoor
