/-
  Contracts: the program's isBlock and inside.
  Contract: the program's Count.
  Contract: the program's Nest.
-/
import Derived.Test.YthbcjljkpnkakaaDoorNm
import Derived.Test.YthbcjljkpnkakaaDoorCt12
namespace Go.Proofs.YthbcjljkpnkakaaDoor
open Go.RowKit Go.BigFrame NT
set_option linter.unusedVariables false
set_option linter.unusedSimpArgs false

theorem isBlock_c (k : Int) (w : World) : Calls Tryd.prog 49 #[.int .i64 k] w fun e w' => e = .returned (.bool (blkI k)) ∧ w' = w := by
  by_cases h2 : k = 2
  · subst h2
    go_enter Tryd.func49, Tryd.ntmps49
    go_wp2_with fail
    go_ret
    exact ⟨rfl, rfl⟩
  by_cases h3 : k = 3
  · subst h3
    go_enter Tryd.func49, Tryd.ntmps49
    go_wp2_with fail
    go_ret
    exact ⟨rfl, rfl⟩
  by_cases h6 : k = 6
  · subst h6
    go_enter Tryd.func49, Tryd.ntmps49
    go_wp2_with fail
    go_ret
    exact ⟨rfl, rfl⟩
  have e2 : (k == 2) = false := by simpa using h2
  have e3 : (k == 3) = false := by simpa using h3
  have e6 : (k == 6) = false := by simpa using h6
  have hb : blkI k = false := by unfold blkI; rw [e2, e3, e6]; rfl
  have HB := Lib.hid hb
  clear hb
  go_enter Tryd.func49, Tryd.ntmps49
  go_wp2_with fail
  go_ret
  exact ⟨by rw [HB.out]; rfl, rfl⟩


/-! ### inside -/
abbrev nval (k a : Int) (s p : ByteArray) (h e : Bool) (A : Option Addr) (n c : Nat) (B : Option Addr) (m d : Nat) : Value := .agg #[.int .i64 k, .int .i64 a, .string s, .string p, .bool h, .bool e, .slice A n c, .slice B m d]
end Go.Proofs.YthbcjljkpnkakaaDoor

namespace Go.Proofs.YthbcjljkpnkakaaDoor
open Go.RowKit Go.BigFrame NT
set_option linter.unusedVariables false
set_option linter.unusedSimpArgs false

end Go.Proofs.YthbcjljkpnkakaaDoor

namespace Go.Proofs.YthbcjljkpnkakaaDoor
open Go.RowKit Go.BigFrame NT
set_option linter.unusedVariables false
set_option linter.unusedSimpArgs false

theorem max3 (q a b : Nat) : (if (if (q : Int) < 1 + (a : Int) then 1 + (a : Int) else (q : Int)) < 1 + (b : Int) then 1 + (b : Int) else if (q : Int) < 1 + (a : Int) then 1 + (a : Int) else (q : Int)) = ((max q (max (1 + a) (1 + b)) : Nat) : Int) := by
  split <;> split <;> omega
end Go.Proofs.YthbcjljkpnkakaaDoor
