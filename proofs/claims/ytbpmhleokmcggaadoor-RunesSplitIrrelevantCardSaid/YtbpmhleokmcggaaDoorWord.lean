/-
  Contract of utf8.word at strings.
-/
import Derived.Test.YtbpmhleokmcggaaDoorTab6
import Derived.Test.YtbpmhleokmcggaaDoorBits8
namespace Go.Proofs.YtbpmhleokmcggaaDoor
open Go.RowKit Go.BigFrame
set_option linter.unusedVariables false
set_option linter.unusedSimpArgs false

set_option maxRecDepth 100000 in
set_option maxHeartbeats 1600000 in
theorem word_c {w : World} (s : ByteArray) (h8 : 8 ≤ s.size) :
    Calls Tryd.prog 29 #[.string s] w fun e w' => e = .returned (.int .u64 (wordL s.data.toList)) ∧ ∃ n, w' = w.drewN n := by
  unfold wordL
  have n0 : (0 : Int) < (s.size : Int) := by omega
  have n1 : (1 : Int) < (s.size : Int) := by omega
  have n2 : (2 : Int) < (s.size : Int) := by omega
  have n3 : (3 : Int) < (s.size : Int) := by omega
  have n4 : (4 : Int) < (s.size : Int) := by omega
  have n5 : (5 : Int) < (s.size : Int) := by omega
  have n6 : (6 : Int) < (s.size : Int) := by omega
  have n7 : (7 : Int) < (s.size : Int) := by omega
  have e0 : (s[0]'(by omega)).toNat = bt s.data.toList 0 := sl_at s 0 (by omega)
  have e1 : (s[1]'(by omega)).toNat = bt s.data.toList 1 := sl_at s 1 (by omega)
  have e2 : (s[2]'(by omega)).toNat = bt s.data.toList 2 := sl_at s 2 (by omega)
  have e3 : (s[3]'(by omega)).toNat = bt s.data.toList 3 := sl_at s 3 (by omega)
  have e4 : (s[4]'(by omega)).toNat = bt s.data.toList 4 := sl_at s 4 (by omega)
  have e5 : (s[5]'(by omega)).toNat = bt s.data.toList 5 := sl_at s 5 (by omega)
  have e6 : (s[6]'(by omega)).toNat = bt s.data.toList 6 := sl_at s 6 (by omega)
  have e7 : (s[7]'(by omega)).toNat = bt s.data.toList 7 := sl_at s 7 (by omega)
  generalize bt s.data.toList 0 = b0 at *
  generalize bt s.data.toList 1 = b1 at *
  generalize bt s.data.toList 2 = b2 at *
  generalize bt s.data.toList 3 = b3 at *
  generalize bt s.data.toList 4 = b4 at *
  generalize bt s.data.toList 5 = b5 at *
  generalize bt s.data.toList 6 = b6 at *
  generalize bt s.data.toList 7 = b7 at *
  go_enter Tryd.func29, Tryd.ntmps29
  go_wp2
  go_quiet (fail)
  go_wp2
  go_ret
  exact ⟨rfl, _, rfl⟩
end Go.Proofs.YtbpmhleokmcggaaDoor
