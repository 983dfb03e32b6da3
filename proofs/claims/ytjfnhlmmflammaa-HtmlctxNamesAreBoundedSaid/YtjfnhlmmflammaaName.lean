/-
  Contracts: names (the program's and the reference's).
-/
import Derived.Test.YtjfnhlmmflammaaVal
import Derived.Test.YtjfnhlmmflammaaProg
namespace Go.Proofs.Ytjfnhlmmflammaa
open Go.RowKit Go.BigFrame
set_option linter.unusedVariables false
set_option linter.unusedSimpArgs false

theorem ret_bool {a b : Bool} (h : a = b) : Ending.returned (.bool a) = .returned (.bool b) := by rw [h]
theorem getElem_toList {s : ByteArray} {k : Nat} (h : k < s.size) : s.data.toList[k]? = some s[k] := by
  have h' : k < s.data.toList.length := by simpa using h
  rw [List.getElem?_eq_getElem h']
  rfl
theorem name_bad {s : ByteArray} {k : Nat} (h : k < s.size) (hw : wordB s[k] = false) : nameB s = false := by
  unfold nameB
  have h1 := getElem_toList h
  cases hl : s.data.toList with
  | nil => rfl
  | cons c l =>
    rw [nameL_cons, ← hl, not_all_of h1 hw]
    simp
theorem name_first {s : ByteArray} (h : 0 < s.size) (hw : letterB s[0] = false) : nameB s = false := by
  unfold nameB
  have h1 := getElem_toList h
  cases hl : s.data.toList with
  | nil => rfl
  | cons c l =>
    rw [hl] at h1
    have : c = s[0] := by simpa using h1
    rw [nameL_cons, this, hw]
    simp
theorem name_long {s : ByteArray} (h : 32 < s.size) : nameB s = false := by
  unfold nameB
  have h1 : s.data.toList.length = s.size := rfl
  cases hl : s.data.toList with
  | nil => rfl
  | cons c l =>
    rw [nameL_cons, ← hl, h1]
    have : decide (s.size ≤ 32) = false := by simp; omega
    rw [this]
    rfl
theorem name_short {s : ByteArray} (h : s.size = 0) : nameB s = false := by
  unfold nameB
  have h1 : s.data.toList.length = s.size := rfl
  rw [h] at h1
  rw [List.length_eq_zero_iff.1 h1]
  rfl
theorem name_good {s : ByteArray} (h0 : 0 < s.size) (h1 : s.size ≤ 32) (hl : letterB s[0] = true) (ha : (s.data.toList.take s.size).all wordB = true) : nameB s = true := by
  unfold nameB
  have h2 : s.data.toList.length = s.size := rfl
  have h3 := getElem_toList h0
  rw [← h2, List.take_length] at ha
  cases hl' : s.data.toList with
  | nil => rw [hl'] at h2; simp at h2; omega
  | cons c l =>
    rw [hl'] at h3
    have hc : c = s[0] := by simpa using h3
    rw [nameL_cons, ← hl', h2, hc, hl, ha]
    simp [h1]

theorem empty_of {t : ByteArray} (h : t.size = 0) : t.toList.isEmpty = true := by
  rw [ByteArray.toList_eq]
  have h1 : t.data.toList.length = t.size := rfl
  rw [h] at h1
  rw [List.length_eq_zero_iff.1 h1]
  rfl
theorem empty_not {t : ByteArray} (h : t.size ≠ 0) : t.toList.isEmpty = false := by
  rw [ByteArray.toList_eq]
  have h1 : t.data.toList.length = t.size := rfl
  cases hl : t.data.toList with
  | nil => rw [hl] at h1; exact absurd h1.symm h
  | cons c l => rfl

end Go.Proofs.Ytjfnhlmmflammaa
