/-
  Paths in two parts: the names of the whole are the names of both. No program is imported here.
-/
import Derived.Test.YtmgnomahnndeaaaDoorParts
namespace Go.Proofs.YtmgnomahnndeaaaDoor

/-- The two parts, joined as the law joins them. -/
def joinP (p q : ByteArray) : ByteArray :=
  if q.size = 0 then p else if p.size = 0 then q else p ++ dot ++ q
theorem toL_append (a b : ByteArray) : toL (a ++ b) = toL a ++ toL b := by
  unfold toL
  rw [ByteArray.data_append, Array.toList_append]
theorem parts_join {p q : ByteArray} : parts (toL (p ++ dot ++ q)) = parts (toL p) ++ parts (toL q) := by
  rw [toL_append, toL_append]
  have : toL dot = [46] := rfl
  rw [this, List.append_assoc, List.singleton_append]
  exact parts_append
theorem path_two {p q : ByteArray} {l : List ByteArray} (h : pathOf (joinP p q) = some l) : ∃ l1 l2, pathOf p = some l1 ∧ pathOf q = some l2 ∧ l = l1 ++ l2 := by
  unfold joinP at h
  have e0 : ∀ s : ByteArray, s.size = 0 → pathOf s = some [] := fun s hs => by unfold pathOf; rw [if_pos hs]
  by_cases hq : q.size = 0
  · rw [if_pos hq] at h
    exact ⟨l, [], h, e0 q hq, by simp⟩
  rw [if_neg hq] at h
  by_cases hp : p.size = 0
  · rw [if_pos hp] at h
    exact ⟨[], l, e0 p hp, h, by simp⟩
  rw [if_neg hp] at h
  unfold pathOf at h
  rw [if_neg (by rw [ByteArray.size_append, ByteArray.size_append, show dot.size = 1 from rfl]; omega), parts_join] at h
  split at h
  · rename_i hh
    obtain ⟨h1, h2⟩ := hh
    rw [List.all_append, Bool.and_eq_true] at h2
    rw [List.length_append] at h1
    injection h with h
    refine ⟨(parts (toL p)).map ofL, (parts (toL q)).map ofL, ?_, ?_, by rw [← h, List.map_append]⟩
    · unfold pathOf
      rw [if_neg hp, if_pos ⟨by omega, h2.1⟩]
    · unfold pathOf
      rw [if_neg hq, if_pos ⟨by omega, h2.2⟩]
  · cases h
end Go.Proofs.YtmgnomahnndeaaaDoor
