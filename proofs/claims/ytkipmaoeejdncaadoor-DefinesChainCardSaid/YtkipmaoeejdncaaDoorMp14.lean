/-
  Contracts: maps.Keys of a map[string]bool, slices.Sorted of it; the map of the names that were met.
-/
import Derived.Test.YtkipmaoeejdncaaDoorMap11
import Derived.Test.YtkipmaoeejdncaaDoorShelfSK
import Derived.Test.YtkipmaoeejdncaaDoorDn14
import Derived.Sort.KeysCollected
namespace Go.Proofs.YtkipmaoeejdncaaDoor
open Go.RowKit Go.BigFrame Go.Maps Go.Sort Go.Shelf NT
set_option linter.unusedVariables false
set_option linter.unusedSimpArgs false

/-- The map holds just the names F; each leads to true. -/
def fF (F : List ByteArray) (k : ByteArray) : Option Value := if hasN F k = true then some (.bool true) else none
theorem fF_in {F : List ByteArray} {k : ByteArray} (h : k ∈ F) : fF F k = some (.bool true) := if_pos (hasN_iff.2 h)
theorem fF_out {F : List ByteArray} {k : ByteArray} (h : k ∉ F) : fF F k = none := if_neg (fun e => h (hasN_iff.1 e))
theorem fF_nil (k : ByteArray) : (none : Option Value) = fF [] k := (fF_out (by simp)).symm
theorem fF_push (F : List ByteArray) (x k : ByteArray) : (if k = x then some (.bool true) else fF F k) = fF (F ++ [x]) k := by
  by_cases h : k = x
  · subst h; rw [if_pos rfl, fF_in (by simp)]
  · rw [if_neg h]
    by_cases h2 : k ∈ F
    · rw [fF_in h2, fF_in (by simp [h2])]
    · rw [fF_out h2, fF_out (by simp [h, h2])]
theorem SMap.perm {w : World} {M n : Nat} {F : List ByteArray} (h : SMap w M n (fF F)) (hn : F.Nodup) : ∃ D : DataW Value, w.ownsMap Tryd.prog 9 RVal M n D ∧ (strKeys D).Perm (F.map kL) := by
  obtain ⟨D, h1, h2⟩ := h
  refine ⟨D, h1, List.Perm.symm ?_⟩
  have hC : Collected D (fun _ => false) (F.map kL) := by
    refine ⟨?_, fun x => ?_⟩
    · rw [List.nodup_iff_pairwise_ne, List.pairwise_map]
      exact (List.nodup_iff_pairwise_ne.1 hn).imp fun hne e => hne (kL_inj e)
    · rw [List.mem_map]
      have e : x = kL ⟨x.toArray⟩ := by simp [kL]
      constructor
      · rintro ⟨k, hk, rfl⟩
        exact ⟨((h2 k).2 _ (fF_in hk)).1, rfl⟩
      · rintro ⟨hx, _⟩
        refine ⟨⟨x.toArray⟩, ?_, e.symm⟩
        by_cases hm : (⟨x.toArray⟩ : ByteArray) ∈ F
        · exact hm
        · have := (h2 _).1 (fF_out hm)
          rw [← e, hx] at this
          cases this
  exact hC.perm h1 keyLaw Tryd.underlying9 (fun _ => rfl)
theorem keysB_c (mb : Option Nat) (W : World) :
    Calls Tryd.prog 20 #[.map mb] W fun e w' => e = .returned (.func (.func 27) #[] #[.pointer (some ⟨W.heap.size, 0, none⟩)]) ∧ w' = W.alloc (.cells #[.map mb] 37) :=
  (callsIn_wide (n := 5)).1 (AnyZ.keys_in Tryd.keys20 Fence.wide 5 trivial rfl mb W)
theorem sortsB (m : Nat) : AnyZ.SortsIn Tryd.prog Tryd.sorted19_ren Fence.wide m :=
  ⟨fun blk off cap ss W hH hblk hsz => callsIn_wide.2 (AnyM.slices_Sort_string Tryd.sort26 blk off cap ss W hH hblk hsz),
   fun p cap W => callsIn_wide.2 (AnyM.slices_Sort_string_none Tryd.sort26 p cap W)⟩
set_option maxHeartbeats 1000000 in
theorem sortedKeysB {H : Type} (b nn : Nat) (D0 : DataW H) (R : Value → Option (DataW H × List MemPlace)) (w : World) (hown : w.ownsMap Tryd.prog 9 R b nn D0) (hmax : Maps.size D0 ≤ maxLen) (hbytes : Maps.size D0 * 16 ≤ 140737488355328) :
    CallsIn Fence.wide 5 Tryd.prog 19 #[.func (.func 27) #[] #[.pointer (some ⟨w.heap.size, 0, none⟩)]] (w.alloc (.cells #[.map (some b)] 37)) fun e w' => ∃ (v : Value) (ss : List (List UInt8)), e = .returned v ∧ ss.Perm (strKeys D0) ∧
      w'.ownsRow (w.alloc (.cells #[.map (some b)] 37)).heap.size 9 1 v ss.length ((ss.mergeSort (fun x y => decide (x ≤ y))).map encStr) ∧ (v = .slice none 0 0 ↔ ss = []) ∧ Below (w.alloc (.cells #[.map (some b)] 37)).heap.size (w.alloc (.cells #[.map (some b)] 37)) w' := by
  have hbl := hown.lt
  have hseq : SeqGives Fence.wide 2 Tryd.prog 27 #[.pointer (some ⟨w.heap.size, 0, none⟩)] encStr (fun ss => ss.Perm (strKeys D0)) (Maps.size D0) (w.alloc (.cells #[.map (some b)] 37)) :=
    AnyZ.keys_gives (ρ := Tryd.keys20_ren) { Tryd.keys20 with } Fence.wide _ trivial rfl (by omega) w.heap.size b nn D0 _ (by simp) (by simp) (by
      obtain ⟨es, clock, hb, Ft, hs, hD⟩ := hown
      exact ⟨es, clock, (Below.heap_alloc _ _ b hbl).trans hb, Ft, hs, hD⟩)
  exact AnyZ.sorted_in Tryd.sorted19 Fence.wide 5 trivial trivial trivial trivial rfl (by omega) (sortsB _) (enters_of Tryd.func26 (by kernel_rfl) rfl) 27 #[.pointer (some ⟨w.heap.size, 0, none⟩)] trivial (enters_of Tryd.func27 (by kernel_rfl) rfl) _ _ hmax hbytes _ hseq
theorem size_strKeys {H : Type} {D : DataW H} : Maps.size D = (strKeys D).length := by
  cases D <;> simp [Maps.size, strKeys]
/-- Names in order. -/
def sortK (ks : List ByteArray) : List ByteArray := ((ks.map kL).mergeSort leB).map ofL
theorem sortK_perm (ks : List ByteArray) : (sortK ks).Perm ks := by
  have h := (List.mergeSort_perm (ks.map kL) leB).map ofL
  rw [List.map_map] at h
  have e : ks.map (ofL ∘ kL) = ks := by
    conv => rhs; rw [← List.map_id ks]
    exact List.map_congr_left fun k _ => ofL_toL k
  rw [e] at h
  exact h
theorem sortK_sorted (ks : List ByteArray) : (sortK ks).Pairwise fun x y => toL x ≤ toL y := by
  have tr : ∀ a b c : List UInt8, leB a b = true → leB b c = true → leB a c = true := fun a b c h1 h2 => by simp only [leB, decide_eq_true_eq] at *; exact List.le_trans h1 h2
  have to : ∀ a b : List UInt8, (leB a b || leB b a) = true := fun a b => by simp only [leB, Bool.or_eq_true, decide_eq_true_eq]; exact List.le_total a b
  have h := List.pairwise_mergeSort tr to (ks.map kL)
  unfold sortK
  rw [List.pairwise_map]
  exact h.imp fun {a b} h => by
    simp only [leB, decide_eq_true_eq] at h
    exact h
theorem asc_sortK {F : List ByteArray} (hn : F.Nodup) : (sortK F).Pairwise bLt := by
  have hn2 : (sortK F).Nodup := (sortK_perm F).nodup_iff.2 hn
  refine ((sortK_sorted F).and (List.nodup_iff_pairwise_ne.1 hn2)).imp fun {a b} hab => ?_
  have h1 : toL a ≠ toL b := fun e => hab.2 (toL_inj e)
  exact Std.lt_of_le_of_ne hab.1 h1
/-- slices.Sorted(maps.Keys(m)): the names in order, in a row of its own. -/
theorem sortedB_c {w : World} {M n : Nat} {F : List ByteArray} (hm : SMap w M n (fF F)) (hn : F.Nodup) (hl : F.length ≤ 1000000) :
    Calls Tryd.prog 19 #[.func (.func 27) #[] #[.pointer (some ⟨w.heap.size, 0, none⟩)]] (w.alloc (.cells #[.map (some M)] 37)) fun e w' =>
      ∃ (A : Option Addr) (c : Nat), e = .returned (.slice A (sortK F).length c) ∧ (sortK F).length ≤ c ∧ c ≤ maxLen ∧ Strs w' A (sortK F) ∧ Bel (w.alloc (.cells #[.map (some M)] 37)) w' := by
  obtain ⟨D, hown, hp⟩ := hm.perm hn
  have hsz : Maps.size D = F.length := by rw [size_strKeys, hp.length_eq, List.length_map]
  have h := (callsIn_wide (n := 5)).1 (sortedKeysB M n D RVal w hown (by rw [hsz]; unfold maxLen; omega) (by rw [hsz]; omega))
  refine h.mono fun e w' ⟨v, ss, he, hs, hrow, _, hb⟩ => ?_
  obtain ⟨A, c, rfl, hR, hbase⟩ := row_of_own hrow
  have e1 : ss.mergeSort (fun x y => decide (x ≤ y)) = (F.map kL).mergeSort leB := mergeSort_of_perm (hs.trans hp)
  have e2 : (sortK F).length = ss.length := by
    unfold sortK
    rw [List.length_map, List.length_mergeSort, (hs.trans hp).length_eq]
  refine ⟨A, c, by rw [e2]; exact he, by rw [e2]; exact hR.le, hR.max, ?_, hb⟩
  rw [e1] at hR
  by_cases h0 : (sortK F).length = 0
  · exact .inl (List.length_eq_zero_iff.1 h0)
  · obtain ⟨g, o, rfl, hg, hc⟩ := hR.reads.plain (by omega)
    refine .inr ⟨g, o, rfl, hg, fun i hi => hc i _ ?_⟩
    unfold sortK at hi ⊢
    rw [List.length_map] at hi
    rw [List.getElem?_map, List.getElem?_eq_getElem hi, List.getD_eq_getElem?_getD, List.getElem?_map, List.getElem?_eq_getElem hi]
    rfl
end Go.Proofs.YtkipmaoeejdncaaDoor
