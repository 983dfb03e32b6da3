/-
  Contract: slices.Sorted of maps.Keys of a map of Go values.
-/
import Derived.Test.YtmgnomahnndeaaaDoorAt
namespace Go.Proofs.YtmgnomahnndeaaaDoor
open Go.RowKit Go.BigFrame Go.Maps Go.Sort Go.Shelf
set_option linter.unusedVariables false
set_option linter.unusedSimpArgs false

theorem sorts (m : Nat) : AnyZ.SortsIn Tryd.prog Tryd.sorted61_ren Fence.wide m :=
  ⟨fun blk off cap ss W hH hblk hsz => callsIn_wide.2 (AnyM.slices_Sort_string Tryd.sort73 blk off cap ss W hH hblk hsz),
   fun p cap W => callsIn_wide.2 (AnyM.slices_Sort_string_none Tryd.sort73 p cap W)⟩
set_option maxHeartbeats 1000000 in
theorem sortedKeys {H : Type} (b nn : Nat) (D0 : DataW H) (R : Value → Option (DataW H × List MemPlace)) (w : World) (hown : w.ownsMap Tryd.prog 9 R b nn D0) (hmax : Maps.size D0 ≤ maxLen) (hbytes : Maps.size D0 * 16 ≤ 140737488355328) :
    CallsIn Fence.wide 5 Tryd.prog 61 #[.func (.func 74) #[] #[.pointer (some ⟨w.heap.size, 0, none⟩)]] (w.alloc (.cells #[.map (some b)] 54)) fun e w' => ∃ (v : Value) (ss : List (List UInt8)), e = .returned v ∧ ss.Perm (strKeys D0) ∧
      w'.ownsRow (w.alloc (.cells #[.map (some b)] 54)).heap.size 9 1 v ss.length ((ss.mergeSort (fun x y => decide (x ≤ y))).map encStr) ∧ (v = .slice none 0 0 ↔ ss = []) ∧ Below (w.alloc (.cells #[.map (some b)] 54)).heap.size (w.alloc (.cells #[.map (some b)] 54)) w' := by
  have hbl := hown.lt
  have hseq : SeqGives Fence.wide 2 Tryd.prog 74 #[.pointer (some ⟨w.heap.size, 0, none⟩)] encStr (fun ss => ss.Perm (strKeys D0)) (Maps.size D0) (w.alloc (.cells #[.map (some b)] 54)) :=
    AnyZ.keys_gives (ρ := Tryd.keys62_ren) { Tryd.keys62 with } Fence.wide _ trivial rfl (by omega) w.heap.size b nn D0 _ (by simp) (by simp) (by
      obtain ⟨es, clock, hb, Ft, hs, hD⟩ := hown
      exact ⟨es, clock, (Below.heap_alloc _ _ b hbl).trans hb, Ft, hs, hD⟩)
  exact AnyZ.sorted_in Tryd.sorted61 Fence.wide 5 trivial trivial trivial trivial rfl (by omega) (sorts _) (enters_of Tryd.func73 (by kernel_rfl) rfl) 74 #[.pointer (some ⟨w.heap.size, 0, none⟩)] trivial (enters_of Tryd.func74 (by kernel_rfl) rfl) _ _ hmax hbytes _ hseq

theorem size_strKeys {H : Type} {D : DataW H} : Maps.size D = (strKeys D).length := by
  cases D <;> simp [Maps.size, strKeys]
theorem sorted_c (B : Nat) (ks : List ByteArray) (vs : List AT) (w : World) (hm : AT.Holds w B ks vs) (hl : ks.length * 16 ≤ 140737488355328) :
    Calls Tryd.prog 61 #[.func (.func 74) #[] #[.pointer (some ⟨w.heap.size, 0, none⟩)]] (w.alloc (.cells #[.map (some B)] 54)) fun e w' =>
      ∃ (A : Option Addr) (c : Nat), e = .returned (.slice A (sortK ks).length c) ∧ (sortK ks).length ≤ c ∧ c ≤ 9223372036854775807 ∧ Strs w' A (sortK ks) ∧ (∀ k, k ∈ rowT A → w.heap.size ≤ k) ∧ Bel (w.alloc (.cells #[.map (some B)] 54)) w' := by
  obtain ⟨n, D, hown, hp, _⟩ := hm
  have hsz : Maps.size D = ks.length := by rw [size_strKeys, hp.length_eq, List.length_map]
  have h := (callsIn_wide (n := 5)).1 (sortedKeys B n D AT.RV w hown (by rw [hsz]; unfold maxLen; omega) (by rw [hsz]; exact hl))
  refine h.mono fun e w' ⟨v, ss, he, hs, hrow, _, hb⟩ => ?_
  obtain ⟨A, c, rfl, hR, hbase⟩ := row_of_own hrow
  have e1 : ss.mergeSort (fun x y => decide (x ≤ y)) = (ks.map kL).mergeSort leB := mergeSort_of_perm (hs.trans hp)
  have e2 : (sortK ks).length = ss.length := by
    unfold sortK
    rw [List.length_map, List.length_mergeSort, (hs.trans hp).length_eq]
  refine ⟨A, c, by rw [e2]; exact he, by rw [e2]; exact hR.le, by have := hR.max; unfold maxLen at this; exact this, ?_, (fun k hk => by have h1 := hbase k hk; have h2 : w.heap.size ≤ (w.alloc (.cells #[.map (some B)] 54)).heap.size := (Bel.alloc w _).size; omega), hb⟩
  rw [e1] at hR
  by_cases h0 : (sortK ks).length = 0
  · exact .inl (List.length_eq_zero_iff.1 h0)
  · obtain ⟨g, o, rfl, hg, hc⟩ := hR.reads.plain (by omega)
    refine .inr ⟨g, o, rfl, hg, fun i hi => hc i _ ?_⟩
    unfold sortK at hi ⊢
    rw [List.length_map] at hi
    rw [List.getElem?_map, List.getElem?_eq_getElem hi, List.getD_eq_getElem?_getD, List.getElem?_map, List.getElem?_eq_getElem hi]
    rfl
end Go.Proofs.YtmgnomahnndeaaaDoor
