/-
  Contracts: value.Split.
-/
import Derived.Test.YtkiefgifbkpcfaaDoorSplit11
namespace Go.Proofs.YtkiefgifbkpcfaaDoor
open Go.RowKit Go.BigFrame
set_option linter.unusedVariables false
set_option linter.unusedSimpArgs false

/-- What splitting a path gives. -/
def SplitPost (s : ByteArray) (w : World) (e : Ending) (w' : World) : Prop :=
  Bel w w' ∧ match pathOf s with
    | some l => ∃ A c, e = .returned (.tuple #[.slice A l.length c, .int .i64 0]) ∧ Strs w' A l ∧ (∀ a, A = some a → w.heap.size ≤ a.block) ∧ l.length ≤ 8 ∧ ∀ k, k ∈ l → nameB k = true
    | none => e = .returned (.tuple #[.slice none 0 0, .int .i64 11])
theorem pathOf_empty {s : ByteArray} (h : s.size = 0) : pathOf s = some [] := by unfold pathOf; rw [if_pos h]
theorem pathOf_long {s : ByteArray} (h : s.size ≠ 0) (hl : 8 < (parts (toL s)).length) : pathOf s = none := by
  unfold pathOf; rw [if_neg h, if_neg]; rintro ⟨h1, _⟩; omega
theorem pathOf_bad {s : ByteArray} (h : s.size ≠ 0) {p : List UInt8} (hp : p ∈ parts (toL s)) (hn : nameL p = false) : pathOf s = none := by
  unfold pathOf; rw [if_neg h, if_neg]; rintro ⟨_, h1⟩
  have := List.all_eq_true.1 h1 p hp
  rw [hn] at this; cases this
theorem pathOf_good {s : ByteArray} (h : s.size ≠ 0) (hl : (parts (toL s)).length ≤ 8) (ha : (parts (toL s)).all nameL = true) : pathOf s = some ((parts (toL s)).map ofL) := by
  unfold pathOf; rw [if_neg h, if_pos ⟨hl, ha⟩]
theorem cells_row (w : World) (T : TypeId) (L : List ByteArray) (n : Nat) (hL : L.length ≤ n) : ∀ i, i < L.length → (w.alloc (.cells (Lib.cellsOf L n) T)).cell? ⟨w.heap.size, i, none⟩ = some (.string (L.getD i ByteArray.empty)) := by
  intro i hi
  have hc : (Lib.cellsOf L n)[i]? = some (Value.string (L.getD i ByteArray.empty)) := by
    unfold Lib.cellsOf
    rw [List.getElem?_toArray, List.getElem?_append_left (by simpa using hi), List.getElem?_map, List.getElem?_eq_getElem hi, List.getD_eq_getElem?_getD, List.getElem?_eq_getElem hi]
    rfl
  rw [World.cell?_alloc_new]
  exact hc
theorem L_parts {L : List ByteArray} {p : List (List UInt8)} (h : L.map toL = p) : L = p.map ofL := by
  rw [← h, List.map_map]
  conv => lhs; rw [← List.map_id L]
  exact List.map_congr_left fun x _ => (ofL_toL x).symm
theorem all_names {L : List ByteArray} (h : ∀ j, j < L.length → nameB (L.getD j ByteArray.empty) = true) : ∀ k, k ∈ L → nameB k = true := by
  intro k hk
  obtain ⟨j, hj, rfl⟩ := List.getElem_of_mem hk
  have := h j hj
  rwa [List.getD_eq_getElem?_getD, List.getElem?_eq_getElem hj] at this
theorem part_le : ∀ (l : List UInt8) (p : List UInt8), p ∈ parts l → p.length ≤ l.length := by
  intro l
  induction l with
  | nil => intro p hp; simp [parts] at hp; subst hp; exact Nat.le_refl _
  | cons c l ih =>
    intro p hp
    by_cases h : c = 46
    · subst h
      simp [parts] at hp
      rcases hp with rfl | hp
      · exact Nat.zero_le _
      · have := ih p hp; simp; omega
    · obtain ⟨q, qs, h1, h2⟩ := parts_cons (l := l) h
      rw [h2] at hp
      rcases List.mem_cons.1 hp with rfl | hp
      · have := ih q (by rw [h1]; simp); simp; omega
      · have := ih p (by rw [h1]; simp [hp]); simp; omega

set_option maxHeartbeats 1000000 in
theorem split_c (s : ByteArray) (w : World) (hT : MX w) (hs : s.size < 4294967281) :
    Calls Tryd.prog 32 #[.string s] w (SplitPost s w) := by
  by_cases h0 : s.size = 0
  · have HP := Lib.hid (pathOf_empty h0)
    have hz := empty_of h0
    clear h0
    go_enter Tryd.func32, Tryd.ntmps32
    go_wp2_with fail
    go_ret2
    unfold SplitPost
    rw [HP.out]
    exact ⟨Bel.refl _, none, 0, rfl, .inl rfl, by simp, by simp, by simp⟩
  have hz := empty_not h0
  have hH0 := Lib.hid h0
  clear h0
  have hC := splitN_c s w hT hs
  obtain ⟨hp1, hp2⟩ := split_parts (min 9 (s.size + 1) - 1) s
  have hpl := parts_len (toL s)
  rw [toL_len] at hpl
  have HLL : Hid ((Lib.splitB dot 0 (min 9 (s.size + 1) - 1) s).length ≤ min 9 (s.size + 1)) := Lib.hid (by rw [hp2]; omega)
  generalize hL : Lib.splitB dot 0 (min 9 (s.size + 1) - 1) s = L at hC hp1 hp2 HLL
  clear hL
  by_cases h8 : 8 < L.length
  · have HP := Lib.hid (pathOf_long hH0.out (by omega))
    have h8' : (8 : Int) < (L.length : Int) := by omega
    have HC := Lib.hid hC
    clear hC hp1 hp2 HLL h8
    go_enter Tryd.func32, Tryd.ntmps32
    go_wp2_with (go_at_call 44; refine HC.out.mono ?_; rintro e w' ⟨rfl, rfl⟩)
    go_ret2
    unfold SplitPost
    rw [HP.out]
    exact ⟨Bel.alloc _ _, rfl⟩
  have h8' : ¬ (8 : Int) < (L.length : Int) := by omega
  have hpe := hp1 (by omega)
  have HC := Lib.hid hC
  have HE := Lib.hid hpe
  have hl8 : L.length ≤ 8 := by omega
  have HR := Lib.hid (cells_row w 9 L (min 9 (s.size + 1)) HLL.out)
  clear hC hp1 hp2 h8 hpe hpl
  go_enter Tryd.func32, Tryd.ntmps32
  go_wp2_with (go_at_call 44; refine HC.out.mono ?_; rintro e w' ⟨rfl, rfl⟩)
  go_loop [16] (fun i => ∃ k : Nat, k ≤ L.length ∧ i = .int .i64 k ∧ Hid (∀ j, j < k → nameB (L.getD j ByteArray.empty) = true)) (fun i => L.length - (intOf i).toNat)
  case atStart => exact ⟨0, Nat.zero_le _, rfl, Lib.hid (fun j hj => absurd hj (Nat.not_lt_zero _))⟩
  case round =>
    obtain ⟨k, hk, rfl, HA⟩ := hrel
    by_cases hlt : k < L.length
    · have hcell := HR.out k hlt
      have hmem : toL (L.getD k ByteArray.empty) ∈ parts (toL s) := by
        rw [← HE.out, List.getD_eq_getElem?_getD, List.getElem?_eq_getElem hlt]
        exact List.mem_map_of_mem (List.getElem_mem hlt)
      have hsz : (L.getD k ByteArray.empty).size ≤ maxLen := by
        have := part_le _ _ hmem
        rw [toL_len, toL_len] at this
        unfold maxLen; omega
      have HM := Lib.hid hmem
      have HSTEP : Hid (nameB (L.getD k ByteArray.empty) = true → ∀ j, j < k + 1 → nameB (L.getD j ByteArray.empty) = true) := Lib.hid fun h j hj => by
        by_cases e : j = k
        · subst e; exact h
        · exact HA.out j (by omega)
      clear hmem
      generalize L.getD k ByteArray.empty = nm at hcell hsz HM HSTEP
      have HN := Lib.hid (isName_c nm hsz)
      cases hn : nameB nm with
      | true =>
        have HA2 := Lib.hid (HSTEP.out hn)
        rw [hn] at HN
        clear hn hsz
        go_wp2_with (go_at_call 33; refine (HN.out _).mono ?_; rintro e w' ⟨rfl, rfl⟩)
        go_round
        case rel => exact ⟨k + 1, by omega, by go_num, HA2⟩
        case measure => simp [intOf]; omega
      | false =>
        have HP := Lib.hid (pathOf_bad hH0.out HM.out hn)
        rw [hn] at HN
        clear hn hsz
        go_wp2_with (go_at_call 33; refine (HN.out _).mono ?_; rintro e w' ⟨rfl, rfl⟩)
        go_ret2
        unfold SplitPost
        rw [HP.out]
        exact ⟨Bel.alloc _ _, rfl⟩
    · obtain rfl : L.length = k := by omega
      have hall := all_names HA.out
      have hp : pathOf s = some L := by
        rw [pathOf_good hH0.out (by rw [← HE.out, List.length_map]; omega) (by rw [← HE.out, List.all_map, List.all_eq_true]; exact hall), ← L_parts HE.out]
      have HP := Lib.hid hp
      have HALL := Lib.hid hall
      clear hp hall
      go_wp2_with fail
      go_ret2
      unfold SplitPost
      rw [HP.out]
      exact ⟨Bel.alloc _ _, _, _, rfl, .inr ⟨w.heap.size, 0, rfl, by simp, fun i hi => by rw [Nat.zero_add]; exact HR.out i hi⟩, fun a ha => by cases ha; exact Nat.le_refl _, hl8, HALL.out⟩
end Go.Proofs.YtkiefgifbkpcfaaDoor
