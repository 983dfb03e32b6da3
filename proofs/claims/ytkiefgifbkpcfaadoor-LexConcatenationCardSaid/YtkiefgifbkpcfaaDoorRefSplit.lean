/-
  Contracts: the reference's Split.
-/
import Derived.Test.YtkiefgifbkpcfaaDoorSplit2
import Derived.Test.YtkiefgifbkpcfaaDoorCuts
namespace Go.Proofs.YtkiefgifbkpcfaaDoor
open Go.RowKit Go.BigFrame
set_option linter.unusedVariables false
set_option linter.unusedSimpArgs false
attribute [local go_sem ↓] sliced_cut run_min2 run_max2
attribute [local go_sem] cutA_zero

theorem bel_of_only {w w' : World} (h : Only [] w w') : Bel w w' := h.to_below (Nat.le_refl _) (by simp)
/-- Strings as cells. -/
def vss (l : List ByteArray) : List Value := l.map Value.string
theorem vss_append (a b : List ByteArray) : vss (a ++ b) = vss a ++ vss b := List.map_append
theorem vss_length (a : List ByteArray) : (vss a).length = a.length := List.length_map _
theorem strs_of_row {w : World} {A : Option Addr} {n c : Nat} {l : List ByteArray} (h : RowAt w 9 A n c (vss l)) : Strs w A l := by
  by_cases h0 : l = []
  · exact .inl h0
  · have hl : 0 < l.length := List.length_pos_iff.2 h0
    obtain ⟨g, o, rfl, _⟩ := h.cell (j := 0) (u := .string l[0]) (by simp [vss, List.getElem?_eq_getElem hl])
    have hg := h.lt g (by simp [rowT])
    refine .inr ⟨g, o, rfl, hg, fun i hi => ?_⟩
    obtain ⟨g', o', e, hc⟩ := h.cell (j := i) (u := .string (l.getD i ByteArray.empty)) (by simp [vss, List.getElem?_eq_getElem hi])
    simp only [Option.some.injEq, Addr.mk.injEq, and_true] at e
    obtain ⟨rfl, rfl⟩ := e
    exact hc
theorem info_str : (Tryd.prog.info? 9).map (fun i => (i.zero, i.size, i.bytes)) = some (some (.string ByteArray.empty), 1, 16) := by kernel_rfl
/-- append(l, s) at the operation. -/
theorem wp_appendS {w : World} {ops : Array Oper} {rest : List Oper} {o : Oper} {a : Act} {Q : Exit → Act → World → Prop} (hgd : o.guard = none) (s x : Operand)
    (ho : o.op = .call { callee := .builtin .append, args := #[s, x], argTypes := #[49, 49] })
    (A : Option Addr) (n c : Nat) (zs : List ByteArray) (hs : a.eval s = .slice A n c) (hA : RowAt w 9 A n c (vss zs)) (g : Nat) (r : ByteArray) (hx : a.eval x = .slice (some ⟨g, 0, none⟩) 1 1)
    (hb : Blk w g 9 [.string r]) (hn : n ≤ 4000000)
    (h : ∀ A' c' w', Hid (RowAt w' 9 A' (n + 1) c' (vss (zs ++ [r]))) → Hid (Only (rowT A) w w') → Hid (∀ k, k ∈ rowT A' → k ∈ rowT A ∨ w.heap.size ≤ k) → wpList Tryd.prog ops Q rest (a.put o.dst (.slice A' (n + 1) c')) w') :
    wpList Tryd.prog ops Q (o :: rest) a w := by
  obtain ⟨i0, hi, hz0, hz1, hz2⟩ := info_parts info_str
  have hr := Reads.of_blk hb 0 1 (by simp) hb.lt
  refine wp_rowAppend hgd s x 49 ho 9 i0 _ 16 Tryd.underlying49 hi hz0 hz1 hz2 rfl A n c (vss zs) hs hA w.heap.size (some ⟨g, 0, none⟩) 1 1 [.string r] hx hr (by simp [Value.oneCell']) (by unfold maxLen; omega) (by omega) (n + 1) rfl ?_
  intro A' c' w' h1 h2 h3
  refine h A' c' w' (Lib.hid ?_) (Lib.hid h2) h3
  have := h1.out
  rw [vss_append]
  exact this

/-- Where the loop over the path stands. -/
structure SpAt (s : ByteArray) (L : List ByteArray) (a i : Nat) : Prop where
  le : a ≤ i
  top : i ≤ s.size
  eq : parts (toL s) = L.map toL ++ parts ((toL s).drop a)
  plain : ∀ c ∈ ((toL s).drop a).take (i - a), c ≠ 46
theorem SpAt.start (s : ByteArray) : SpAt s [] 0 0 := ⟨Nat.le_refl _, Nat.zero_le _, by simp, by simp⟩
theorem SpAt.next {s : ByteArray} {L : List ByteArray} {a i : Nat} (h : SpAt s L a i) (hi : i < s.size) (hc : s[i] ≠ 46) : SpAt s L a (i + 1) := by
  refine ⟨by have := h.le; omega, hi, h.eq, fun c hcm => ?_⟩
  have e : i + 1 - a = (i - a) + 1 := by have := h.le; omega
  rw [e, List.take_add_one, List.mem_append] at hcm
  rcases hcm with hcm | hcm
  · exact h.plain c hcm
  · rw [List.getElem?_drop, show a + (i - a) = i by have := h.le; omega] at hcm
    have hg := getElem_toList hi
    unfold toL at hcm
    rw [hg] at hcm
    simp at hcm
    subst hcm
    exact hc
theorem SpAt.piece {s : ByteArray} {L : List ByteArray} {a i : Nat} (h : SpAt s L a i) : toL (s.extract a i) = ((toL s).drop a).take (i - a) := by
  rw [toL_extract, List.take_drop, show a + (i - a) = i by have := h.le; omega]
theorem SpAt.dot {s : ByteArray} {L : List ByteArray} {a i : Nat} (h : SpAt s L a i) (hi : i < s.size) (hc : s[i] = 46) :
    parts (toL s) = (L ++ [s.extract a i]).map toL ++ parts ((toL s).drop (i + 1)) := by
  rw [List.map_append, List.map_singleton, h.piece, h.eq, List.append_assoc]
  congr 1
  have e : (toL s).drop a = ((toL s).drop a).take (i - a) ++ 46 :: (toL s).drop (i + 1) := by
    conv => lhs; rw [← List.take_append_drop (i - a) ((toL s).drop a)]
    rw [List.drop_drop, show a + (i - a) = i by have := h.le; omega]
    congr 1
    have hl : i < (toL s).length := hi
    rw [List.drop_eq_getElem_cons hl]
    congr 1
  conv => lhs; rw [e]
  exact parts_dot h.plain
theorem SpAt.stop {s : ByteArray} {L : List ByteArray} {a : Nat} (h : SpAt s L a s.size) : parts (toL s) = (L ++ [s.extract a s.size]).map toL := by
  rw [List.map_append, List.map_singleton, h.piece, h.eq]
  congr 1
  have e : ((toL s).drop a).take (s.size - a) = (toL s).drop a := List.take_of_length_le (by rw [List.length_drop, toL_len]; exact Nat.le_refl _)
  have h1 := h.plain
  rw [e] at h1 ⊢
  exact parts_plain h1
theorem SpAt.dotted {s : ByteArray} {L : List ByteArray} {a i : Nat} (h : SpAt s L a i) (hi : i < s.size) (hc : s[i] = 46) : SpAt s (L ++ [s.extract a i]) (i + 1) (i + 1) :=
  ⟨Nat.le_refl _, hi, h.dot hi hc, by simp⟩
/-- No path: a part that is no name. -/
theorem no_path_name {s nm : ByteArray} {L : List ByteArray} {r : List (List UInt8)} (hs : s.size ≠ 0) (h : parts (toL s) = (L ++ [nm]).map toL ++ r) (hn : nameB nm = false) : pathOf s = none :=
  pathOf_bad hs (p := toL nm) (by rw [h]; simp) hn
/-- No path: too many parts. -/
theorem no_path_many {s nm : ByteArray} {L : List ByteArray} {r : List (List UInt8)} (hs : s.size ≠ 0) (h : parts (toL s) = (L ++ [nm]).map toL ++ r) (hn : L.length = 8) : pathOf s = none :=
  pathOf_long hs (by rw [h]; simp; omega)
end Go.Proofs.YtkiefgifbkpcfaaDoor
