/-
  Contracts: value.Split.
  Contracts: the reference's Split.
  Contract: the reference's Split.
  The laws of layer 15 as plain data: elements and their ends, the bounds of names. No program is imported here.
  Nodes of templates as they lie in memory: a tree with its addresses; what is left without the addresses. No program is imported here.
  The nodes of a list of tokens, as plain data. No program is imported here.
  Laws of the nodes of a list of tokens: their number, their depth, their offsets; tokens in sequence. No program is imported here.
  Laws of the nodes of a list of tokens: two templates in sequence; nested blocks; many nodes. No program is imported here.
  Nodes as the laws ask of them: all nodes counted, offsets one behind the other, equal up to addresses and offsets. No program is imported here.
  The numbers of the faults of a list of tokens. No program is imported here.
-/
import Derived.Test.YtpcapmdfjmpdiaaGreatDoorZHp15
import Derived.Test.YtpcapmdfjmpdiaaGreatDoorZRegion2
import Derived.Lib.SmallJoins
namespace Go.Proofs.YtpcapmdfjmpdiaaGreatDoor
open Go.RowKit Go.BigFrame
set_option linter.unusedVariables false
set_option linter.unusedSimpArgs false

/-- What splitting a path gives. -/
def SplitPost (s : ByteArray) (w : World) (e : Ending) (w' : World) : Prop :=
  Bel w w' ∧ match pathOf s with
    | some l => ∃ A c, e = .returned (.tuple #[.slice A l.length c, .int .i64 0]) ∧ Strs w' A l ∧ (∀ a, A = some a → w.heap.size ≤ a.block) ∧ l.length ≤ 8 ∧ ∀ k, k ∈ l → nameB k = true
    | none => e = .returned (.tuple #[.slice none 0 0, .int .i64 11])
theorem pathOf_empty {s : ByteArray} (h : s.size = 0) : pathOf s = some [] := by unfold pathOf; rw [if_pos h]
theorem pathOf_long {s : ByteArray} (h : s.size ≠ 0) (hl : 8 < (parts (toL s)).length) : pathOf s = none := by
  unfold pathOf; rw [if_neg h, if_neg]; rintro ⟨h1, _⟩; omega
theorem pathOf_bad {s : ByteArray} (h : s.size ≠ 0) {p : List UInt8} (hp : p ∈ parts (toL s)) (hn : nameL p = false) : pathOf s = none := by
  unfold pathOf; rw [if_neg h, if_neg]; rintro ⟨_, h1⟩
  have := List.all_eq_true.1 h1 p hp
  rw [hn] at this; cases this
theorem pathOf_good {s : ByteArray} (h : s.size ≠ 0) (hl : (parts (toL s)).length ≤ 8) (ha : (parts (toL s)).all nameL = true) : pathOf s = some ((parts (toL s)).map ofL) := by
  unfold pathOf; rw [if_neg h, if_pos ⟨hl, ha⟩]
theorem cells_row (w : World) (T : TypeId) (L : List ByteArray) (n : Nat) (hL : L.length ≤ n) : ∀ i, i < L.length → (w.alloc (.cells (Lib.cellsOf L n) T)).cell? ⟨w.heap.size, i, none⟩ = some (.string (L.getD i ByteArray.empty)) := by
  intro i hi
  have hc : (Lib.cellsOf L n)[i]? = some (Value.string (L.getD i ByteArray.empty)) := by
    unfold Lib.cellsOf
    rw [List.getElem?_toArray, List.getElem?_append_left (by simpa using hi), List.getElem?_map, List.getElem?_eq_getElem hi, List.getD_eq_getElem?_getD, List.getElem?_eq_getElem hi]
    rfl
  rw [World.cell?_alloc_new]
  exact hc
theorem L_parts {L : List ByteArray} {p : List (List UInt8)} (h : L.map toL = p) : L = p.map ofL := by
  rw [← h, List.map_map]
  conv => lhs; rw [← List.map_id L]
  exact List.map_congr_left fun x _ => (ofL_toL x).symm
theorem all_names {L : List ByteArray} (h : ∀ j, j < L.length → nameB (L.getD j ByteArray.empty) = true) : ∀ k, k ∈ L → nameB k = true := by
  intro k hk
  obtain ⟨j, hj, rfl⟩ := List.getElem_of_mem hk
  have := h j hj
  rwa [List.getD_eq_getElem?_getD, List.getElem?_eq_getElem hj] at this
theorem part_le : ∀ (l : List UInt8) (p : List UInt8), p ∈ parts l → p.length ≤ l.length := by
  intro l
  induction l with
  | nil => intro p hp; simp [parts] at hp; subst hp; exact Nat.le_refl _
  | cons c l ih =>
    intro p hp
    by_cases h : c = 46
    · subst h
      simp [parts] at hp
      rcases hp with rfl | hp
      · exact Nat.zero_le _
      · have := ih p hp; simp; omega
    · obtain ⟨q, qs, h1, h2⟩ := parts_cons (l := l) h
      rw [h2] at hp
      rcases List.mem_cons.1 hp with rfl | hp
      · have := ih q (by rw [h1]; simp); simp; omega
      · have := ih p (by rw [h1]; simp [hp]); simp; omega
set_option maxHeartbeats 1000000 in
theorem split_c (s : ByteArray) (w : World) (hT : MX w) (hs : s.size < 4294967281) :
    Calls Tryz.prog 49 #[.string s] w (SplitPost s w) := by
  by_cases h0 : s.size = 0
  · have HP := Lib.hid (pathOf_empty h0)
    have hz := empty_of h0
    clear h0
    go_enter Tryz.func49, Tryz.ntmps49
    go_wp2_with fail
    go_ret2
    unfold SplitPost
    rw [HP.out]
    exact ⟨Bel.refl _, none, 0, rfl, .inl rfl, by simp, by simp, by simp⟩
  have hz := empty_not h0
  have hH0 := Lib.hid h0
  clear h0
  have hC := splitN_c s w hT hs
  obtain ⟨hp1, hp2⟩ := split_parts (min 9 (s.size + 1) - 1) s
  have hpl := parts_len (toL s)
  rw [toL_len] at hpl
  have HLL : Hid ((Lib.splitB dot 0 (min 9 (s.size + 1) - 1) s).length ≤ min 9 (s.size + 1)) := Lib.hid (by rw [hp2]; omega)
  generalize hL : Lib.splitB dot 0 (min 9 (s.size + 1) - 1) s = L at hC hp1 hp2 HLL
  clear hL
  by_cases h8 : 8 < L.length
  · have HP := Lib.hid (pathOf_long hH0.out (by omega))
    have h8' : (8 : Int) < (L.length : Int) := by omega
    have HC := Lib.hid hC
    clear hC hp1 hp2 HLL h8
    go_enter Tryz.func49, Tryz.ntmps49
    go_wp2_with (go_at_call 72; refine HC.out.mono ?_; rintro e w' ⟨rfl, rfl⟩)
    go_ret2
    unfold SplitPost
    rw [HP.out]
    exact ⟨Bel.alloc _ _, rfl⟩
  have h8' : ¬ (8 : Int) < (L.length : Int) := by omega
  have hpe := hp1 (by omega)
  have HC := Lib.hid hC
  have HE := Lib.hid hpe
  have hl8 : L.length ≤ 8 := by omega
  have HR := Lib.hid (cells_row w 9 L (min 9 (s.size + 1)) HLL.out)
  clear hC hp1 hp2 h8 hpe hpl
  go_enter Tryz.func49, Tryz.ntmps49
  go_wp2_with (go_at_call 72; refine HC.out.mono ?_; rintro e w' ⟨rfl, rfl⟩)
  go_loop [16] (fun i => ∃ k : Nat, k ≤ L.length ∧ i = .int .i64 k ∧ Hid (∀ j, j < k → nameB (L.getD j ByteArray.empty) = true)) (fun i => L.length - (intOf i).toNat)
  case atStart => exact ⟨0, Nat.zero_le _, rfl, Lib.hid (fun j hj => absurd hj (Nat.not_lt_zero _))⟩
  case round =>
    obtain ⟨k, hk, rfl, HA⟩ := hrel
    by_cases hlt : k < L.length
    · have hcell := HR.out k hlt
      have hmem : toL (L.getD k ByteArray.empty) ∈ parts (toL s) := by
        rw [← HE.out, List.getD_eq_getElem?_getD, List.getElem?_eq_getElem hlt]
        exact List.mem_map_of_mem (List.getElem_mem hlt)
      have hsz : (L.getD k ByteArray.empty).size ≤ maxLen := by
        have := part_le _ _ hmem
        rw [toL_len, toL_len] at this
        unfold maxLen; omega
      have HM := Lib.hid hmem
      have HSTEP : Hid (nameB (L.getD k ByteArray.empty) = true → ∀ j, j < k + 1 → nameB (L.getD j ByteArray.empty) = true) := Lib.hid fun h j hj => by
        by_cases e : j = k
        · subst e; exact h
        · exact HA.out j (by omega)
      clear hmem
      generalize L.getD k ByteArray.empty = nm at hcell hsz HM HSTEP
      have HN := Lib.hid (isName_c nm hsz)
      cases hn : nameB nm with
      | true =>
        have HA2 := Lib.hid (HSTEP.out hn)
        rw [hn] at HN
        clear hn hsz
        go_wp2_with (go_at_call 73; refine (HN.out _).mono ?_; rintro e w' ⟨rfl, rfl⟩)
        go_round
        case rel => exact ⟨k + 1, by omega, by go_num, HA2⟩
        case measure => simp [intOf]; omega
      | false =>
        have HP := Lib.hid (pathOf_bad hH0.out HM.out hn)
        rw [hn] at HN
        clear hn hsz
        go_wp2_with (go_at_call 73; refine (HN.out _).mono ?_; rintro e w' ⟨rfl, rfl⟩)
        go_ret2
        unfold SplitPost
        rw [HP.out]
        exact ⟨Bel.alloc _ _, rfl⟩
    · obtain rfl : L.length = k := by omega
      have hall := all_names HA.out
      have hp : pathOf s = some L := by
        rw [pathOf_good hH0.out (by rw [← HE.out, List.length_map]; omega) (by rw [← HE.out, List.all_map, List.all_eq_true]; exact hall), ← L_parts HE.out]
      have HP := Lib.hid hp
      have HALL := Lib.hid hall
      clear hp hall
      go_wp2_with fail
      go_ret2
      unfold SplitPost
      rw [HP.out]
      exact ⟨Bel.alloc _ _, _, _, rfl, .inr ⟨w.heap.size, 0, rfl, by simp, fun i hi => by rw [Nat.zero_add]; exact HR.out i hi⟩, fun a ha => by cases ha; exact Nat.le_refl _, hl8, HALL.out⟩
end Go.Proofs.YtpcapmdfjmpdiaaGreatDoor

namespace Go.Proofs.YtpcapmdfjmpdiaaGreatDoor
open Go.RowKit Go.BigFrame
set_option linter.unusedVariables false
set_option linter.unusedSimpArgs false
attribute [local go_sem ↓] sliced_cut run_min2 run_max2
attribute [local go_sem] cutA_zero

theorem bel_of_only {w w' : World} (h : Only [] w w') : Bel w w' := h.to_below (Nat.le_refl _) (by simp)
/-- Strings as cells. -/
def vss (l : List ByteArray) : List Value := l.map Value.string
theorem vss_append (a b : List ByteArray) : vss (a ++ b) = vss a ++ vss b := List.map_append
theorem vss_length (a : List ByteArray) : (vss a).length = a.length := List.length_map _
theorem strs_of_row {w : World} {A : Option Addr} {n c : Nat} {l : List ByteArray} (h : RowAt w 9 A n c (vss l)) : Strs w A l := by
  by_cases h0 : l = []
  · exact .inl h0
  · have hl : 0 < l.length := List.length_pos_iff.2 h0
    obtain ⟨g, o, rfl, _⟩ := h.cell (j := 0) (u := .string l[0]) (by simp [vss, List.getElem?_eq_getElem hl])
    have hg := h.lt g (by simp [rowT])
    refine .inr ⟨g, o, rfl, hg, fun i hi => ?_⟩
    obtain ⟨g', o', e, hc⟩ := h.cell (j := i) (u := .string (l.getD i ByteArray.empty)) (by simp [vss, List.getElem?_eq_getElem hi])
    simp only [Option.some.injEq, Addr.mk.injEq, and_true] at e
    obtain ⟨rfl, rfl⟩ := e
    exact hc
theorem info_str : (Tryz.prog.info? 9).map (fun i => (i.zero, i.size, i.bytes)) = some (some (.string ByteArray.empty), 1, 16) := by kernel_rfl
/-- append(l, s) at the operation. -/
theorem wp_appendS {w : World} {ops : Array Oper} {rest : List Oper} {o : Oper} {a : Act} {Q : Exit → Act → World → Prop} (hgd : o.guard = none) (s x : Operand)
    (ho : o.op = .call { callee := .builtin .append, args := #[s, x], argTypes := #[112, 112] })
    (A : Option Addr) (n c : Nat) (zs : List ByteArray) (hs : a.eval s = .slice A n c) (hA : RowAt w 9 A n c (vss zs)) (g : Nat) (r : ByteArray) (hx : a.eval x = .slice (some ⟨g, 0, none⟩) 1 1)
    (hb : Blk w g 9 [.string r]) (hn : n ≤ 4000000)
    (h : ∀ A' c' w', Hid (RowAt w' 9 A' (n + 1) c' (vss (zs ++ [r]))) → Hid (Only (rowT A) w w') → Hid (∀ k, k ∈ rowT A' → k ∈ rowT A ∨ w.heap.size ≤ k) → wpList Tryz.prog ops Q rest (a.put o.dst (.slice A' (n + 1) c')) w') :
    wpList Tryz.prog ops Q (o :: rest) a w := by
  obtain ⟨i0, hi, hz0, hz1, hz2⟩ := info_parts info_str
  have hr := Reads.of_blk hb 0 1 (by simp) hb.lt
  refine wp_rowAppend hgd s x 112 ho 9 i0 _ 16 Tryz.underlying112 hi hz0 hz1 hz2 rfl A n c (vss zs) hs hA w.heap.size (some ⟨g, 0, none⟩) 1 1 [.string r] hx hr (by simp [Value.oneCell']) (by unfold maxLen; omega) (by omega) (n + 1) rfl ?_
  intro A' c' w' h1 h2 h3
  refine h A' c' w' (Lib.hid ?_) (Lib.hid h2) h3
  have := h1.out
  rw [vss_append]
  exact this
/-- Where the loop over the path stands. -/
structure SpAt (s : ByteArray) (L : List ByteArray) (a i : Nat) : Prop where
  le : a ≤ i
  top : i ≤ s.size
  eq : parts (toL s) = L.map toL ++ parts ((toL s).drop a)
  plain : ∀ c ∈ ((toL s).drop a).take (i - a), c ≠ 46
theorem SpAt.start (s : ByteArray) : SpAt s [] 0 0 := ⟨Nat.le_refl _, Nat.zero_le _, by simp, by simp⟩
theorem SpAt.next {s : ByteArray} {L : List ByteArray} {a i : Nat} (h : SpAt s L a i) (hi : i < s.size) (hc : s[i] ≠ 46) : SpAt s L a (i + 1) := by
  refine ⟨by have := h.le; omega, hi, h.eq, fun c hcm => ?_⟩
  have e : i + 1 - a = (i - a) + 1 := by have := h.le; omega
  rw [e, List.take_add_one, List.mem_append] at hcm
  rcases hcm with hcm | hcm
  · exact h.plain c hcm
  · rw [List.getElem?_drop, show a + (i - a) = i by have := h.le; omega] at hcm
    have hg := getElem_toList hi
    unfold toL at hcm
    rw [hg] at hcm
    simp at hcm
    subst hcm
    exact hc
theorem SpAt.piece {s : ByteArray} {L : List ByteArray} {a i : Nat} (h : SpAt s L a i) : toL (s.extract a i) = ((toL s).drop a).take (i - a) := by
  rw [toL_extract, List.take_drop, show a + (i - a) = i by have := h.le; omega]
theorem SpAt.dot {s : ByteArray} {L : List ByteArray} {a i : Nat} (h : SpAt s L a i) (hi : i < s.size) (hc : s[i] = 46) :
    parts (toL s) = (L ++ [s.extract a i]).map toL ++ parts ((toL s).drop (i + 1)) := by
  rw [List.map_append, List.map_singleton, h.piece, h.eq, List.append_assoc]
  congr 1
  have e : (toL s).drop a = ((toL s).drop a).take (i - a) ++ 46 :: (toL s).drop (i + 1) := by
    conv => lhs; rw [← List.take_append_drop (i - a) ((toL s).drop a)]
    rw [List.drop_drop, show a + (i - a) = i by have := h.le; omega]
    congr 1
    have hl : i < (toL s).length := hi
    rw [List.drop_eq_getElem_cons hl]
    congr 1
  conv => lhs; rw [e]
  exact parts_dot h.plain
theorem SpAt.stop {s : ByteArray} {L : List ByteArray} {a : Nat} (h : SpAt s L a s.size) : parts (toL s) = (L ++ [s.extract a s.size]).map toL := by
  rw [List.map_append, List.map_singleton, h.piece, h.eq]
  congr 1
  have e : ((toL s).drop a).take (s.size - a) = (toL s).drop a := List.take_of_length_le (by rw [List.length_drop, toL_len]; exact Nat.le_refl _)
  have h1 := h.plain
  rw [e] at h1 ⊢
  exact parts_plain h1
theorem SpAt.dotted {s : ByteArray} {L : List ByteArray} {a i : Nat} (h : SpAt s L a i) (hi : i < s.size) (hc : s[i] = 46) : SpAt s (L ++ [s.extract a i]) (i + 1) (i + 1) :=
  ⟨Nat.le_refl _, hi, h.dot hi hc, by simp⟩
/-- No path: a part that is no name. -/
theorem no_path_name {s nm : ByteArray} {L : List ByteArray} {r : List (List UInt8)} (hs : s.size ≠ 0) (h : parts (toL s) = (L ++ [nm]).map toL ++ r) (hn : nameB nm = false) : pathOf s = none :=
  pathOf_bad hs (p := toL nm) (by rw [h]; simp) hn
/-- No path: too many parts. -/
theorem no_path_many {s nm : ByteArray} {L : List ByteArray} {r : List (List UInt8)} (hs : s.size ≠ 0) (h : parts (toL s) = (L ++ [nm]).map toL ++ r) (hn : L.length = 8) : pathOf s = none :=
  pathOf_long hs (by rw [h]; simp; omega)
end Go.Proofs.YtpcapmdfjmpdiaaGreatDoor

namespace Go.Proofs.YtpcapmdfjmpdiaaGreatDoor
open Go.RowKit Go.BigFrame
set_option linter.unusedVariables false
set_option linter.unusedSimpArgs false
attribute [local go_sem ↓] sliced_cut run_min2 run_max2
attribute [local go_sem] cutA_zero

/-- The loop's state. -/
def SpRel (s : ByteArray) (w : World) (v4 v5 v6 : Value) (wr : World) : Prop :=
  ∃ (A : Option Addr) (c : Nat) (L : List ByteArray) (a i : Nat), v4 = .slice A L.length c ∧ v5 = .int .i64 a ∧ v6 = .int .i64 i ∧ RowAt wr 9 A L.length c (vss L) ∧ (∀ k, k ∈ rowT A → w.heap.size ≤ k) ∧ Only [] w wr ∧
    L.length ≤ 8 ∧ (∀ k, k ∈ L → nameB k = true) ∧ a ≤ s.size + 1 ∧ i ≤ s.size + 1 ∧ (SpAt s L a i ∨ (i = s.size + 1 ∧ parts (toL s) = L.map toL))
theorem SpRel.start (s : ByteArray) (w : World) : SpRel s w (.slice none 0 0) (.int .i64 0) (.int .i64 0) w :=
  ⟨none, 0, [], 0, 0, rfl, rfl, rfl, RowAt.nil _ _, by simp [rowT], Only.refl _ _, Nat.zero_le _, by simp, Nat.zero_le _, Nat.zero_le _, .inl (SpAt.start s)⟩
theorem names_snoc {L : List ByteArray} {nm : ByteArray} (h : ∀ k, k ∈ L → nameB k = true) (hn : nameB nm = true) : ∀ k, k ∈ L ++ [nm] → nameB k = true := by
  intro k hk
  rcases List.mem_append.1 hk with hk | hk
  · exact h k hk
  · simp at hk; subst hk; exact hn
theorem SpRel.append {s : ByteArray} {w wr w1 : World} {A A' : Option Addr} {c' : Nat} {L : List ByteArray} {i : Nat} {nm : ByteArray} (hk : ∀ k, k ∈ rowT A → w.heap.size ≤ k) (hO : Only [] w wr)
    (hl : L.length ≤ 7) (hN : ∀ k, k ∈ L ++ [nm] → nameB k = true) (hi : i ≤ s.size) (hR : RowAt w1 9 A' (L.length + 1) c' (vss (L ++ [nm]))) (hO1 : Only (rowT A) (wr.alloc (.cells #[.string nm] 9)) w1)
    (hk1 : ∀ k, k ∈ rowT A' → k ∈ rowT A ∨ (wr.alloc (.cells #[.string nm] 9)).heap.size ≤ k) (hs : SpAt s (L ++ [nm]) (i + 1) (i + 1) ∨ (i + 1 = s.size + 1 ∧ parts (toL s) = (L ++ [nm]).map toL)) :
    SpRel s w (.slice A' (L.length + 1) c') (.int .i64 ((i : Int) + 1)) (.int .i64 ((i : Int) + 1)) w1 := by
  refine ⟨A', c', L ++ [nm], i + 1, i + 1, by simp, rfl, rfl, by simpa using hR, fun k hkk => ?_, ?_, by simp; omega, hN, by omega, by omega, hs⟩
  · rcases hk1 k hkk with h | h
    · exact hk k h
    · have := hO.size; simp at h; omega
  · exact (hO.alloc _).join hO1 fun k hkk => .inr (hk k hkk)
set_option maxRecDepth 100000 in
set_option maxHeartbeats 1600000 in
theorem refSplit_c (s : ByteArray) (w : World) (hs : s.size ≤ 2000000) :
    Calls Tryz.prog 50 #[.string s] w (SplitPost s w) := by
  by_cases h0 : s.size = 0
  · have HP := Lib.hid (pathOf_empty h0)
    have hz := empty_of h0
    clear h0
    go_enter Tryz.func50, Tryz.ntmps50
    go_wp2_with fail
    go_ret2
    unfold SplitPost
    rw [HP.out]
    exact ⟨Bel.refl _, none, 0, rfl, .inl rfl, by simp, by simp, by simp⟩
  have hz := empty_not h0
  have hH0 := Lib.hid h0
  clear h0
  have HSTART := SpRel.start s w
  go_enter Tryz.func50, Tryz.ntmps50
  go_wp2_with fail
  go_loopw [4, 5, 6] (fun v4 v5 v6 wr => SpRel s w v4 v5 v6 wr) (fun _ _ v6 _ => s.size + 2 - (intOf v6).toNat)
  case atStart => exact HSTART
  case round =>
    clear HSTART
    obtain ⟨A, c, L, a, i, rfl, rfl, rfl, hR, hk, hO, hl, hN, ha, hi, hst⟩ := hrel
    have HR := Lib.hid hR
    have HO := Lib.hid hO
    have HN := Lib.hid hN
    have HK := Lib.hid hk
    clear hR hO hN hk
    rcases hst with hst | ⟨hie, hp⟩
    · have ha2 : a ≤ i := hst.le
      have hi2 : i ≤ s.size := hst.top
      have HS := Lib.hid hst
      clear hst
      by_cases hlt : i < s.size
      · by_cases hc : s[i] = 46
        · have hne : ¬ i = s.size := by omega
          have hc1 : ((s[i].toNat : Int) == 46) = true := by rw [hc]; rfl
          have hEQ := HS.out.dot hlt hc
          have HD := Lib.hid (HS.out.dotted hlt hc)
          have hsz : (s.extract a i).size ≤ maxLen := by unfold maxLen; simp; omega
          have HC := Lib.hid (refName_c (s.extract a i) hsz)
          cases hn : nameB (s.extract a i) with
          | false =>
            have HP := Lib.hid (no_path_name hH0.out hEQ hn)
            rw [hn] at HC
            clear hEQ hn hsz hc
            go_wp2_with (go_at_call 74; refine (HC.out _).mono ?_; rintro e w' ⟨rfl, rfl⟩)
            go_ret2
            unfold SplitPost
            rw [HP.out]
            exact ⟨bel_of_only HO.out, rfl⟩
          | true =>
            by_cases h8 : L.length = 8
            · have HP := Lib.hid (no_path_many hH0.out hEQ h8)
              rw [hn] at HC
              have h8' : decide (L.length = 8) = true := by simpa using h8
              clear hEQ hn hsz hc
              go_wp2_with (go_at_call 74; refine (HC.out _).mono ?_; rintro e w' ⟨rfl, rfl⟩)
              go_ret2
              unfold SplitPost
              rw [HP.out]
              exact ⟨bel_of_only HO.out, rfl⟩
            · have HNN := Lib.hid (names_snoc HN.out hn)
              rw [hn] at HC
              clear hEQ hn hsz hc
              have h8' : ¬ L.length = 8 := h8
              have HAL := Lib.hid (HR.out.alloc (.cells #[.string (s.extract a i)] 9))
              have HBK := Lib.hid (Blk.new wr 9 [.string (s.extract a i)])
              go_wp2_with (first | (go_at_call 74; refine (HC.out _).mono ?_; rintro e w' ⟨rfl, rfl⟩) | (at_builtin; refine wp_appendS rfl _ _ rfl A L.length c L rfl HAL.out wr.heap.size (s.extract a i) rfl HBK.out (by omega) ?_; intro A' c' w1 hR1 hO1 hK1))
              go_roundw
              case rel => exact SpRel.append HK.out HO.out (by omega) HNN.out hi2 hR1.out hO1.out hK1.out (.inl HD.out)
              case measure => simp [intOf]; omega
        · have hne : ¬ i = s.size := by omega
          have hc1 : ((s[i].toNat : Int) == 46) = false := by
            simp only [beq_eq_false_iff_ne]
            intro e
            exact hc (UInt8.toNat_inj.1 (by rw [show (46 : UInt8).toNat = 46 from rfl]; omega))
          have HD := Lib.hid (HS.out.next hlt hc)
          clear hc
          go_wp2_with fail
          go_roundw
          case rel => exact ⟨A, c, L, a, i + 1, rfl, rfl, rfl, HR.out, HK.out, HO.out, hl, HN.out, ha, by omega, .inl HD.out⟩
          case measure => simp [intOf]; omega
      · obtain rfl : i = s.size := by omega
        clear hlt hi2 hi
        have hi2 : s.size ≤ s.size := Nat.le_refl _
        have hEQ : parts (toL s) = (L ++ [s.extract a s.size]).map toL ++ [] := by rw [List.append_nil]; exact HS.out.stop
        have HD : Hid (s.size + 1 = s.size + 1 ∧ parts (toL s) = (L ++ [s.extract a s.size]).map toL) := Lib.hid ⟨by omega, by rw [hEQ, List.append_nil]⟩
        have hsz : (s.extract a s.size).size ≤ maxLen := by unfold maxLen; simp; omega
        have HC := Lib.hid (refName_c (s.extract a s.size) hsz)
        cases hn : nameB (s.extract a s.size) with
        | false =>
          have HP := Lib.hid (no_path_name hH0.out hEQ hn)
          rw [hn] at HC
          clear hEQ hn hsz
          go_wp2_with (go_at_call 74; refine (HC.out _).mono ?_; rintro e w' ⟨rfl, rfl⟩)
          go_ret2
          unfold SplitPost
          rw [HP.out]
          exact ⟨bel_of_only HO.out, rfl⟩
        | true =>
          by_cases h8 : L.length = 8
          · have HP := Lib.hid (no_path_many hH0.out hEQ h8)
            rw [hn] at HC
            have h8' : decide (L.length = 8) = true := by simpa using h8
            clear hEQ hn hsz
            go_wp2_with (go_at_call 74; refine (HC.out _).mono ?_; rintro e w' ⟨rfl, rfl⟩)
            go_ret2
            unfold SplitPost
            rw [HP.out]
            exact ⟨bel_of_only HO.out, rfl⟩
          · have HNN := Lib.hid (names_snoc HN.out hn)
            rw [hn] at HC
            clear hEQ hn hsz
            have h8' : ¬ L.length = 8 := h8
            have HAL := Lib.hid (HR.out.alloc (.cells #[.string (s.extract a s.size)] 9))
            have HBK := Lib.hid (Blk.new wr 9 [.string (s.extract a s.size)])
            go_wp2_with (first | (go_at_call 74; refine (HC.out _).mono ?_; rintro e w' ⟨rfl, rfl⟩) | (at_builtin; refine wp_appendS rfl _ _ rfl A L.length c L rfl HAL.out wr.heap.size (s.extract a s.size) rfl HBK.out (by omega) ?_; intro A' c' w1 hR1 hO1 hK1))
            go_roundw
            case rel => exact SpRel.append HK.out HO.out (by omega) HNN.out hi2 hR1.out hO1.out hK1.out (.inr ⟨rfl, HD.out.2⟩)
            case measure => simp [intOf]
    · have HP : Hid (pathOf s = some L) := Lib.hid (by
        rw [pathOf_good hH0.out (by rw [hp, List.length_map]; exact hl) (by rw [hp, List.all_map, List.all_eq_true]; exact HN.out), ← L_parts hp.symm])
      have hgt : (s.size : Int) < (i : Int) := by omega
      clear hp
      go_wp2_with fail
      go_ret2
      unfold SplitPost
      rw [HP.out]
      exact ⟨bel_of_only HO.out, _, _, rfl, strs_of_row HR.out, fun a ha => HK.out _ (by rw [ha]; simp [rowT]), hl, HN.out⟩
end Go.Proofs.YtpcapmdfjmpdiaaGreatDoor

namespace Go.Proofs.YtpcapmdfjmpdiaaGreatDoor
set_option linter.unusedVariables false
set_option linter.unusedSimpArgs false

/-! ### Bounds -/
theorem end_low (k : Nat) : ∀ b, b ∈ endL k → ¬ (65 ≤ b.toNat ∧ b.toNat ≤ 90) := by
  unfold endL
  split <;> intro b hb <;> simp [styleL, scriptL] at hb <;> rcases hb with rfl | rfl | rfl | rfl | rfl | rfl | rfl | rfl <;> decide
theorem end_len (k : Nat) : (endL k).length ≤ 8 := by unfold endL; split <;> simp [styleL, scriptL]
theorem Inv.part {s : HS} (h : Inv s) : s.p.length ≤ 7 ∧ ∀ b, b ∈ s.p → ¬ (65 ≤ b.toNat ∧ b.toNat ≤ 90) := by
  have key : ∀ q : List UInt8, s.p = q → q.length ≤ 7 → (q.all fun b => decide (¬ (65 ≤ b.toNat ∧ b.toNat ≤ 90))) = true → s.p.length ≤ 7 ∧ ∀ b, b ∈ s.p → ¬ (65 ≤ b.toNat ∧ b.toNat ≤ 90) := fun q e h1 h2 => by
    rw [e]
    exact ⟨h1, fun b hb => of_decide_eq_true (List.all_eq_true.1 h2 b hb)⟩
  rcases Nat.lt_or_ge s.c 16 with h16 | h16
  · rcases Nat.lt_or_ge s.c 13 with h13 | h13
    · rcases Nat.eq_zero_or_pos s.c with h0 | h0
      · rcases h.p0 h0 with e | e | e | e | e <;> exact key _ e (by decide) (by decide)
      · exact key _ (h.p1 ⟨h0, by omega⟩) (by decide) (by decide)
    · by_cases h13e : s.c = 13
      · rcases h.p13 h13e with e | e | e <;> exact key _ e (by decide) (by decide)
      · exact key _ (h.p14 (by omega)) (by decide) (by decide)
  · rcases h.p16 h16 with e | e | e
    · exact key _ e (by decide) (by decide)
    · exact key _ e.1 (by decide) (by decide)
    · have := end_len s.c
      refine ⟨by omega, fun b hb => ?_⟩
      rw [e.2.2] at hb
      exact end_low s.c b (List.mem_of_mem_take hb)
/-! ### Elements -/
end Go.Proofs.YtpcapmdfjmpdiaaGreatDoor

namespace Go.Proofs.YtpcapmdfjmpdiaaGreatDoor
open Go.Joins Go.ChangeShapes Go.WideShapes Go.Deep Go.RowKit
set_option linter.unusedVariables false

/-- A node: kind, offset, string, path, has it a path, has it an else branch, where its body lies (address, capacity) and what it is, where its else branch lies and what it is. -/
inductive NT where
  | mk (k a : Int) (s p : ByteArray) (h e : Bool) (A : Option Addr) (c : Nat) (b : List NT) (B : Option Addr) (d : Nat) (l : List NT) : NT
namespace NT
def k : NT → Int | mk k _ _ _ _ _ _ _ _ _ _ _ => k
def a : NT → Int | mk _ a _ _ _ _ _ _ _ _ _ _ => a
def s : NT → ByteArray | mk _ _ s _ _ _ _ _ _ _ _ _ => s
def p : NT → ByteArray | mk _ _ _ p _ _ _ _ _ _ _ _ => p
def h : NT → Bool | mk _ _ _ _ h _ _ _ _ _ _ _ => h
def e : NT → Bool | mk _ _ _ _ _ e _ _ _ _ _ _ => e
def A : NT → Option Addr | mk _ _ _ _ _ _ A _ _ _ _ _ => A
def c : NT → Nat | mk _ _ _ _ _ _ _ c _ _ _ _ => c
def b : NT → List NT | mk _ _ _ _ _ _ _ _ b _ _ _ => b
def B : NT → Option Addr | mk _ _ _ _ _ _ _ _ _ B _ _ => B
def d : NT → Nat | mk _ _ _ _ _ _ _ _ _ _ d _ => d
def l : NT → List NT | mk _ _ _ _ _ _ _ _ _ _ _ l => l
/-- The eight cells. -/
def cs (t : NT) : List Value := [.int .i64 t.k, .int .i64 t.a, .string t.s, .string t.p, .bool t.h, .bool t.e, .slice t.A t.b.length t.c, .slice t.B t.l.length t.d]
def val (t : NT) : Value := .agg t.cs.toArray
theorem cs_len (t : NT) : t.cs.length = 8 := rfl
theorem cs_one (t : NT) (u : Value) (h : u ∈ t.cs) : u.oneCell' = true := by
  simp only [cs, List.mem_cons, List.not_mem_nil, or_false] at h
  rcases h with rfl | rfl | rfl | rfl | rfl | rfl | rfl | rfl <;> rfl
theorem size_b {t x : NT} (h : x ∈ t.b) : SizeOf.sizeOf x < SizeOf.sizeOf t := by
  cases t
  have := List.sizeOf_lt_of_mem h
  simp only [b] at this
  simp only [NT.mk.sizeOf_spec]
  omega
theorem size_l {t x : NT} (h : x ∈ t.l) : SizeOf.sizeOf x < SizeOf.sizeOf t := by
  cases t
  have := List.sizeOf_lt_of_mem h
  simp only [l] at this
  simp only [NT.mk.sizeOf_spec]
  omega
/-- Induction over a tree. -/
theorem ind {M : NT → Prop} (h : ∀ t, (∀ x, x ∈ t.b → M x) → (∀ x, x ∈ t.l → M x) → M t) (t : NT) : M t := by
  have key : ∀ n (t : NT), SizeOf.sizeOf t < n → M t := by
    intro n
    induction n with
    | zero => intro t ht; omega
    | succ n ih => intro t ht; exact h t (fun x hx => ih x (by have := size_b hx; omega)) (fun x hx => ih x (by have := size_l hx; omega))
  exact key _ t (Nat.lt_succ_self _)
/-- The node's eight cells lie at block g from cell o on. -/
def Cells (w : World) (g o : Nat) (t : NT) : Prop := ∀ j u, t.cs[j]? = some u → w.cell? ⟨g, o + j, none⟩ = some u
theorem Cells.all {w : World} {g o : Nat} {t : NT} (h : t.Cells w g o) : w.cell? ⟨g, o, none⟩ = some (.int .i64 t.k) ∧ w.cell? ⟨g, o + 1, none⟩ = some (.int .i64 t.a) ∧ w.cell? ⟨g, o + 2, none⟩ = some (.string t.s) ∧ w.cell? ⟨g, o + 3, none⟩ = some (.string t.p) ∧
    w.cell? ⟨g, o + 4, none⟩ = some (.bool t.h) ∧ w.cell? ⟨g, o + 5, none⟩ = some (.bool t.e) ∧ w.cell? ⟨g, o + 6, none⟩ = some (.slice t.A t.b.length t.c) ∧ w.cell? ⟨g, o + 7, none⟩ = some (.slice t.B t.l.length t.d) :=
  ⟨h 0 _ rfl, h 1 _ rfl, h 2 _ rfl, h 3 _ rfl, h 4 _ rfl, h 5 _ rfl, h 6 _ rfl, h 7 _ rfl⟩
theorem Cells.same {w w' : World} {g o : Nat} {t : NT} (h : t.Cells w g o) (e : ∀ p, w'.cell? ⟨g, p, none⟩ = w.cell? ⟨g, p, none⟩) : t.Cells w' g o := fun j u hu => (e _).trans (h j u hu)
/-- Where the row of nodes lies: l.length of them, at blocks of which Q holds. -/
def At (w : World) (Q : Nat → Prop) (A : Option Addr) (c : Nat) (l : List NT) : Prop :=
  (l.length ≤ c ∧ c ≤ maxLen ∧ l.length * 104 ≤ reachBytes) ∧ (0 < l.length → ∃ g o, A = some ⟨g, o, none⟩ ∧ Q g ∧ ∀ i (x : NT), l[i]? = some x → x.Cells w g (o + i * 8))
/-- All that the node leads to lies in blocks of which Q holds. -/
inductive In (w : World) (Q : Nat → Prop) : NT → Prop
  | mk (t : NT) (hk : -9223372036854775808 ≤ t.k ∧ t.k ≤ 9223372036854775807) (ha : -9223372036854775808 ≤ t.a ∧ t.a ≤ 9223372036854775807) (hs : t.s.size ≤ reachBytes) (hp : t.p.size ≤ reachBytes)
    (hA : At w Q t.A t.c t.b) (hB : At w Q t.B t.d t.l) (hx : ∀ x, x ∈ t.b → In w Q x) (hv : ∀ x, x ∈ t.l → In w Q x) : In w Q t
/-- A row of nodes with all that they lead to. -/
def Row (w : World) (Q : Nat → Prop) (A : Option Addr) (c : Nat) (l : List NT) : Prop := At w Q A c l ∧ ∀ x, x ∈ l → In w Q x
theorem In.body {w : World} {Q : Nat → Prop} {t : NT} (h : t.In w Q) : Row w Q t.A t.c t.b := by cases h with | mk _ _ _ _ _ hA _ hx _ => exact ⟨hA, hx⟩
theorem In.els {w : World} {Q : Nat → Prop} {t : NT} (h : t.In w Q) : Row w Q t.B t.d t.l := by cases h with | mk _ _ _ _ _ _ hB _ hv => exact ⟨hB, hv⟩
theorem At.same {w w' : World} {Q Q' : Nat → Prop} {A : Option Addr} {c : Nat} {l : List NT} (h : At w Q A c l) (hq : ∀ g, Q g → Q' g) (e : ∀ g p, Q g → w'.cell? ⟨g, p, none⟩ = w.cell? ⟨g, p, none⟩) : At w' Q' A c l := by
  obtain ⟨h1, h2⟩ := h
  refine ⟨h1, fun hl => ?_⟩
  obtain ⟨g, o, e1, hg, hi⟩ := h2 hl
  exact ⟨g, o, e1, hq g hg, fun i x hx => (hi i x hx).same fun p => e g p hg⟩
theorem In.same {w w' : World} {Q Q' : Nat → Prop} {t : NT} (h : t.In w Q) (hq : ∀ g, Q g → Q' g) (e : ∀ g p, Q g → w'.cell? ⟨g, p, none⟩ = w.cell? ⟨g, p, none⟩) : t.In w' Q' := by
  induction h with
  | mk t hk ha hs hp hA hB _ _ ihx ihv => exact .mk t hk ha hs hp (hA.same hq e) (hB.same hq e) ihx ihv
theorem Row.same {w w' : World} {Q Q' : Nat → Prop} {A : Option Addr} {c : Nat} {l : List NT} (h : Row w Q A c l) (hq : ∀ g, Q g → Q' g) (e : ∀ g p, Q g → w'.cell? ⟨g, p, none⟩ = w.cell? ⟨g, p, none⟩) : Row w' Q' A c l :=
  ⟨h.1.same hq e, fun x hx => (h.2 x hx).same hq e⟩
theorem Row.nil (w : World) (Q : Nat → Prop) : Row w Q none 0 [] := ⟨⟨⟨Nat.le_refl _, Nat.zero_le _, Nat.zero_le _⟩, fun h => absurd h (by simp)⟩, fun x hx => by cases hx⟩
/-- A node of the row. -/
theorem Row.at_ {w : World} {Q : Nat → Prop} {A : Option Addr} {c : Nat} {l : List NT} (h : Row w Q A c l) {i : Nat} {x : NT} (hx : l[i]? = some x) : ∃ g o, A = some ⟨g, o, none⟩ ∧ Q g ∧ x.Cells w g (o + i * 8) ∧ x.In w Q := by
  obtain ⟨hi, hv⟩ := List.getElem?_eq_some_iff.1 hx
  obtain ⟨g, o, e1, hg, hc⟩ := h.1.2 (by omega)
  exact ⟨g, o, e1, hg, hc i x hx, h.2 x (List.mem_of_getElem? hx)⟩
/-! ### Without the addresses -/
mutual
def er : NT → NT | mk k a s p h e _ _ b _ _ l => mk k a s p h e none 0 (ers b) none 0 (ers l)
def ers : List NT → List NT | [] => [] | x :: l => er x :: ers l
end
theorem ers_map : ∀ l : List NT, ers l = l.map er
  | [] => by simp [ers]
  | x :: l => by simp [ers, ers_map l]
theorem ers_len (l : List NT) : (ers l).length = l.length := by rw [ers_map, List.length_map]
theorem er_k (t : NT) : t.er.k = t.k := by cases t; simp [er, k]
theorem er_a (t : NT) : t.er.a = t.a := by cases t; simp [er, a]
theorem er_s (t : NT) : t.er.s = t.s := by cases t; simp [er, s]
theorem er_p (t : NT) : t.er.p = t.p := by cases t; simp [er, p]
theorem er_h (t : NT) : t.er.h = t.h := by cases t; simp [er, h]
theorem er_e (t : NT) : t.er.e = t.e := by cases t; simp [er, e]
theorem er_b (t : NT) : t.er.b = ers t.b := by cases t; simp [er, b]
theorem er_l (t : NT) : t.er.l = ers t.l := by cases t; simp [er, l]
/-! The same without offsets, too. -/
mutual
def strip : NT → NT | mk k _ s p h e _ _ b _ _ l => mk k 0 s p h e none 0 (strips b) none 0 (strips l)
def strips : List NT → List NT | [] => [] | x :: l => strip x :: strips l
end
theorem strips_map : ∀ l : List NT, strips l = l.map strip
  | [] => by simp [strips]
  | x :: l => by simp [strips, strips_map l]
theorem strip_mk (t : NT) : t.strip = mk t.k 0 t.s t.p t.h t.e none 0 (strips t.b) none 0 (strips t.l) := by cases t; simp [strip, k, s, p, h, e, b, l]
theorem strip_er (t : NT) : t.er.strip = t.strip := by
  refine ind (M := fun t => t.er.strip = t.strip) (fun t h1 h2 => ?_) t
  rw [strip_mk t.er, strip_mk t, er_k, er_s, er_p, er_h, er_e, er_b, er_l, ers_map, ers_map, strips_map, strips_map, strips_map, strips_map, List.map_map, List.map_map]
  congr 1
  · exact List.map_congr_left h1
  · exact List.map_congr_left h2
end NT
end Go.Proofs.YtpcapmdfjmpdiaaGreatDoor

namespace Go.Proofs.YtpcapmdfjmpdiaaGreatDoor
set_option linter.unusedVariables false
set_option linter.unusedSimpArgs false

/-- Does a kind open a block? -/
def blk (k : Nat) : Bool := k == 2 || k == 3 || k == 6
/-- The node of a token. -/
def nd (t : Tok) (e : Bool) (b l : List NT) : NT := .mk t.k t.a (ofL t.s) (ofL t.p) t.h e none 0 b none 0 l
/-- Where the fault is and which, or: the nodes, the tokens left, the number of nodes so far. -/
abbrev PR := Except (Nat × Nat) (List NT × List Tok × Nat)
def PR.cons (x : NT) (r : PR) : PR := match r with | .error e => .error e | .ok (l, y) => .ok (x :: l, y)
/-- The nodes up to the Else or End that belongs to the block (op: its kind, 0: none; ie: was its Else seen?), d blocks open, c nodes so far. -/
def pl : Nat → List Tok → Nat → Bool → Nat → Nat → PR
  | 0, _, _, _, _, _ => .error (0, 0)
  | _ + 1, [], _, _, _, c => .ok ([], [], c)
  | f + 1, t :: r, op, ie, d, c =>
    if t.k = 7 then (if op = 2 ∧ ie = false then .ok ([], t :: r, c) else .error (t.a, 13))
    else if t.k = 8 then (if op = 0 then .error (t.a, 13) else .ok ([], t :: r, c))
    else if t.k = 6 ∧ 0 < d ∨ blk t.k = true ∧ 32 ≤ d then .error (t.a, 13)
    else if 4096 ≤ c then .error (t.a, 14)
    else if blk t.k = false then (pl f r op ie d (c + 1)).cons (nd t false [] [])
    else match pl f r t.k false (d + 1) (c + 1) with
      | .error e => .error e
      | .ok (b, r1, c1) =>
        match r1 with
        | [] => .error (t.a, 7)
        | u :: r2 =>
          if u.k = 7 then
            match pl f r2 t.k true (d + 1) c1 with
            | .error e => .error e
            | .ok (b2, r3, c2) =>
              match r3 with
              | [] => .error (t.a, 7)
              | _ :: r4 => (pl f r4 op ie d c2).cons (nd t true b b2)
          else (pl f r2 op ie d c1).cons (nd t false b [])
theorem cons_ok {x : NT} {r : PR} {l : List NT} {y : List Tok × Nat} (h : r.cons x = .ok (l, y)) : ∃ l', l = x :: l' ∧ r = .ok (l', y) := by
  unfold PR.cons at h
  split at h
  · cases h
  · injection h with h; injection h with h1 h2; subst h1 h2; exact ⟨_, rfl, rfl⟩
/-- What is left is not longer. -/
theorem pl_rest : ∀ (f : Nat) (ts : List Tok) (op : Nat) (ie : Bool) (d c : Nat) (l : List NT) (r : List Tok) (c' : Nat), pl f ts op ie d c = .ok (l, r, c') → r.length ≤ ts.length
  | 0, _, _, _, _, _, _, _, _, h => by cases h
  | f + 1, [], op, ie, d, c, l, r, c', h => by simp [pl] at h; obtain ⟨_, rfl, _⟩ := h; exact Nat.le_refl _
  | f + 1, t :: ts, op, ie, d, c, l, r, c', h => by
    unfold pl at h
    split at h
    · split at h
      · simp at h; obtain ⟨_, rfl, _⟩ := h; exact Nat.le_refl _
      · cases h
    split at h
    · split at h
      · cases h
      · simp at h; obtain ⟨_, rfl, _⟩ := h; exact Nat.le_refl _
    split at h
    · cases h
    split at h
    · cases h
    split at h
    · obtain ⟨l', _, h2⟩ := cons_ok h
      have := pl_rest f ts _ _ _ _ _ _ _ h2
      simp; omega
    split at h
    · cases h
    rename_i b r1 c1 hb
    have h1 := pl_rest f _ _ _ _ _ _ _ _ hb
    split at h
    · cases h
    rename_i u r2
    split at h
    · split at h
      · cases h
      rename_i b2 r3 c2 hb2
      have h2 := pl_rest f _ _ _ _ _ _ _ _ hb2
      split at h
      · cases h
      rename_i v r4
      obtain ⟨l', _, h3⟩ := cons_ok h
      have h4 := pl_rest f _ _ _ _ _ _ _ _ h3
      simp at h1 h2 ⊢; omega
    · obtain ⟨l', _, h3⟩ := cons_ok h
      have h4 := pl_rest f _ _ _ _ _ _ _ _ h3
      simp at h1 ⊢; omega
/-- More fuel does not matter. -/
theorem pl_fuel : ∀ (f g : Nat) (ts : List Tok) (op : Nat) (ie : Bool) (d c : Nat), ts.length < f → ts.length < g → pl f ts op ie d c = pl g ts op ie d c
  | 0, _, _, _, _, _, _, h, _ => absurd h (Nat.not_lt_zero _)
  | _, 0, _, _, _, _, _, _, h => absurd h (Nat.not_lt_zero _)
  | f + 1, g + 1, [], _, _, _, _, _, _ => by simp [pl]
  | f + 1, g + 1, t :: ts, op, ie, d, c, hf, hg => by
    have hf' : ts.length < f := by simpa using hf
    have hg' : ts.length < g := by simpa using hg
    unfold pl
    rw [pl_fuel f g ts op ie d (c + 1) hf' hg', pl_fuel f g ts t.k false (d + 1) (c + 1) hf' hg']
    cases hb : pl g ts t.k false (d + 1) (c + 1) with
    | error e => rfl
    | ok x =>
      obtain ⟨b, r1, c1⟩ := x
      have h1 := pl_rest g _ _ _ _ _ _ _ _ hb
      cases r1 with
      | nil => rfl
      | cons u r2 =>
        simp at h1
        dsimp only
        rw [pl_fuel f g r2 t.k true (d + 1) c1 (by omega) (by omega), pl_fuel f g r2 op ie d c1 (by omega) (by omega)]
        cases hb2 : pl g r2 t.k true (d + 1) c1 with
        | error e => rfl
        | ok x =>
          obtain ⟨b2, r3, c2⟩ := x
          have h2 := pl_rest g _ _ _ _ _ _ _ _ hb2
          cases r3 with
          | nil => rfl
          | cons v r4 =>
            simp at h2
            dsimp only
            rw [pl_fuel f g r4 op ie d c2 (by omega) (by omega)]
def P (ts : List Tok) (op : Nat) (ie : Bool) (d c : Nat) : PR := pl (ts.length + 1) ts op ie d c
theorem P_rest {ts : List Tok} {op : Nat} {ie : Bool} {d c : Nat} {l : List NT} {r : List Tok} {c' : Nat} (h : P ts op ie d c = .ok (l, r, c')) : r.length ≤ ts.length := pl_rest _ _ _ _ _ _ _ _ _ h
theorem P_else {t : Tok} {r : List Tok} {op : Nat} {ie : Bool} {d c : Nat} (h : t.k = 7) : P (t :: r) op ie d c = if op = 2 ∧ ie = false then .ok ([], t :: r, c) else .error (t.a, 13) := by
  unfold P pl; rw [if_pos h]
theorem P_end {t : Tok} {r : List Tok} {op : Nat} {ie : Bool} {d c : Nat} (h : t.k = 8) : P (t :: r) op ie d c = if op = 0 then .error (t.a, 13) else .ok ([], t :: r, c) := by
  unfold P pl; rw [if_neg (by omega), if_pos h]
theorem P_nest {t : Tok} {r : List Tok} {op : Nat} {ie : Bool} {d c : Nat} (h7 : t.k ≠ 7) (h8 : t.k ≠ 8) (h : t.k = 6 ∧ 0 < d ∨ blk t.k = true ∧ 32 ≤ d) : P (t :: r) op ie d c = .error (t.a, 13) := by
  unfold P pl; rw [if_neg h7, if_neg h8, if_pos h]
theorem P_many {t : Tok} {r : List Tok} {op : Nat} {ie : Bool} {d c : Nat} (h7 : t.k ≠ 7) (h8 : t.k ≠ 8) (h : ¬ (t.k = 6 ∧ 0 < d ∨ blk t.k = true ∧ 32 ≤ d)) (hc : 4096 ≤ c) : P (t :: r) op ie d c = .error (t.a, 14) := by
  unfold P pl; rw [if_neg h7, if_neg h8, if_neg h, if_pos hc]
theorem P_leaf {t : Tok} {r : List Tok} {op : Nat} {ie : Bool} {d c : Nat} (h7 : t.k ≠ 7) (h8 : t.k ≠ 8) (hc : c < 4096) (hb : blk t.k = false) : P (t :: r) op ie d c = (P r op ie d (c + 1)).cons (nd t false [] []) := by
  have h : ¬ (t.k = 6 ∧ 0 < d ∨ blk t.k = true ∧ 32 ≤ d) := by
    rintro (⟨h, _⟩ | ⟨h, _⟩)
    · rw [h] at hb; cases hb
    · rw [h] at hb; cases hb
  unfold P
  rw [show (t :: r).length + 1 = (r.length + 1) + 1 from rfl]
  conv => lhs; unfold pl
  rw [if_neg h7, if_neg h8, if_neg h, if_neg (by omega), if_pos hb]
/-- A block whose body ends in a fault. -/
theorem P_body_err {t : Tok} {r : List Tok} {op : Nat} {ie : Bool} {d c : Nat} {e : Nat × Nat} (h : ¬ (t.k = 6 ∧ 0 < d ∨ blk t.k = true ∧ 32 ≤ d)) (hc : c < 4096) (hb : blk t.k = true) (hp : P r t.k false (d + 1) (c + 1) = .error e) : P (t :: r) op ie d c = .error e := by
  have h7 : t.k ≠ 7 := by intro h; rw [h] at hb; cases hb
  have h8 : t.k ≠ 8 := by intro h; rw [h] at hb; cases hb
  unfold P at hp ⊢
  rw [show (t :: r).length + 1 = (r.length + 1) + 1 from rfl]
  conv => lhs; unfold pl
  rw [if_neg h7, if_neg h8, if_neg h, if_neg (by omega), if_neg (by rw [hb]; decide), hp]
/-- A block that nothing closes. -/
theorem P_body_open {t : Tok} {r : List Tok} {op : Nat} {ie : Bool} {d c : Nat} {b : List NT} {c1 : Nat} (h : ¬ (t.k = 6 ∧ 0 < d ∨ blk t.k = true ∧ 32 ≤ d)) (hc : c < 4096) (hb : blk t.k = true) (hp : P r t.k false (d + 1) (c + 1) = .ok (b, [], c1)) : P (t :: r) op ie d c = .error (t.a, 7) := by
  have h7 : t.k ≠ 7 := by intro h; rw [h] at hb; cases hb
  have h8 : t.k ≠ 8 := by intro h; rw [h] at hb; cases hb
  unfold P at hp ⊢
  rw [show (t :: r).length + 1 = (r.length + 1) + 1 from rfl]
  conv => lhs; unfold pl
  rw [if_neg h7, if_neg h8, if_neg h, if_neg (by omega), if_neg (by rw [hb]; decide), hp]
/-- A block that an End closes. -/
theorem P_body_end {t u : Tok} {r r2 : List Tok} {op : Nat} {ie : Bool} {d c : Nat} {b : List NT} {c1 : Nat} (h : ¬ (t.k = 6 ∧ 0 < d ∨ blk t.k = true ∧ 32 ≤ d)) (hc : c < 4096) (hb : blk t.k = true) (hp : P r t.k false (d + 1) (c + 1) = .ok (b, u :: r2, c1)) (hu : u.k ≠ 7) :
    P (t :: r) op ie d c = (P r2 op ie d c1).cons (nd t false b []) := by
  have h7 : t.k ≠ 7 := by intro h; rw [h] at hb; cases hb
  have h8 : t.k ≠ 8 := by intro h; rw [h] at hb; cases hb
  have hl := P_rest hp
  simp at hl
  unfold P at hp ⊢
  rw [show (t :: r).length + 1 = (r.length + 1) + 1 from rfl]
  conv => lhs; unfold pl
  rw [if_neg h7, if_neg h8, if_neg h, if_neg (by omega), if_neg (by rw [hb]; decide), hp]
  dsimp only
  rw [if_neg hu, pl_fuel (r.length + 1) (r2.length + 1) r2 _ _ _ _ (by omega) (by omega)]
/-- A block with an Else whose second part ends in a fault. -/
theorem P_else_err {t u : Tok} {r r2 : List Tok} {op : Nat} {ie : Bool} {d c : Nat} {b : List NT} {c1 : Nat} {e : Nat × Nat} (h : ¬ (t.k = 6 ∧ 0 < d ∨ blk t.k = true ∧ 32 ≤ d)) (hc : c < 4096) (hb : blk t.k = true) (hp : P r t.k false (d + 1) (c + 1) = .ok (b, u :: r2, c1)) (hu : u.k = 7)
    (hp2 : P r2 t.k true (d + 1) c1 = .error e) : P (t :: r) op ie d c = .error e := by
  have h7 : t.k ≠ 7 := by intro h; rw [h] at hb; cases hb
  have h8 : t.k ≠ 8 := by intro h; rw [h] at hb; cases hb
  have hl := P_rest hp
  simp at hl
  unfold P at hp hp2 ⊢
  rw [show (t :: r).length + 1 = (r.length + 1) + 1 from rfl]
  conv => lhs; unfold pl
  rw [if_neg h7, if_neg h8, if_neg h, if_neg (by omega), if_neg (by rw [hb]; decide), hp]
  dsimp only
  rw [if_pos hu, pl_fuel (r.length + 1) (r2.length + 1) r2 _ _ _ _ (by omega) (by omega), hp2]
theorem P_else_open {t u : Tok} {r r2 : List Tok} {op : Nat} {ie : Bool} {d c : Nat} {b b2 : List NT} {c1 c2 : Nat} (h : ¬ (t.k = 6 ∧ 0 < d ∨ blk t.k = true ∧ 32 ≤ d)) (hc : c < 4096) (hb : blk t.k = true) (hp : P r t.k false (d + 1) (c + 1) = .ok (b, u :: r2, c1)) (hu : u.k = 7)
    (hp2 : P r2 t.k true (d + 1) c1 = .ok (b2, [], c2)) : P (t :: r) op ie d c = .error (t.a, 7) := by
  have h7 : t.k ≠ 7 := by intro h; rw [h] at hb; cases hb
  have h8 : t.k ≠ 8 := by intro h; rw [h] at hb; cases hb
  have hl := P_rest hp
  simp at hl
  unfold P at hp hp2 ⊢
  rw [show (t :: r).length + 1 = (r.length + 1) + 1 from rfl]
  conv => lhs; unfold pl
  rw [if_neg h7, if_neg h8, if_neg h, if_neg (by omega), if_neg (by rw [hb]; decide), hp]
  dsimp only
  rw [if_pos hu, pl_fuel (r.length + 1) (r2.length + 1) r2 _ _ _ _ (by omega) (by omega), hp2]
theorem P_else_end {t u v : Tok} {r r2 r4 : List Tok} {op : Nat} {ie : Bool} {d c : Nat} {b b2 : List NT} {c1 c2 : Nat} (h : ¬ (t.k = 6 ∧ 0 < d ∨ blk t.k = true ∧ 32 ≤ d)) (hc : c < 4096) (hb : blk t.k = true) (hp : P r t.k false (d + 1) (c + 1) = .ok (b, u :: r2, c1)) (hu : u.k = 7)
    (hp2 : P r2 t.k true (d + 1) c1 = .ok (b2, v :: r4, c2)) : P (t :: r) op ie d c = (P r4 op ie d c2).cons (nd t true b b2) := by
  have h7 : t.k ≠ 7 := by intro h; rw [h] at hb; cases hb
  have h8 : t.k ≠ 8 := by intro h; rw [h] at hb; cases hb
  have hl := P_rest hp
  have hl2 := P_rest hp2
  simp at hl hl2
  unfold P at hp hp2 ⊢
  rw [show (t :: r).length + 1 = (r.length + 1) + 1 from rfl]
  conv => lhs; unfold pl
  rw [if_neg h7, if_neg h8, if_neg h, if_neg (by omega), if_neg (by rw [hb]; decide), hp]
  dsimp only
  rw [if_pos hu, pl_fuel (r.length + 1) (r2.length + 1) r2 _ _ _ _ (by omega) (by omega), hp2]
  dsimp only
  rw [pl_fuel (r.length + 1) (r4.length + 1) r4 _ _ _ _ (by omega) (by omega)]
/-- What the rest begins with: nothing, or the Else or End that stopped it. -/
theorem pl_stop : ∀ (f : Nat) (ts : List Tok) (op : Nat) (ie : Bool) (d c : Nat) (l : List NT) (u : Tok) (r : List Tok) (c' : Nat), pl f ts op ie d c = .ok (l, u :: r, c') → (u.k = 7 ∧ op = 2 ∧ ie = false) ∨ (u.k = 8 ∧ op ≠ 0)
  | 0, _, _, _, _, _, _, _, _, _, h => by cases h
  | f + 1, [], op, ie, d, c, l, u, r, c', h => by simp [pl] at h
  | f + 1, t :: ts, op, ie, d, c, l, u, r, c', h => by
    unfold pl at h
    split at h
    · rename_i hk
      split at h
      · rename_i ho; simp at h; obtain ⟨_, ⟨rfl, _⟩, _⟩ := h; exact .inl ⟨hk, ho.1, ho.2⟩
      · cases h
    split at h
    · rename_i hk
      split at h
      · cases h
      · rename_i ho; simp at h; obtain ⟨_, ⟨rfl, _⟩, _⟩ := h; exact .inr ⟨hk, ho⟩
    split at h
    · cases h
    split at h
    · cases h
    split at h
    · obtain ⟨l', _, h2⟩ := cons_ok h
      exact pl_stop f _ _ _ _ _ _ _ _ _ h2
    split at h
    · cases h
    split at h
    · cases h
    split at h
    · split at h
      · cases h
      split at h
      · cases h
      obtain ⟨l', _, h3⟩ := cons_ok h
      exact pl_stop f _ _ _ _ _ _ _ _ _ h3
    · obtain ⟨l', _, h3⟩ := cons_ok h
      exact pl_stop f _ _ _ _ _ _ _ _ _ h3
theorem P_stop {ts : List Tok} {op : Nat} {ie : Bool} {d c : Nat} {l : List NT} {u : Tok} {r : List Tok} {c' : Nat} (h : P ts op ie d c = .ok (l, u :: r, c')) : (u.k = 7 ∧ op = 2 ∧ ie = false) ∨ (u.k = 8 ∧ op ≠ 0) := pl_stop _ _ _ _ _ _ _ _ _ _ h
end Go.Proofs.YtpcapmdfjmpdiaaGreatDoor

namespace Go.Proofs.YtpcapmdfjmpdiaaGreatDoor
set_option linter.unusedVariables false
set_option linter.unusedSimpArgs false

/-! ### Number and depth -/
def blkI (k : Int) : Bool := k == 2 || k == 3 || k == 6
namespace NT
mutual
def cnt : NT → Nat | mk k _ _ _ _ _ _ _ b _ _ l => 1 + (if blkI k then cnts b else 0) + (if k = 2 then cnts l else 0)
def cnts : List NT → Nat | [] => 0 | x :: r => cnt x + cnts r
end
mutual
def nst : NT → Nat | mk k _ _ _ _ _ _ _ b _ _ l => if blkI k then max (1 + nsts b) (if k = 2 then 1 + nsts l else 0) else 0
def nsts : List NT → Nat | [] => 0 | x :: r => max (nst x) (nsts r)
end
theorem cnt_eq (t : NT) : t.cnt = 1 + (if blkI t.k then cnts t.b else 0) + (if t.k = 2 then cnts t.l else 0) := by cases t; rw [cnt]; rfl
theorem nst_eq (t : NT) : t.nst = if blkI t.k then max (1 + nsts t.b) (if t.k = 2 then 1 + nsts t.l else 0) else 0 := by cases t; rw [nst]; rfl
theorem cnts_nil : cnts [] = 0 := by simp [cnts]
theorem cnts_cons (x : NT) (r : List NT) : cnts (x :: r) = cnt x + cnts r := by simp [cnts]
theorem nsts_nil : nsts [] = 0 := by simp [nsts]
theorem nsts_cons (x : NT) (r : List NT) : nsts (x :: r) = max (nst x) (nsts r) := by simp [nsts]
theorem cnts_le_len : ∀ l : List NT, l.length ≤ cnts l
  | [] => Nat.zero_le _
  | x :: l => by rw [cnts_cons, cnt_eq, List.length_cons]; have := cnts_le_len l; omega
/-! ### Offsets in preorder -/
mutual
def pre : NT → List Int | mk _ a _ _ _ _ _ _ b _ _ l => a :: (pres b ++ pres l)
def pres : List NT → List Int | [] => [] | x :: r => pre x ++ pres r
end
theorem pre_eq (t : NT) : t.pre = t.a :: (pres t.b ++ pres t.l) := by cases t; simp [pre, a, b, l]
theorem pres_nil : pres [] = [] := by simp [pres]
theorem pres_cons (x : NT) (r : List NT) : pres (x :: r) = pre x ++ pres r := by simp [pres]
theorem pres_er_of : ∀ l : List NT, (∀ x, x ∈ l → x.er.pre = x.pre) → pres (ers l) = pres l
  | [], _ => by simp [ers, pres_nil]
  | x :: l, h => by rw [ers, pres_cons, pres_cons, h x (by simp), pres_er_of l fun y hy => h y (by simp [hy])]
theorem pre_er (t : NT) : t.er.pre = t.pre := by
  refine ind (M := fun t => t.er.pre = t.pre) (fun t h1 h2 => ?_) t
  rw [pre_eq t.er, pre_eq t, er_a, er_b, er_l, pres_er_of _ h1, pres_er_of _ h2]
theorem pres_er (l : List NT) : pres (ers l) = pres l := pres_er_of l fun x _ => pre_er x
end NT
open NT
theorem nd_k (t : Tok) (e : Bool) (b l : List NT) : (nd t e b l).k = t.k := rfl
theorem blkI_nat (k : Nat) : blkI (k : Int) = blk k := by
  unfold blkI blk
  rw [Bool.eq_iff_iff]
  simp only [Bool.or_eq_true, beq_iff_eq]
  omega
theorem nd_cnt (t : Tok) (e : Bool) (b l : List NT) : (nd t e b l).cnt = 1 + (if blk t.k then cnts b else 0) + (if t.k = 2 then cnts l else 0) := by
  rw [cnt_eq, nd_k, blkI_nat]
  have : ((t.k : Int) = 2) ↔ (t.k = 2) := by omega
  simp only [this]
  rfl
theorem nd_nst (t : Tok) (e : Bool) (b l : List NT) : (nd t e b l).nst = if blk t.k then max (1 + nsts b) (if t.k = 2 then 1 + nsts l else 0) else 0 := by
  rw [nst_eq, nd_k, blkI_nat]
  have : ((t.k : Int) = 2) ↔ (t.k = 2) := by omega
  simp only [this]
  rfl
theorem nd_pre (t : Tok) (e : Bool) (b l : List NT) : (nd t e b l).pre = (t.a : Int) :: (pres b ++ pres l) := pre_eq _
/-- The number, the depth and the offsets of what was read. -/
theorem pl_good : ∀ (f : Nat) (ts : List Tok) (op : Nat) (ie : Bool) (d c : Nat) (l : List NT) (r : List Tok) (c' : Nat), pl f ts op ie d c = .ok (l, r, c') → c ≤ 4096 → d ≤ 32 →
    c' = c + cnts l ∧ c' ≤ 4096 ∧ d + nsts l ≤ 32 ∧ ∃ u, ts = u ++ r ∧ (pres l).Sublist (u.map fun t => (t.a : Int))
  | 0, _, _, _, _, _, _, _, _, h, _, _ => by cases h
  | f + 1, [], op, ie, d, c, l, r, c', h, hc, hd => by
    simp [pl] at h; obtain ⟨rfl, rfl, rfl⟩ := h
    exact ⟨by simp [cnts_nil], hc, by simp [nsts_nil]; exact hd, [], rfl, by simp [pres_nil]⟩
  | f + 1, t :: ts, op, ie, d, c, l, r, c', h, hc, hd => by
    have hz : ∀ (r' : List Tok), t :: ts = r' → c = c + cnts [] ∧ c ≤ 4096 ∧ d + nsts [] ≤ 32 ∧ ∃ u, t :: ts = u ++ r' ∧ (pres []).Sublist (u.map fun t : Tok => (t.a : Int)) := by
      rintro r' rfl
      exact ⟨by simp [cnts_nil], hc, by simp [nsts_nil]; exact hd, [], rfl, by simp [pres_nil]⟩
    unfold pl at h
    split at h
    · split at h
      · simp at h; obtain ⟨rfl, h2, rfl⟩ := h; exact hz _ h2
      · cases h
    split at h
    · split at h
      · cases h
      · simp at h; obtain ⟨rfl, h2, rfl⟩ := h; exact hz _ h2
    split at h
    · cases h
    rename_i hnest
    split at h
    · cases h
    rename_i hlim
    split at h
    · rename_i hb
      obtain ⟨l', rfl, h2⟩ := cons_ok h
      obtain ⟨g1, g2, g3, u, g4, g5⟩ := pl_good f ts _ _ _ _ _ _ _ h2 (by omega) hd
      refine ⟨?_, g2, ?_, t :: u, by rw [g4]; rfl, ?_⟩
      · rw [cnts_cons, nd_cnt, hb, g1]; simp [cnts_nil]; omega
      · rw [nsts_cons, nd_nst, hb]; simp; exact g3
      · rw [pres_cons, nd_pre, pres_nil]; simpa using g5
    rename_i hb
    have hb : blk t.k = true := by simpa using hb
    have hd32 : d + 1 ≤ 32 := by
      rcases Nat.lt_or_ge d 32 with h1 | h1
      · omega
      · exact absurd (.inr ⟨hb, h1⟩) hnest
    split at h
    · cases h
    rename_i b r1 c1 hp1
    obtain ⟨a1, a2, a3, u1, a4, a5⟩ := pl_good f ts _ _ _ _ _ _ _ hp1 (by omega) hd32
    split at h
    · cases h
    rename_i v r2
    split at h
    · rename_i hv
      split at h
      · cases h
      rename_i b2 r3 c2 hp2
      have hk2 : t.k = 2 := by
        rcases pl_stop _ _ _ _ _ _ _ _ _ _ hp1 with ⟨_, h1, _⟩ | ⟨h1, _⟩
        · exact h1
        · omega
      obtain ⟨b1', b2', b3', u2, b4', b5'⟩ := pl_good f r2 _ _ _ _ _ _ _ hp2 a2 hd32
      split at h
      · cases h
      rename_i x r4
      obtain ⟨l', rfl, h3⟩ := cons_ok h
      obtain ⟨g1, g2, g3, u, g4, g5⟩ := pl_good f r4 _ _ _ _ _ _ _ h3 b2' hd
      refine ⟨?_, g2, ?_, t :: (u1 ++ v :: (u2 ++ x :: u)), by rw [a4, b4', g4]; simp, ?_⟩
      · rw [cnts_cons, nd_cnt, hb, hk2, g1, b1', a1]; simp; omega
      · rw [nsts_cons, nd_nst, hb, hk2]; simp; omega
      · rw [pres_cons, nd_pre, List.cons_append, List.map_cons, List.append_assoc]
        refine List.Sublist.cons_cons _ ?_
        rw [List.map_append]
        refine List.Sublist.append a5 ?_
        rw [List.map_cons]
        refine List.Sublist.cons _ ?_
        rw [List.map_append]
        refine List.Sublist.append b5' ?_
        rw [List.map_cons]
        exact List.Sublist.cons _ g5
    · rename_i hv
      obtain ⟨l', rfl, h3⟩ := cons_ok h
      obtain ⟨g1, g2, g3, u, g4, g5⟩ := pl_good f r2 _ _ _ _ _ _ _ h3 a2 hd
      refine ⟨?_, g2, ?_, t :: (u1 ++ v :: u), by rw [a4, g4]; simp, ?_⟩
      · rw [cnts_cons, nd_cnt, hb, g1, a1, cnts_nil]; simp; omega
      · rw [nsts_cons, nd_nst, hb, nsts_nil]; simp; split <;> omega
      · rw [pres_cons, nd_pre, pres_nil, List.append_nil, List.cons_append, List.map_cons]
        refine List.Sublist.cons_cons _ ?_
        rw [List.map_append]
        refine List.Sublist.append a5 ?_
        rw [List.map_cons]
        exact List.Sublist.cons _ g5
theorem P_good {ts : List Tok} {op : Nat} {ie : Bool} {d c : Nat} {l : List NT} {r : List Tok} {c' : Nat} (h : P ts op ie d c = .ok (l, r, c')) (hc : c ≤ 4096) (hd : d ≤ 32) :
    c' = c + cnts l ∧ c' ≤ 4096 ∧ d + nsts l ≤ 32 ∧ ∃ u, ts = u ++ r ∧ (pres l).Sublist (u.map fun t => (t.a : Int)) := pl_good _ _ _ _ _ _ _ _ _ h hc hd
/-! ### Tokens in sequence -/
def PR.pre (l : List NT) (r : PR) : PR := match r with | .error e => .error e | .ok (m, y) => .ok (l ++ m, y)
theorem pre_nil (r : PR) : PR.pre [] r = r := by cases r <;> rfl
theorem P_step_block {t : Tok} {r : List Tok} {op : Nat} {ie : Bool} {d c : Nat} (h : ¬ (t.k = 6 ∧ 0 < d ∨ blk t.k = true ∧ 32 ≤ d)) (hc : c < 4096) (hb : blk t.k = true) :
    P (t :: r) op ie d c = match P r t.k false (d + 1) (c + 1) with
      | .error e => .error e
      | .ok (b, [], _) => .error (t.a, 7)
      | .ok (b, u :: r2, c1) => if u.k = 7 then (match P r2 t.k true (d + 1) c1 with
          | .error e => .error e
          | .ok (b2, [], _) => .error (t.a, 7)
          | .ok (b2, _ :: r4, c2) => (P r4 op ie d c2).cons (nd t true b b2)) else (P r2 op ie d c1).cons (nd t false b []) := by
  cases hp : P r t.k false (d + 1) (c + 1) with
  | error e => exact P_body_err h hc hb hp
  | ok x =>
    obtain ⟨b, r1, c1⟩ := x
    cases r1 with
    | nil => exact P_body_open h hc hb hp
    | cons u r2 =>
      dsimp only
      by_cases hu : u.k = 7
      · rw [if_pos hu]
        cases hp2 : P r2 t.k true (d + 1) c1 with
        | error e => exact P_else_err h hc hb hp hu hp2
        | ok x =>
          obtain ⟨b2, r3, c2⟩ := x
          cases r3 with
          | nil => exact P_else_open h hc hb hp hu hp2
          | cons v r4 => exact P_else_end h hc hb hp hu hp2
      · rw [if_neg hu]; exact P_body_end h hc hb hp hu
theorem P_top_rest {ts : List Tok} {d c : Nat} {l : List NT} {r : List Tok} {c' : Nat} (h : P ts 0 false d c = .ok (l, r, c')) : r = [] := by
  cases r with
  | nil => rfl
  | cons u r => rcases P_stop h with ⟨_, h1, _⟩ | ⟨_, h1⟩; cases h1; exact absurd rfl h1
end Go.Proofs.YtpcapmdfjmpdiaaGreatDoor

namespace Go.Proofs.YtpcapmdfjmpdiaaGreatDoor
set_option linter.unusedVariables false
set_option linter.unusedSimpArgs false
open NT

/-! ### Two templates in sequence -/
theorem strips_nil : strips [] = [] := by simp [strips]
theorem strips_cons (x : NT) (r : List NT) : strips (x :: r) = strip x :: strips r := by simp [strips]
/-! ### Nested blocks -/
theorem ne_ {a b : Nat} (h : Nat.beq a b = false) : a ≠ b := Nat.ne_of_beq_eq_false h
def enL : List UInt8 := [123, 123, 101, 110, 100, 125, 125]
/-! ### Many nodes -/
end Go.Proofs.YtpcapmdfjmpdiaaGreatDoor

namespace Go.Proofs.YtpcapmdfjmpdiaaGreatDoor
set_option linter.unusedVariables false
set_option linter.unusedSimpArgs false
namespace NT
mutual
def tot : NT → Nat | mk _ _ _ _ _ _ _ _ b _ _ l => 1 + tots b + tots l
def tots : List NT → Nat | [] => 0 | x :: r => tot x + tots r
end
theorem tot_eq (t : NT) : t.tot = 1 + tots t.b + tots t.l := by cases t; rw [tot]; rfl
theorem tots_nil : tots [] = 0 := by simp [tots]
theorem tots_cons (x : NT) (r : List NT) : tots (x :: r) = tot x + tots r := by simp [tots]
theorem tots_append : ∀ l m : List NT, tots (l ++ m) = tots l + tots m
  | [], m => by simp [tots_nil]
  | x :: l, m => by rw [List.cons_append, tots_cons, tots_cons, tots_append l m]; omega
theorem cnts_le_of : ∀ l : List NT, (∀ x, x ∈ l → x.cnt ≤ x.tot) → cnts l ≤ tots l
  | [], _ => by simp [cnts_nil]
  | x :: l, h => by rw [cnts_cons, tots_cons]; have := h x (by simp); have := cnts_le_of l fun y hy => h y (by simp [hy]); omega
theorem cnt_le (t : NT) : t.cnt ≤ t.tot := by
  refine ind (M := fun t => t.cnt ≤ t.tot) (fun t h1 h2 => ?_) t
  have := cnts_le_of _ h1
  have := cnts_le_of _ h2
  rw [cnt_eq, tot_eq]
  split <;> split <;> omega
theorem cnts_le (l : List NT) : cnts l ≤ tots l := cnts_le_of l fun x _ => cnt_le x
theorem take_step {l : List NT} {i : Nat} {x : NT} (h : l[i]? = some x) : l.take (i + 1) = l.take i ++ [x] := by
  obtain ⟨hi, e⟩ := List.getElem?_eq_some_iff.1 h
  rw [List.take_succ_eq_append_getElem hi, e]
theorem tots_step {l : List NT} {i : Nat} {x : NT} (h : l[i]? = some x) : tots (l.take (i + 1)) = tots (l.take i) + x.tot := by rw [take_step h, tots_append, tots_cons, tots_nil]; omega
/-! ### Offsets one behind the other -/
/-! ### Equal up to addresses, or up to addresses and offsets -/
def key (at_ : Bool) (t : NT) : NT := if at_ then t.er else t.strip
def keys (at_ : Bool) (l : List NT) : List NT := l.map (key at_)
end NT
open NT
end Go.Proofs.YtpcapmdfjmpdiaaGreatDoor

namespace Go.Proofs.YtpcapmdfjmpdiaaGreatDoor
set_option linter.unusedVariables false
theorem cons_err {x : NT} {r : PR} {e : Nat × Nat} (h : r.cons x = .error e) : r = .error e := by
  unfold PR.cons at h
  split at h
  · exact h
  · cases h
theorem pl_code : ∀ (f : Nat) (ts : List Tok) (op : Nat) (ie : Bool) (d c a k : Nat), ts.length < f → pl f ts op ie d c = .error (a, k) → k = 7 ∨ k = 13 ∨ k = 14
  | 0, _, _, _, _, _, _, _, hf, _ => absurd hf (Nat.not_lt_zero _)
  | f + 1, [], op, ie, d, c, a, k, hf, h => by simp [pl] at h
  | f + 1, t :: ts, op, ie, d, c, a, k, hf, h => by
    have hf' : ts.length < f := by simpa using hf
    unfold pl at h
    split at h
    · split at h
      · cases h
      · injection h with h; injection h with _ h; exact .inr (.inl h.symm)
    split at h
    · split at h
      · injection h with h; injection h with _ h; exact .inr (.inl h.symm)
      · cases h
    split at h
    · injection h with h; injection h with _ h; exact .inr (.inl h.symm)
    split at h
    · injection h with h; injection h with _ h; exact .inr (.inr h.symm)
    split at h
    · exact pl_code f ts _ _ _ _ _ _ hf' (cons_err h)
    split at h
    · rename_i e he
      injection h with h; subst h
      exact pl_code f ts _ _ _ _ _ _ hf' he
    rename_i b r1 c1 hb
    have h1 := pl_rest f _ _ _ _ _ _ _ _ hb
    split at h
    · injection h with h; injection h with _ h; exact .inl h.symm
    rename_i u r2
    simp only [List.length_cons] at h1
    split at h
    · split at h
      · rename_i e he
        injection h with h; subst h
        exact pl_code f r2 _ _ _ _ _ _ (by omega) he
      rename_i b2 r3 c2 hb2
      have h2 := pl_rest f _ _ _ _ _ _ _ _ hb2
      split at h
      · injection h with h; injection h with _ h; exact .inl h.symm
      rename_i v r4
      simp only [List.length_cons] at h2
      exact pl_code f r4 _ _ _ _ _ _ (by omega) (cons_err h)
    · exact pl_code f r2 _ _ _ _ _ _ (by omega) (cons_err h)
theorem P_code {ts : List Tok} {op : Nat} {ie : Bool} {d c a k : Nat} (h : P ts op ie d c = .error (a, k)) : k ≠ 0 := by
  rcases pl_code _ _ _ _ _ _ _ _ (Nat.lt_succ_self _) h with h | h | h <;> omega
end Go.Proofs.YtpcapmdfjmpdiaaGreatDoor
