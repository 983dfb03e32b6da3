/-
  Contracts: value.Split.
  Contracts: the reference's Split.
  Contract: the reference's Split.
-/
import Derived.Test.YteclclidibmajaaSplit11
import Derived.Test.YteclclidibmajaaCuts
namespace Go.Proofs.Yteclclidibmajaa
open Go.RowKit Go.BigFrame
set_option linter.unusedVariables false
set_option linter.unusedSimpArgs false

/-- What splitting a path gives. -/
def SplitPost (s : ByteArray) (w : World) (e : Ending) (w' : World) : Prop :=
  Bel w w' ∧ match pathOf s with
    | some l => ∃ A c, e = .returned (.tuple #[.slice A l.length c, .int .i64 0]) ∧ Strs w' A l ∧ (∀ a, A = some a → w.heap.size ≤ a.block) ∧ l.length ≤ 8 ∧ ∀ k, k ∈ l → nameB k = true
    | none => e = .returned (.tuple #[.slice none 0 0, .int .i64 11])
theorem pathOf_empty {s : ByteArray} (h : s.size = 0) : pathOf s = some [] := by unfold pathOf; rw [if_pos h]
theorem pathOf_long {s : ByteArray} (h : s.size ≠ 0) (hl : 8 < (parts (toL s)).length) : pathOf s = none := by
  unfold pathOf; rw [if_neg h, if_neg]; rintro ⟨h1, _⟩; omega
theorem pathOf_bad {s : ByteArray} (h : s.size ≠ 0) {p : List UInt8} (hp : p ∈ parts (toL s)) (hn : nameL p = false) : pathOf s = none := by
  unfold pathOf; rw [if_neg h, if_neg]; rintro ⟨_, h1⟩
  have := List.all_eq_true.1 h1 p hp
  rw [hn] at this; cases this
theorem pathOf_good {s : ByteArray} (h : s.size ≠ 0) (hl : (parts (toL s)).length ≤ 8) (ha : (parts (toL s)).all nameL = true) : pathOf s = some ((parts (toL s)).map ofL) := by
  unfold pathOf; rw [if_neg h, if_pos ⟨hl, ha⟩]
theorem cells_row (w : World) (T : TypeId) (L : List ByteArray) (n : Nat) (hL : L.length ≤ n) : ∀ i, i < L.length → (w.alloc (.cells (Lib.cellsOf L n) T)).cell? ⟨w.heap.size, i, none⟩ = some (.string (L.getD i ByteArray.empty)) := by
  intro i hi
  have hc : (Lib.cellsOf L n)[i]? = some (Value.string (L.getD i ByteArray.empty)) := by
    unfold Lib.cellsOf
    rw [List.getElem?_toArray, List.getElem?_append_left (by simpa using hi), List.getElem?_map, List.getElem?_eq_getElem hi, List.getD_eq_getElem?_getD, List.getElem?_eq_getElem hi]
    rfl
  rw [World.cell?_alloc_new]
  exact hc
theorem L_parts {L : List ByteArray} {p : List (List UInt8)} (h : L.map toL = p) : L = p.map ofL := by
  rw [← h, List.map_map]
  conv => lhs; rw [← List.map_id L]
  exact List.map_congr_left fun x _ => (ofL_toL x).symm
theorem all_names {L : List ByteArray} (h : ∀ j, j < L.length → nameB (L.getD j ByteArray.empty) = true) : ∀ k, k ∈ L → nameB k = true := by
  intro k hk
  obtain ⟨j, hj, rfl⟩ := List.getElem_of_mem hk
  have := h j hj
  rwa [List.getD_eq_getElem?_getD, List.getElem?_eq_getElem hj] at this
theorem part_le : ∀ (l : List UInt8) (p : List UInt8), p ∈ parts l → p.length ≤ l.length := by
  intro l
  induction l with
  | nil => intro p hp; simp [parts] at hp; subst hp; exact Nat.le_refl _
  | cons c l ih =>
    intro p hp
    by_cases h : c = 46
    · subst h
      simp [parts] at hp
      rcases hp with rfl | hp
      · exact Nat.zero_le _
      · have := ih p hp; simp; omega
    · obtain ⟨q, qs, h1, h2⟩ := parts_cons (l := l) h
      rw [h2] at hp
      rcases List.mem_cons.1 hp with rfl | hp
      · have := ih q (by rw [h1]; simp); simp; omega
      · have := ih p (by rw [h1]; simp [hp]); simp; omega

end Go.Proofs.Yteclclidibmajaa

namespace Go.Proofs.Yteclclidibmajaa
open Go.RowKit Go.BigFrame
set_option linter.unusedVariables false
set_option linter.unusedSimpArgs false
attribute [local go_sem ↓] sliced_cut run_min2 run_max2
attribute [local go_sem] cutA_zero

theorem bel_of_only {w w' : World} (h : Only [] w w') : Bel w w' := h.to_below (Nat.le_refl _) (by simp)
/-- Strings as cells. -/
def vss (l : List ByteArray) : List Value := l.map Value.string
theorem vss_append (a b : List ByteArray) : vss (a ++ b) = vss a ++ vss b := List.map_append
theorem vss_length (a : List ByteArray) : (vss a).length = a.length := List.length_map _
theorem strs_of_row {w : World} {A : Option Addr} {n c : Nat} {l : List ByteArray} (h : RowAt w 9 A n c (vss l)) : Strs w A l := by
  by_cases h0 : l = []
  · exact .inl h0
  · have hl : 0 < l.length := List.length_pos_iff.2 h0
    obtain ⟨g, o, rfl, _⟩ := h.cell (j := 0) (u := .string l[0]) (by simp [vss, List.getElem?_eq_getElem hl])
    have hg := h.lt g (by simp [rowT])
    refine .inr ⟨g, o, rfl, hg, fun i hi => ?_⟩
    obtain ⟨g', o', e, hc⟩ := h.cell (j := i) (u := .string (l.getD i ByteArray.empty)) (by simp [vss, List.getElem?_eq_getElem hi])
    simp only [Option.some.injEq, Addr.mk.injEq, and_true] at e
    obtain ⟨rfl, rfl⟩ := e
    exact hc
theorem info_str : (Try.prog.info? 9).map (fun i => (i.zero, i.size, i.bytes)) = some (some (.string ByteArray.empty), 1, 16) := by kernel_rfl
/-- append(l, s) at the operation. -/
theorem wp_appendS {w : World} {ops : Array Oper} {rest : List Oper} {o : Oper} {a : Act} {Q : Exit → Act → World → Prop} (hgd : o.guard = none) (s x : Operand)
    (ho : o.op = .call { callee := .builtin .append, args := #[s, x], argTypes := #[74, 74] })
    (A : Option Addr) (n c : Nat) (zs : List ByteArray) (hs : a.eval s = .slice A n c) (hA : RowAt w 9 A n c (vss zs)) (g : Nat) (r : ByteArray) (hx : a.eval x = .slice (some ⟨g, 0, none⟩) 1 1)
    (hb : Blk w g 9 [.string r]) (hn : n ≤ 4000000)
    (h : ∀ A' c' w', Hid (RowAt w' 9 A' (n + 1) c' (vss (zs ++ [r]))) → Hid (Only (rowT A) w w') → Hid (∀ k, k ∈ rowT A' → k ∈ rowT A ∨ w.heap.size ≤ k) → wpList Try.prog ops Q rest (a.put o.dst (.slice A' (n + 1) c')) w') :
    wpList Try.prog ops Q (o :: rest) a w := by
  obtain ⟨i0, hi, hz0, hz1, hz2⟩ := info_parts info_str
  have hr := Reads.of_blk hb 0 1 (by simp) hb.lt
  refine wp_rowAppend hgd s x 74 ho 9 i0 _ 16 Try.underlying74 hi hz0 hz1 hz2 rfl A n c (vss zs) hs hA w.heap.size (some ⟨g, 0, none⟩) 1 1 [.string r] hx hr (by simp [Value.oneCell']) (by unfold maxLen; omega) (by omega) (n + 1) rfl ?_
  intro A' c' w' h1 h2 h3
  refine h A' c' w' (Lib.hid ?_) (Lib.hid h2) h3
  have := h1.out
  rw [vss_append]
  exact this

/-- Where the loop over the path stands. -/
structure SpAt (s : ByteArray) (L : List ByteArray) (a i : Nat) : Prop where
  le : a ≤ i
  top : i ≤ s.size
  eq : parts (toL s) = L.map toL ++ parts ((toL s).drop a)
  plain : ∀ c ∈ ((toL s).drop a).take (i - a), c ≠ 46
theorem SpAt.start (s : ByteArray) : SpAt s [] 0 0 := ⟨Nat.le_refl _, Nat.zero_le _, by simp, by simp⟩
theorem SpAt.next {s : ByteArray} {L : List ByteArray} {a i : Nat} (h : SpAt s L a i) (hi : i < s.size) (hc : s[i] ≠ 46) : SpAt s L a (i + 1) := by
  refine ⟨by have := h.le; omega, hi, h.eq, fun c hcm => ?_⟩
  have e : i + 1 - a = (i - a) + 1 := by have := h.le; omega
  rw [e, List.take_add_one, List.mem_append] at hcm
  rcases hcm with hcm | hcm
  · exact h.plain c hcm
  · rw [List.getElem?_drop, show a + (i - a) = i by have := h.le; omega] at hcm
    have hg := getElem_toList hi
    unfold toL at hcm
    rw [hg] at hcm
    simp at hcm
    subst hcm
    exact hc
theorem SpAt.piece {s : ByteArray} {L : List ByteArray} {a i : Nat} (h : SpAt s L a i) : toL (s.extract a i) = ((toL s).drop a).take (i - a) := by
  rw [toL_extract, List.take_drop, show a + (i - a) = i by have := h.le; omega]
theorem SpAt.dot {s : ByteArray} {L : List ByteArray} {a i : Nat} (h : SpAt s L a i) (hi : i < s.size) (hc : s[i] = 46) :
    parts (toL s) = (L ++ [s.extract a i]).map toL ++ parts ((toL s).drop (i + 1)) := by
  rw [List.map_append, List.map_singleton, h.piece, h.eq, List.append_assoc]
  congr 1
  have e : (toL s).drop a = ((toL s).drop a).take (i - a) ++ 46 :: (toL s).drop (i + 1) := by
    conv => lhs; rw [← List.take_append_drop (i - a) ((toL s).drop a)]
    rw [List.drop_drop, show a + (i - a) = i by have := h.le; omega]
    congr 1
    have hl : i < (toL s).length := hi
    rw [List.drop_eq_getElem_cons hl]
    congr 1
  conv => lhs; rw [e]
  exact parts_dot h.plain
theorem SpAt.stop {s : ByteArray} {L : List ByteArray} {a : Nat} (h : SpAt s L a s.size) : parts (toL s) = (L ++ [s.extract a s.size]).map toL := by
  rw [List.map_append, List.map_singleton, h.piece, h.eq]
  congr 1
  have e : ((toL s).drop a).take (s.size - a) = (toL s).drop a := List.take_of_length_le (by rw [List.length_drop, toL_len]; exact Nat.le_refl _)
  have h1 := h.plain
  rw [e] at h1 ⊢
  exact parts_plain h1
theorem SpAt.dotted {s : ByteArray} {L : List ByteArray} {a i : Nat} (h : SpAt s L a i) (hi : i < s.size) (hc : s[i] = 46) : SpAt s (L ++ [s.extract a i]) (i + 1) (i + 1) :=
  ⟨Nat.le_refl _, hi, h.dot hi hc, by simp⟩
/-- No path: a part that is no name. -/
theorem no_path_name {s nm : ByteArray} {L : List ByteArray} {r : List (List UInt8)} (hs : s.size ≠ 0) (h : parts (toL s) = (L ++ [nm]).map toL ++ r) (hn : nameB nm = false) : pathOf s = none :=
  pathOf_bad hs (p := toL nm) (by rw [h]; simp) hn
/-- No path: too many parts. -/
theorem no_path_many {s nm : ByteArray} {L : List ByteArray} {r : List (List UInt8)} (hs : s.size ≠ 0) (h : parts (toL s) = (L ++ [nm]).map toL ++ r) (hn : L.length = 8) : pathOf s = none :=
  pathOf_long hs (by rw [h]; simp; omega)
end Go.Proofs.Yteclclidibmajaa

namespace Go.Proofs.Yteclclidibmajaa
open Go.RowKit Go.BigFrame
set_option linter.unusedVariables false
set_option linter.unusedSimpArgs false
attribute [local go_sem ↓] sliced_cut run_min2 run_max2
attribute [local go_sem] cutA_zero

/-- The loop's state. -/
def SpRel (s : ByteArray) (w : World) (v4 v5 v6 : Value) (wr : World) : Prop :=
  ∃ (A : Option Addr) (c : Nat) (L : List ByteArray) (a i : Nat), v4 = .slice A L.length c ∧ v5 = .int .i64 a ∧ v6 = .int .i64 i ∧ RowAt wr 9 A L.length c (vss L) ∧ (∀ k, k ∈ rowT A → w.heap.size ≤ k) ∧ Only [] w wr ∧
    L.length ≤ 8 ∧ (∀ k, k ∈ L → nameB k = true) ∧ a ≤ s.size + 1 ∧ i ≤ s.size + 1 ∧ (SpAt s L a i ∨ (i = s.size + 1 ∧ parts (toL s) = L.map toL))
theorem SpRel.start (s : ByteArray) (w : World) : SpRel s w (.slice none 0 0) (.int .i64 0) (.int .i64 0) w :=
  ⟨none, 0, [], 0, 0, rfl, rfl, rfl, RowAt.nil _ _, by simp [rowT], Only.refl _ _, Nat.zero_le _, by simp, Nat.zero_le _, Nat.zero_le _, .inl (SpAt.start s)⟩
theorem names_snoc {L : List ByteArray} {nm : ByteArray} (h : ∀ k, k ∈ L → nameB k = true) (hn : nameB nm = true) : ∀ k, k ∈ L ++ [nm] → nameB k = true := by
  intro k hk
  rcases List.mem_append.1 hk with hk | hk
  · exact h k hk
  · simp at hk; subst hk; exact hn
theorem SpRel.append {s : ByteArray} {w wr w1 : World} {A A' : Option Addr} {c' : Nat} {L : List ByteArray} {i : Nat} {nm : ByteArray} (hk : ∀ k, k ∈ rowT A → w.heap.size ≤ k) (hO : Only [] w wr)
    (hl : L.length ≤ 7) (hN : ∀ k, k ∈ L ++ [nm] → nameB k = true) (hi : i ≤ s.size) (hR : RowAt w1 9 A' (L.length + 1) c' (vss (L ++ [nm]))) (hO1 : Only (rowT A) (wr.alloc (.cells #[.string nm] 9)) w1)
    (hk1 : ∀ k, k ∈ rowT A' → k ∈ rowT A ∨ (wr.alloc (.cells #[.string nm] 9)).heap.size ≤ k) (hs : SpAt s (L ++ [nm]) (i + 1) (i + 1) ∨ (i + 1 = s.size + 1 ∧ parts (toL s) = (L ++ [nm]).map toL)) :
    SpRel s w (.slice A' (L.length + 1) c') (.int .i64 ((i : Int) + 1)) (.int .i64 ((i : Int) + 1)) w1 := by
  refine ⟨A', c', L ++ [nm], i + 1, i + 1, by simp, rfl, rfl, by simpa using hR, fun k hkk => ?_, ?_, by simp; omega, hN, by omega, by omega, hs⟩
  · rcases hk1 k hkk with h | h
    · exact hk k h
    · have := hO.size; simp at h; omega
  · exact (hO.alloc _).join hO1 fun k hkk => .inr (hk k hkk)

set_option maxRecDepth 100000 in
set_option maxHeartbeats 1600000 in
theorem refSplit_c (s : ByteArray) (w : World) (hs : s.size ≤ 2000000) :
    Calls Try.prog 69 #[.string s] w (SplitPost s w) := by
  by_cases h0 : s.size = 0
  · have HP := Lib.hid (pathOf_empty h0)
    have hz := empty_of h0
    clear h0
    go_enter Try.func69, Try.ntmps69
    go_wp2_with fail
    go_ret2
    unfold SplitPost
    rw [HP.out]
    exact ⟨Bel.refl _, none, 0, rfl, .inl rfl, by simp, by simp, by simp⟩
  have hz := empty_not h0
  have hH0 := Lib.hid h0
  clear h0
  have HSTART := SpRel.start s w
  go_enter Try.func69, Try.ntmps69
  go_wp2_with fail
  go_loopw [4, 5, 6] (fun v4 v5 v6 wr => SpRel s w v4 v5 v6 wr) (fun _ _ v6 _ => s.size + 2 - (intOf v6).toNat)
  case atStart => exact HSTART
  case round =>
    clear HSTART
    obtain ⟨A, c, L, a, i, rfl, rfl, rfl, hR, hk, hO, hl, hN, ha, hi, hst⟩ := hrel
    have HR := Lib.hid hR
    have HO := Lib.hid hO
    have HN := Lib.hid hN
    have HK := Lib.hid hk
    clear hR hO hN hk
    rcases hst with hst | ⟨hie, hp⟩
    · have ha2 : a ≤ i := hst.le
      have hi2 : i ≤ s.size := hst.top
      have HS := Lib.hid hst
      clear hst
      by_cases hlt : i < s.size
      · by_cases hc : s[i] = 46
        · have hne : ¬ i = s.size := by omega
          have hc1 : ((s[i].toNat : Int) == 46) = true := by rw [hc]; rfl
          have hEQ := HS.out.dot hlt hc
          have HD := Lib.hid (HS.out.dotted hlt hc)
          have hsz : (s.extract a i).size ≤ maxLen := by unfold maxLen; simp; omega
          have HC := Lib.hid (refName_c (s.extract a i) hsz)
          cases hn : nameB (s.extract a i) with
          | false =>
            have HP := Lib.hid (no_path_name hH0.out hEQ hn)
            rw [hn] at HC
            clear hEQ hn hsz hc
            go_wp2_with (go_at_call 68; refine (HC.out _).mono ?_; rintro e w' ⟨rfl, rfl⟩)
            go_ret2
            unfold SplitPost
            rw [HP.out]
            exact ⟨bel_of_only HO.out, rfl⟩
          | true =>
            by_cases h8 : L.length = 8
            · have HP := Lib.hid (no_path_many hH0.out hEQ h8)
              rw [hn] at HC
              have h8' : decide (L.length = 8) = true := by simpa using h8
              clear hEQ hn hsz hc
              go_wp2_with (go_at_call 68; refine (HC.out _).mono ?_; rintro e w' ⟨rfl, rfl⟩)
              go_ret2
              unfold SplitPost
              rw [HP.out]
              exact ⟨bel_of_only HO.out, rfl⟩
            · have HNN := Lib.hid (names_snoc HN.out hn)
              rw [hn] at HC
              clear hEQ hn hsz hc
              have h8' : ¬ L.length = 8 := h8
              have HAL := Lib.hid (HR.out.alloc (.cells #[.string (s.extract a i)] 9))
              have HBK := Lib.hid (Blk.new wr 9 [.string (s.extract a i)])
              go_wp2_with (first | (go_at_call 68; refine (HC.out _).mono ?_; rintro e w' ⟨rfl, rfl⟩) | (at_builtin; refine wp_appendS rfl _ _ rfl A L.length c L rfl HAL.out wr.heap.size (s.extract a i) rfl HBK.out (by omega) ?_; intro A' c' w1 hR1 hO1 hK1))
              go_roundw
              case rel => exact SpRel.append HK.out HO.out (by omega) HNN.out hi2 hR1.out hO1.out hK1.out (.inl HD.out)
              case measure => simp [intOf]; omega
        · have hne : ¬ i = s.size := by omega
          have hc1 : ((s[i].toNat : Int) == 46) = false := by
            simp only [beq_eq_false_iff_ne]
            intro e
            exact hc (UInt8.toNat_inj.1 (by rw [show (46 : UInt8).toNat = 46 from rfl]; omega))
          have HD := Lib.hid (HS.out.next hlt hc)
          clear hc
          go_wp2_with fail
          go_roundw
          case rel => exact ⟨A, c, L, a, i + 1, rfl, rfl, rfl, HR.out, HK.out, HO.out, hl, HN.out, ha, by omega, .inl HD.out⟩
          case measure => simp [intOf]; omega
      · obtain rfl : i = s.size := by omega
        clear hlt hi2 hi
        have hi2 : s.size ≤ s.size := Nat.le_refl _
        have hEQ : parts (toL s) = (L ++ [s.extract a s.size]).map toL ++ [] := by rw [List.append_nil]; exact HS.out.stop
        have HD : Hid (s.size + 1 = s.size + 1 ∧ parts (toL s) = (L ++ [s.extract a s.size]).map toL) := Lib.hid ⟨by omega, by rw [hEQ, List.append_nil]⟩
        have hsz : (s.extract a s.size).size ≤ maxLen := by unfold maxLen; simp; omega
        have HC := Lib.hid (refName_c (s.extract a s.size) hsz)
        cases hn : nameB (s.extract a s.size) with
        | false =>
          have HP := Lib.hid (no_path_name hH0.out hEQ hn)
          rw [hn] at HC
          clear hEQ hn hsz
          go_wp2_with (go_at_call 68; refine (HC.out _).mono ?_; rintro e w' ⟨rfl, rfl⟩)
          go_ret2
          unfold SplitPost
          rw [HP.out]
          exact ⟨bel_of_only HO.out, rfl⟩
        | true =>
          by_cases h8 : L.length = 8
          · have HP := Lib.hid (no_path_many hH0.out hEQ h8)
            rw [hn] at HC
            have h8' : decide (L.length = 8) = true := by simpa using h8
            clear hEQ hn hsz
            go_wp2_with (go_at_call 68; refine (HC.out _).mono ?_; rintro e w' ⟨rfl, rfl⟩)
            go_ret2
            unfold SplitPost
            rw [HP.out]
            exact ⟨bel_of_only HO.out, rfl⟩
          · have HNN := Lib.hid (names_snoc HN.out hn)
            rw [hn] at HC
            clear hEQ hn hsz
            have h8' : ¬ L.length = 8 := h8
            have HAL := Lib.hid (HR.out.alloc (.cells #[.string (s.extract a s.size)] 9))
            have HBK := Lib.hid (Blk.new wr 9 [.string (s.extract a s.size)])
            go_wp2_with (first | (go_at_call 68; refine (HC.out _).mono ?_; rintro e w' ⟨rfl, rfl⟩) | (at_builtin; refine wp_appendS rfl _ _ rfl A L.length c L rfl HAL.out wr.heap.size (s.extract a s.size) rfl HBK.out (by omega) ?_; intro A' c' w1 hR1 hO1 hK1))
            go_roundw
            case rel => exact SpRel.append HK.out HO.out (by omega) HNN.out hi2 hR1.out hO1.out hK1.out (.inr ⟨rfl, HD.out.2⟩)
            case measure => simp [intOf]
    · have HP : Hid (pathOf s = some L) := Lib.hid (by
        rw [pathOf_good hH0.out (by rw [hp, List.length_map]; exact hl) (by rw [hp, List.all_map, List.all_eq_true]; exact HN.out), ← L_parts hp.symm])
      have hgt : (s.size : Int) < (i : Int) := by omega
      clear hp
      go_wp2_with fail
      go_ret2
      unfold SplitPost
      rw [HP.out]
      exact ⟨bel_of_only HO.out, _, _, rfl, strs_of_row HR.out, fun a ha => HK.out _ (by rw [ha]; simp [rowT]), hl, HN.out⟩
end Go.Proofs.Yteclclidibmajaa
