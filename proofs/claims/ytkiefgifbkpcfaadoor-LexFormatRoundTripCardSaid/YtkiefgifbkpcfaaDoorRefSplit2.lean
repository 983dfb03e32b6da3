/-
  Contract: the reference's Split.
-/
import Derived.Test.YtkiefgifbkpcfaaDoorRefSplit
namespace Go.Proofs.YtkiefgifbkpcfaaDoor
open Go.RowKit Go.BigFrame
set_option linter.unusedVariables false
set_option linter.unusedSimpArgs false
attribute [local go_sem ↓] sliced_cut run_min2 run_max2
attribute [local go_sem] cutA_zero

/-- The loop's state. -/
def SpRel (s : ByteArray) (w : World) (v4 v5 v6 : Value) (wr : World) : Prop :=
  ∃ (A : Option Addr) (c : Nat) (L : List ByteArray) (a i : Nat), v4 = .slice A L.length c ∧ v5 = .int .i64 a ∧ v6 = .int .i64 i ∧ RowAt wr 9 A L.length c (vss L) ∧ (∀ k, k ∈ rowT A → w.heap.size ≤ k) ∧ Only [] w wr ∧
    L.length ≤ 8 ∧ (∀ k, k ∈ L → nameB k = true) ∧ a ≤ s.size + 1 ∧ i ≤ s.size + 1 ∧ (SpAt s L a i ∨ (i = s.size + 1 ∧ parts (toL s) = L.map toL))
theorem SpRel.start (s : ByteArray) (w : World) : SpRel s w (.slice none 0 0) (.int .i64 0) (.int .i64 0) w :=
  ⟨none, 0, [], 0, 0, rfl, rfl, rfl, RowAt.nil _ _, by simp [rowT], Only.refl _ _, Nat.zero_le _, by simp, Nat.zero_le _, Nat.zero_le _, .inl (SpAt.start s)⟩
theorem names_snoc {L : List ByteArray} {nm : ByteArray} (h : ∀ k, k ∈ L → nameB k = true) (hn : nameB nm = true) : ∀ k, k ∈ L ++ [nm] → nameB k = true := by
  intro k hk
  rcases List.mem_append.1 hk with hk | hk
  · exact h k hk
  · simp at hk; subst hk; exact hn
theorem SpRel.append {s : ByteArray} {w wr w1 : World} {A A' : Option Addr} {c' : Nat} {L : List ByteArray} {i : Nat} {nm : ByteArray} (hk : ∀ k, k ∈ rowT A → w.heap.size ≤ k) (hO : Only [] w wr)
    (hl : L.length ≤ 7) (hN : ∀ k, k ∈ L ++ [nm] → nameB k = true) (hi : i ≤ s.size) (hR : RowAt w1 9 A' (L.length + 1) c' (vss (L ++ [nm]))) (hO1 : Only (rowT A) (wr.alloc (.cells #[.string nm] 9)) w1)
    (hk1 : ∀ k, k ∈ rowT A' → k ∈ rowT A ∨ (wr.alloc (.cells #[.string nm] 9)).heap.size ≤ k) (hs : SpAt s (L ++ [nm]) (i + 1) (i + 1) ∨ (i + 1 = s.size + 1 ∧ parts (toL s) = (L ++ [nm]).map toL)) :
    SpRel s w (.slice A' (L.length + 1) c') (.int .i64 ((i : Int) + 1)) (.int .i64 ((i : Int) + 1)) w1 := by
  refine ⟨A', c', L ++ [nm], i + 1, i + 1, by simp, rfl, rfl, by simpa using hR, fun k hkk => ?_, ?_, by simp; omega, hN, by omega, by omega, hs⟩
  · rcases hk1 k hkk with h | h
    · exact hk k h
    · have := hO.size; simp at h; omega
  · exact (hO.alloc _).join hO1 fun k hkk => .inr (hk k hkk)

set_option maxRecDepth 100000 in
set_option maxHeartbeats 1600000 in
theorem refSplit_c (s : ByteArray) (w : World) (hs : s.size ≤ 2000000) :
    Calls Tryd.prog 36 #[.string s] w (SplitPost s w) := by
  by_cases h0 : s.size = 0
  · have HP := Lib.hid (pathOf_empty h0)
    have hz := empty_of h0
    clear h0
    go_enter Tryd.func36, Tryd.ntmps36
    go_wp2_with fail
    go_ret2
    unfold SplitPost
    rw [HP.out]
    exact ⟨Bel.refl _, none, 0, rfl, .inl rfl, by simp, by simp, by simp⟩
  have hz := empty_not h0
  have hH0 := Lib.hid h0
  clear h0
  have HSTART := SpRel.start s w
  go_enter Tryd.func36, Tryd.ntmps36
  go_wp2_with fail
  go_loopw [4, 5, 6] (fun v4 v5 v6 wr => SpRel s w v4 v5 v6 wr) (fun _ _ v6 _ => s.size + 2 - (intOf v6).toNat)
  case atStart => exact HSTART
  case round =>
    clear HSTART
    obtain ⟨A, c, L, a, i, rfl, rfl, rfl, hR, hk, hO, hl, hN, ha, hi, hst⟩ := hrel
    have HR := Lib.hid hR
    have HO := Lib.hid hO
    have HN := Lib.hid hN
    have HK := Lib.hid hk
    clear hR hO hN hk
    rcases hst with hst | ⟨hie, hp⟩
    · have ha2 : a ≤ i := hst.le
      have hi2 : i ≤ s.size := hst.top
      have HS := Lib.hid hst
      clear hst
      by_cases hlt : i < s.size
      · by_cases hc : s[i] = 46
        · have hne : ¬ i = s.size := by omega
          have hc1 : ((s[i].toNat : Int) == 46) = true := by rw [hc]; rfl
          have hEQ := HS.out.dot hlt hc
          have HD := Lib.hid (HS.out.dotted hlt hc)
          have hsz : (s.extract a i).size ≤ maxLen := by unfold maxLen; simp; omega
          have HC := Lib.hid (refName_c (s.extract a i) hsz)
          cases hn : nameB (s.extract a i) with
          | false =>
            have HP := Lib.hid (no_path_name hH0.out hEQ hn)
            rw [hn] at HC
            clear hEQ hn hsz hc
            go_wp2_with (go_at_call 35; refine (HC.out _).mono ?_; rintro e w' ⟨rfl, rfl⟩)
            go_ret2
            unfold SplitPost
            rw [HP.out]
            exact ⟨bel_of_only HO.out, rfl⟩
          | true =>
            by_cases h8 : L.length = 8
            · have HP := Lib.hid (no_path_many hH0.out hEQ h8)
              rw [hn] at HC
              have h8' : decide (L.length = 8) = true := by simpa using h8
              clear hEQ hn hsz hc
              go_wp2_with (go_at_call 35; refine (HC.out _).mono ?_; rintro e w' ⟨rfl, rfl⟩)
              go_ret2
              unfold SplitPost
              rw [HP.out]
              exact ⟨bel_of_only HO.out, rfl⟩
            · have HNN := Lib.hid (names_snoc HN.out hn)
              rw [hn] at HC
              clear hEQ hn hsz hc
              have h8' : ¬ L.length = 8 := h8
              have HAL := Lib.hid (HR.out.alloc (.cells #[.string (s.extract a i)] 9))
              have HBK := Lib.hid (Blk.new wr 9 [.string (s.extract a i)])
              go_wp2_with (first | (go_at_call 35; refine (HC.out _).mono ?_; rintro e w' ⟨rfl, rfl⟩) | (at_builtin; refine wp_appendS rfl _ _ rfl A L.length c L rfl HAL.out wr.heap.size (s.extract a i) rfl HBK.out (by omega) ?_; intro A' c' w1 hR1 hO1 hK1))
              go_roundw
              case rel => exact SpRel.append HK.out HO.out (by omega) HNN.out hi2 hR1.out hO1.out hK1.out (.inl HD.out)
              case measure => simp [intOf]; omega
        · have hne : ¬ i = s.size := by omega
          have hc1 : ((s[i].toNat : Int) == 46) = false := by
            simp only [beq_eq_false_iff_ne]
            intro e
            exact hc (UInt8.toNat_inj.1 (by rw [show (46 : UInt8).toNat = 46 from rfl]; omega))
          have HD := Lib.hid (HS.out.next hlt hc)
          clear hc
          go_wp2_with fail
          go_roundw
          case rel => exact ⟨A, c, L, a, i + 1, rfl, rfl, rfl, HR.out, HK.out, HO.out, hl, HN.out, ha, by omega, .inl HD.out⟩
          case measure => simp [intOf]; omega
      · obtain rfl : i = s.size := by omega
        clear hlt hi2 hi
        have hi2 : s.size ≤ s.size := Nat.le_refl _
        have hEQ : parts (toL s) = (L ++ [s.extract a s.size]).map toL ++ [] := by rw [List.append_nil]; exact HS.out.stop
        have HD : Hid (s.size + 1 = s.size + 1 ∧ parts (toL s) = (L ++ [s.extract a s.size]).map toL) := Lib.hid ⟨by omega, by rw [hEQ, List.append_nil]⟩
        have hsz : (s.extract a s.size).size ≤ maxLen := by unfold maxLen; simp; omega
        have HC := Lib.hid (refName_c (s.extract a s.size) hsz)
        cases hn : nameB (s.extract a s.size) with
        | false =>
          have HP := Lib.hid (no_path_name hH0.out hEQ hn)
          rw [hn] at HC
          clear hEQ hn hsz
          go_wp2_with (go_at_call 35; refine (HC.out _).mono ?_; rintro e w' ⟨rfl, rfl⟩)
          go_ret2
          unfold SplitPost
          rw [HP.out]
          exact ⟨bel_of_only HO.out, rfl⟩
        | true =>
          by_cases h8 : L.length = 8
          · have HP := Lib.hid (no_path_many hH0.out hEQ h8)
            rw [hn] at HC
            have h8' : decide (L.length = 8) = true := by simpa using h8
            clear hEQ hn hsz
            go_wp2_with (go_at_call 35; refine (HC.out _).mono ?_; rintro e w' ⟨rfl, rfl⟩)
            go_ret2
            unfold SplitPost
            rw [HP.out]
            exact ⟨bel_of_only HO.out, rfl⟩
          · have HNN := Lib.hid (names_snoc HN.out hn)
            rw [hn] at HC
            clear hEQ hn hsz
            have h8' : ¬ L.length = 8 := h8
            have HAL := Lib.hid (HR.out.alloc (.cells #[.string (s.extract a s.size)] 9))
            have HBK := Lib.hid (Blk.new wr 9 [.string (s.extract a s.size)])
            go_wp2_with (first | (go_at_call 35; refine (HC.out _).mono ?_; rintro e w' ⟨rfl, rfl⟩) | (at_builtin; refine wp_appendS rfl _ _ rfl A L.length c L rfl HAL.out wr.heap.size (s.extract a s.size) rfl HBK.out (by omega) ?_; intro A' c' w1 hR1 hO1 hK1))
            go_roundw
            case rel => exact SpRel.append HK.out HO.out (by omega) HNN.out hi2 hR1.out hO1.out hK1.out (.inr ⟨rfl, HD.out.2⟩)
            case measure => simp [intOf]
    · have HP : Hid (pathOf s = some L) := Lib.hid (by
        rw [pathOf_good hH0.out (by rw [hp, List.length_map]; exact hl) (by rw [hp, List.all_map, List.all_eq_true]; exact HN.out), ← L_parts hp.symm])
      have hgt : (s.size : Int) < (i : Int) := by omega
      clear hp
      go_wp2_with fail
      go_ret2
      unfold SplitPost
      rw [HP.out]
      exact ⟨bel_of_only HO.out, _, _, rfl, strs_of_row HR.out, fun a ha => HK.out _ (by rw [ha]; simp [rowT]), hl, HN.out⟩
end Go.Proofs.YtkiefgifbkpcfaaDoor
