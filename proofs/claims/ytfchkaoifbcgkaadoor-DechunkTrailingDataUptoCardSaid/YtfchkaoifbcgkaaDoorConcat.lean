/-
  The contract of slices.Concat of slices of bytes.
-/
import Derived.Test.YtfchkaoifbcgkaaDoorGrow
namespace Go.Proofs.YtfchkaoifbcgkaaDoor
open Go.RowKit Go.BigFrame
set_option linter.unusedVariables false
set_option linter.unusedSimpArgs false
attribute [local go_sem ↓] sliced_cut run_min2 run_max2
attribute [local go_sem] cutA_zero

/-- The bytes of the pieces. -/
def flat (ps : List PieceV) : List UInt8 := (ps.map (·.b)).flatten
theorem flat_nil : flat [] = [] := rfl
theorem flat_take {ps : List PieceV} {i : Nat} {p : PieceV} (h : ps[i]? = some p) : flat (ps.take (i + 1)) = flat (ps.take i) ++ p.b := by
  unfold flat
  obtain ⟨hi, rfl⟩ := List.getElem?_eq_some_iff.1 h
  rw [List.take_succ_eq_append_getElem hi, List.map_append, List.flatten_append, List.map_singleton, List.flatten_singleton]
theorem flat_take_le (ps : List PieceV) (i : Nat) : (flat (ps.take i)).length ≤ (flat ps).length := by
  unfold flat
  conv => rhs; rw [← List.take_append_drop i ps]
  rw [List.map_append, List.flatten_append, List.length_append]
  omega

theorem grow_c (w : World) {n : Nat} (hb : n ≤ 140737488355328) :
    Calls Tryd.prog 45 #[.slice none 0 0, .int .i64 n] w fun e w' => ∃ A c, e = .returned (.slice A 0 c) ∧ RowAt w' 5 A 0 c [] ∧ (∀ k, k ∈ rowT A → w.heap.size ≤ k) ∧ Only [] w w' := by
  rcases Nat.eq_zero_or_pos n with rfl | h0
  · refine (grow_zero w).mono ?_
    rintro e w' ⟨rfl, rfl⟩
    exact ⟨none, 0, rfl, RowAt.nil _ _, by simp [rowT], Only.refl _ _⟩
  · refine (grow_some w h0 hb).mono ?_
    rintro e w' ⟨c, rfl, h1, h2⟩
    exact ⟨_, c, rfl, h1, by simp [rowT_some], h2⟩
set_option maxRecDepth 100000 in
set_option maxHeartbeats 1600000 in
theorem concat_c {w : World} {B : Nat} {X : Option Addr} {n c : Nat} {ps : List PieceV} (h : PiecesAt w B X n ps) (hB : B ≤ w.heap.size) (hnc : n ≤ c) (hcm : c ≤ maxLen) (hsum : (flat ps).length ≤ 70368744177664) :
    Calls Tryd.prog 41 #[.slice X n c] w fun e w' => ∃ A d, e = .returned (.slice A (flat ps).length d) ∧ RowAt w' 5 A (flat ps).length d (vbs (flat ps)) ∧ (∀ k, k ∈ rowT A → w.heap.size ≤ k) ∧ Only [] w w' := by
  have hN := h.1
  have HP := Lib.hid h
  have HS := Lib.hid hsum
  unfold maxLen at hcm
  clear h hsum
  go_enter Tryd.func41, Tryd.ntmps41
  go_wp2_with fail
  go_loopw [3, 11] (fun s3 s11 wr => ∃ (i t : Nat), i ≤ n ∧ s11 = .int .i64 i ∧ s3 = .int .i64 t ∧ Hid (t = (flat (ps.take i)).length) ∧ w = wr) (fun _ s11 _ => n - (intOf s11).toNat)
  case atStart => exact ⟨0, 0, Nat.zero_le _, rfl, rfl, Lib.hid (by simp [flat]), rfl⟩
  case round =>
    obtain ⟨i, t, hik, rfl, rfl, ht, rfl⟩ := hrel
    have hle := Nat.le_trans (Nat.le_of_eq ht.out) (Nat.le_trans (flat_take_le ps i) HS.out)
    by_cases hlt : i < n
    · obtain ⟨p, g, o, hp, hX, hg, hcell, hat⟩ := HP.out.piece hlt
      have ht2 := Nat.le_trans (flat_take_le ps (i + 1)) HS.out
      rw [flat_take hp, List.length_append, ← ht.out, hat.1] at ht2
      have HT2 : Hid (t + p.m = (flat (ps.take (i + 1))).length) := Lib.hid (by rw [flat_take hp, List.length_append, ← ht.out, hat.1])
      subst hX
      clear hat hp
      go_wp2
      go_roundw
      case rel => exact ⟨i + 1, t + p.m, by omega, by go_num, by go_num, HT2, trivial⟩
      case measure => simp [intOf]; omega
    · obtain rfl : i = n := by omega
      have HTN : Hid (t = (flat ps).length) := Lib.hid (by rw [ht.out, List.take_of_length_le (Nat.le_of_eq HP.out.1)])
      clear ht
      go_wp2_with fail
      refine (grow_c w (by omega : t ≤ 140737488355328)).mono ?_
      rintro e w1 ⟨A1, c1, rfl, hR1, hk1, hO1⟩
      have HI : Hid (RowAt w1 5 A1 0 c1 (vbs (flat (ps.take 0))) ∧ (∀ k, k ∈ rowT A1 → w.heap.size ≤ k) ∧ Only [] w w1) := Lib.hid ⟨by simpa [flat, vbs] using hR1, hk1, hO1⟩
      clear hR1 hk1 hO1
      go_wp2_with fail
      go_loopw [6, 27] (fun s6 s27 wr => ∃ (j m : Nat) (A : Option Addr) (d : Nat), j ≤ i ∧ m ≤ 70368744177664 ∧ s27 = .int .i64 j ∧ s6 = .slice A m d ∧ Hid (m = (flat (ps.take j)).length) ∧
        Hid (RowAt wr 5 A m d (vbs (flat (ps.take j))) ∧ (∀ k, k ∈ rowT A → w.heap.size ≤ k) ∧ Only [] w wr)) (fun _ s27 _ => i - (intOf s27).toNat)
      case atStart => exact ⟨0, 0, A1, c1, Nat.zero_le _, by omega, rfl, rfl, Lib.hid (by simp [flat]), HI⟩
      case round =>
        clear HI
        obtain ⟨j, m, A, d, hji, hmb, rfl, rfl, hm, hI⟩ := hrel
        by_cases hlt2 : j < i
        · obtain ⟨p, g, o, hp, hX, hg, hcell, hat⟩ := HP.out.piece hlt2
          have ht2 := Nat.le_trans (flat_take_le ps (j + 1)) HS.out
          rw [flat_take hp, List.length_append, ← hm.out, hat.1] at ht2
          have hO := hI.out.2.2
          have hcell2 : wr.cell? ⟨g, o + j, none⟩ = some (.slice p.A p.m p.c) := cell_only hcell hO (by simp)
          have hsrc := Lib.hid (hat.2.2.2.only' hO hB (by simp))
          have HT2 : Hid (m + p.m = (flat (ps.take (j + 1))).length) := Lib.hid (by rw [flat_take hp, List.length_append, ← hm.out, hat.1])
          have HV : Hid (vbs (flat (ps.take j)) ++ vbs p.b = vbs (flat (ps.take (j + 1)))) := Lib.hid (by rw [flat_take hp, vbs_append])
          obtain ⟨i0, hi, hz0, hz1, hz2⟩ := info_parts info_byte
          have hb1 := Lib.hid (show m + p.m ≤ maxLen by unfold maxLen; omega)
          have hb2 := Lib.hid (show (m + p.m) * 1 ≤ 140737488355328 by omega)
          subst hX
          clear hat hp hcell hO
          go_wp2_with (with_reducible refine wp_rowAppend rfl (.tmp 31) (.tmp 32) 26 rfl 5 i0 _ 1 Tryd.underlying26 hi hz0 hz1 hz2 rfl A m d (vbs (flat (ps.take j))) rfl hI.out.1 B p.A p.m p.c (vbs p.b) rfl hsrc.out (vbs_one _) hb1.out hb2.out (m + p.m) rfl ?_; intro A2 d2 w3 HR3 hO3 HK3)
          go_roundw
          case rel =>
            refine ⟨j + 1, m + p.m, A2, d2, by omega, by omega, by go_num, rfl, HT2, Lib.hid ⟨by rw [← HV.out]; exact HR3.out, fun k hk => ?_, ?_⟩⟩
            · rcases HK3.out k hk with h1 | h1
              · exact hI.out.2.1 k h1
              · exact Nat.le_trans hI.out.2.2.size h1
            · exact hI.out.2.2.join hO3 (fun k hk => .inr (hI.out.2.1 k hk))
          case measure => simp [intOf]; omega
        · obtain rfl : j = i := by omega
          go_wp2_with fail
          go_ret
          have e1 : ps.take j = ps := List.take_of_length_le (Nat.le_of_eq HP.out.1)
          have h1 := hm.out
          have h2 := hI.out
          rw [e1] at h1 h2
          subst h1
          exact ⟨A, d, rfl, h2⟩
end Go.Proofs.YtfchkaoifbcgkaaDoor
