/-
  Rows of runes; contract of slices.Equal of them.
-/
import Derived.Test.YtbpmhleokmcggaaDoorTab6
import Derived.LoopTactic
import Derived.WalkMore
namespace Go.Proofs.YtbpmhleokmcggaaDoor
open Go.RowKit Go.BigFrame
set_option linter.unusedVariables false
set_option linter.unusedSimpArgs false
attribute [local go_sem ↓] sliced_cut run_min2 run_max2
attribute [local go_sem] cutA_zero

/-- Runes as cells. -/
def vrs (l : List Int) : List Value := l.map (Value.int .i32)
theorem vrs_length (l : List Int) : (vrs l).length = l.length := by simp [vrs]
theorem vrs_append (a b : List Int) : vrs (a ++ b) = vrs a ++ vrs b := by simp [vrs]
theorem vrs_drop (a : List Int) (n : Nat) : vrs (a.drop n) = (vrs a).drop n := by simp [vrs]
theorem vrs_take (a : List Int) (n : Nat) : vrs (a.take n) = (vrs a).take n := by simp [vrs]
theorem vrs_getElem? (l : List Int) (i : Nat) : (vrs l)[i]? = (l[i]?).map (Value.int .i32) := by simp [vrs]
theorem vrs_one (l : List Int) : ∀ v ∈ vrs l, v.oneCell' = true := by
  intro v hv
  obtain ⟨n, _, rfl⟩ := List.mem_map.1 hv
  rfl
set_option maxRecDepth 100000 in
set_option maxHeartbeats 1600000 in
theorem equalr_c {w : World} {B1 B2 : Nat} {A1 A2 : Option Addr} {n1 n2 : Nat} {l1 l2 : List Int} (h1 : Reads w B1 A1 n1 (vrs l1)) (h2 : Reads w B2 A2 n2 (vrs l2)) (c1 c2 : Nat) (hn1 : n1 ≤ 1000000) (hn2 : n2 ≤ 1000000) :
    Calls Tryd.prog 10 #[.slice A1 n1 c1, .slice A2 n2 c2] w fun e w' => e = .returned (.bool (l1 == l2)) ∧ Only [] w w' := by
  have hl1 : l1.length = n1 := by have := h1.1; rwa [vrs_length] at this
  have hl2 : l2.length = n2 := by have := h2.1; rwa [vrs_length] at this
  by_cases hne : n1 = n2
  · subst hne
    have H1 := Lib.hid h1
    have H2 := Lib.hid h2
    have HL1 := Lib.hid hl1
    have HL2 := Lib.hid hl2
    obtain ⟨res, hres⟩ : ∃ res, res = (l1 == l2) := ⟨_, rfl⟩
    have HRES := Lib.hid hres
    rw [← hres]
    clear h1 h2 hl1 hl2 hres
    go_enter Tryd.func10, Tryd.ntmps10
    go_wp2
    go_loopw [13] (fun si wr => ∃ (i : Nat), i ≤ n1 ∧ si = .int .i64 i ∧ Hid (l1.take i = l2.take i) ∧ Hid (Only [] w wr)) (fun si _ => n1 - (intOf si).toNat)
    case atStart => exact ⟨0, Nat.zero_le _, rfl, Lib.hid rfl, Lib.hid (Only.refl _ _)⟩
    case round =>
      obtain ⟨i, hin, rfl, heq, hO⟩ := hrel
      by_cases hlt : i < n1
      · obtain ⟨g1, o1, rfl, hg1, hc1⟩ := H1.out.plain (by omega)
        obtain ⟨g2, o2, rfl, hg2, hc2⟩ := H2.out.plain (by omega)
        have hi1 : i < l1.length := by rw [HL1.out]; exact hlt
        have hi2 : i < l2.length := by rw [HL2.out]; exact hlt
        have d1 : ∀ k, (wr.drewN k).cell? ⟨g1, o1 + i, none⟩ = some (.int .i32 (l1[i]'hi1)) := fun k => cell_only (hc1 i _ (by rw [vrs_getElem?, List.getElem?_eq_getElem hi1]; rfl)) (hO.out.drewN k) (by simp)
        have d2 : ∀ k, (wr.drewN k).cell? ⟨g2, o2 + i, none⟩ = some (.int .i32 (l2[i]'hi2)) := fun k => cell_only (hc2 i _ (by rw [vrs_getElem?, List.getElem?_eq_getElem hi2]; rfl)) (hO.out.drewN k) (by simp)
        have ht1 : l1.take (i + 1) = l1.take i ++ [l1[i]'hi1] := by rw [List.take_add_one, List.getElem?_eq_getElem hi1]; rfl
        have ht2 : l2.take (i + 1) = l2.take i ++ [l2[i]'hi2] := by rw [List.take_add_one, List.getElem?_eq_getElem hi2]; rfl
        have HT1 := Lib.hid ht1
        have HT2 := Lib.hid ht2
        have hlti : (i : Int) < (n1 : Int) := by omega
        clear ht1 ht2 hc1 hc2
        have hne2 : l1[i]'hi1 ≠ l2[i]'hi2 → res = false := fun h => by
          rw [HRES.out, beq_eq_false_iff_ne]
          rintro rfl
          exact h rfl
        generalize l1[i]'hi1 = v1 at *
        generalize l2[i]'hi2 = v2 at *
        by_cases hv : v1 = v2
        · subst hv
          clear hne2
          go_wp2
          go_quiet (fail)
          go_wp2
          go_roundw
          case rel => exact ⟨i + 1, by omega, by go_num, Lib.hid (by rw [HT1.out, HT2.out, heq.out]), Lib.hid (hO.out.drewN _)⟩
          case measure => simp [intOf]; omega
        · have hr := hne2 hv
          have hvb : (v1 != v2) = true := by rw [bne_iff_ne]; exact hv
          subst hr
          clear hne2
          go_wp2
          go_quiet (fail)
          go_wp2
          go_ret
          exact ⟨rfl, hO.out.drewN _⟩
      · obtain rfl : i = n1 := by omega
        have hr : res = true := by
          rw [HRES.out, beq_iff_eq]
          have := heq.out
          rwa [List.take_of_length_le (by rw [HL1.out]; exact Nat.le_refl _), List.take_of_length_le (by rw [HL2.out]; exact Nat.le_refl _)] at this
        subst hr
        go_wp2
        go_ret
        exact ⟨rfl, hO.out⟩
  · have hr : (l1 == l2) = false := by
      rw [beq_eq_false_iff_ne]
      rintro rfl
      omega
    rw [hr]
    have hni : ((n1 : Int) != (n2 : Int)) = true := by rw [bne_iff_ne]; omega
    clear h1 h2 hl1 hl2 hr
    go_enter Tryd.func10, Tryd.ntmps10
    go_wp2
    go_ret
    exact ⟨rfl, Only.refl _ _⟩
end Go.Proofs.YtbpmhleokmcggaaDoor
