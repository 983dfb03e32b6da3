/-
  Contract of the reference's Parse of layer 3.
-/
import Derived.Test.YtfchkaoifbcgkaaDoorHexRef
import Derived.Test.YtfchkaoifbcgkaaDoorHexParse
namespace Go.Proofs.YtfchkaoifbcgkaaDoor
open Go.RowKit Go.BigFrame
set_option linter.unusedVariables false
set_option linter.unusedSimpArgs false
attribute [local go_sem ↓] sliced_cut run_min2 run_max2
attribute [local go_sem] cutA_zero

set_option maxHeartbeats 3200000 in
theorem refParse_c {w : World} {B n c : Nat} {A : Option Addr} {l : List UInt8} (hr : Reads w B A n (vbs l)) (hnc : n ≤ c) (hcm : c ≤ maxLen) :
    Calls Tryd.prog 25 #[.slice A n c] w fun e w' => e = .returned (ansV (refOf l)) ∧ w' = w := by
  have hl : l.length = n := by have := hr.1; rwa [vbs_length] at this
  unfold maxLen at hcm
  by_cases hn : n = 0
  · subst hn
    obtain rfl : l = [] := List.eq_nil_of_length_eq_zero hl
    clear hr hl
    go_enter Tryd.func25, Tryd.ntmps25
    go_wp2
    go_loopw [5, 6] (fun s5 s6 w' => s5 = .int .i64 0 ∧ s6 = .int .i64 0 ∧ w' = w) (fun _ _ _ => 0)
    case atStart => exact ⟨rfl, rfl, rfl⟩
    case round =>
      obtain ⟨rfl, rfl, rfl⟩ := hrel
      go_wp2
      go_ret3
      exact ⟨rfl, rfl⟩
  · obtain ⟨g, o, rfl, hg, hc⟩ := hr.plain (by omega)
    obtain ⟨x0, r0, hx0⟩ : ∃ x r, l = x :: r := by
      cases l with
      | nil => simp at hl; omega
      | cons x r => exact ⟨x, r, rfl⟩
    have hz : (l.head? == some 48) = decide (x0 = 48) := by rw [hx0]; rw [Bool.eq_iff_iff]; simp
    have c0 : w.cell? ⟨g, o, none⟩ = some (.int .u8 (x0.toNat : Int)) := hc 0 _ (by rw [hx0]; rfl)
    have HR : Hid (rloop (decide (x0 = 48)) 0 0 l = refOf l) := Lib.hid (by rw [← hz]; rfl)
    have HC := Lib.hid hc
    have HL := Lib.hid hl
    have HX0 := Lib.hid hx0
    clear hr hc hz hx0 hl
    generalize hres : refOf l = res at HR ⊢
    clear hres
    have hn0 : (0 : Int) < (n : Int) := by omega
    go_enter Tryd.func25, Tryd.ntmps25
    go_wp2
    go_loopw [5, 6] (fun s5 s6 w' => ∃ N I : Nat, s5 = .int .i64 N ∧ s6 = .int .i64 I ∧ N ≤ 65536 ∧ I ≤ n ∧ Hid (rloop (decide (x0 = 48)) N I (l.drop I) = res) ∧ w' = w) (fun _ s6 _ => n - (intOf s6).toNat)
    case atStart => exact ⟨0, 0, rfl, rfl, by omega, by omega, HR, rfl⟩
    case round =>
      obtain ⟨N, I, rfl, rfl, hN, hI, hrel2, rfl⟩ := hrel
      by_cases hIn : I < n
      · have hin : (I : Int) < (n : Int) := by omega
        have hine : ¬ (I : Int) = (n : Int) := by omega
        have hineb : ((I : Int) == (n : Int)) = false := by simpa using hine
        obtain ⟨x, r, hx⟩ : ∃ x r, l.drop I = x :: r := by
          cases h : l.drop I with
          | nil => have h2 := congrArg List.length h; simp at h2; have := HL.out; omega
          | cons x r => exact ⟨x, r, rfl⟩
        have cI : wr.cell? ⟨g, o + I, none⟩ = some (.int .u8 (x.toNat : Int)) := HC.out I _ (by
          have h5 := congrArg List.head? hx
          rw [List.head?_drop] at h5
          rw [vbs_getElem?, h5]
          rfl)
        have hxx : I = 0 → x = x0 := fun h => by
          subst h
          rw [HX0.out] at hx
          simp at hx
          exact hx.1.symm
        rw [hx] at hrel2
        have HX := Lib.hid hx
        clear hx
        cases hh : hv x with
        | none =>
          have hval := value_c wr x
          unfold hvI at hval
          rw [hh] at hval
          have HV := Lib.hid hval
          have hrt : Hid (rtail N I (x :: r) = res) := Lib.hid (by rw [← hrel2.out, rloop, hh])
          clear hval hh hrel2
          by_cases hI0 : I = 0
          · obtain rfl := hxx hI0
            clear hxx
            subst hI0
            have hres2 : Hid (res = (0, 0, 5)) := Lib.hid (by rw [← hrt.out]; simp [rtail])
            clear cI
            go_wp2_with (go_at_call 32; (with_reducible refine HV.out.mono ?_); rintro e w1 ⟨rfl, hW⟩; rw [hW]; clear hW)
            go_ret3
            rw [hres2.out]
            exact ⟨rfl, rfl⟩
          · clear hxx
            have hI0i : ((I : Int) == 0) = false := by rw [beq_eq_false_iff_ne]; omega
            by_cases h13 : x = 13
            · have h13i : ((x.toNat : Int) != 13) = false := by subst h13; rfl
              have hp1 : IntKind.i64.wrap ((I : Int) + 1) = (I : Int) + 1 := wrap_small _ (by omega) (by omega)
              by_cases hlast : I + 1 = n
              · have hlb : ((I : Int) + 1 == (n : Int)) = true := by rw [beq_iff_eq]; omega
                have hres2 : Hid (res = (0, 0, 7)) := Lib.hid (by
                  have h5 := congrArg List.length HX.out
                  simp at h5
                  have h6 : r = [] := List.eq_nil_of_length_eq_zero (by have := HL.out; omega)
                  rw [← hrt.out, h6]; simp [rtail, hI0, h13])
                clear h13
                go_wp2_with (go_at_call 32; (with_reducible refine HV.out.mono ?_); rintro e w1 ⟨rfl, hW⟩; rw [hW]; clear hW)
                go_ret3
                rw [hres2.out]
                exact ⟨rfl, rfl⟩
              · have hlb : ((I : Int) + 1 == (n : Int)) = false := by rw [beq_eq_false_iff_ne]; omega
                have hin1 : (I : Int) + 1 < (n : Int) := by omega
                have hin0 : (0 : Int) ≤ (I : Int) + 1 := by omega
                have hp2 : IntKind.i64.wrap ((I : Int) + 2) = (I : Int) + 2 := wrap_small _ (by omega) (by omega)
                obtain ⟨y, r2, hy⟩ : ∃ y r2, r = y :: r2 := by
                  cases h : r with
                  | nil =>
                    have h5 := congrArg List.length HX.out
                    rw [h] at h5
                    simp at h5
                    have := HL.out
                    omega
                  | cons y r2 => exact ⟨y, r2, rfl⟩
                have cI1 : wr.cell? ⟨g, o + (I + 1), none⟩ = some (.int .u8 (y.toNat : Int)) := HC.out (I + 1) _ (by
                  have h5 := congrArg (List.drop 1) HX.out
                  rw [List.drop_drop, hy] at h5
                  have h6 := congrArg List.head? h5
                  rw [List.head?_drop] at h6
                  rw [vbs_getElem?, h6]
                  rfl)
                have hto : ((I : Int) + 1).toNat = I + 1 := by omega
                by_cases h10 : y = 10
                · have h10i : ((y.toNat : Int) != 10) = false := by subst h10; rfl
                  have hres2 : Hid (res = (N, I + 2, 0)) := Lib.hid (by rw [← hrt.out, hy]; simp [rtail, hI0, h13, h10])
                  clear h13 h10 hy
                  go_wp2_with (go_at_call 32; (with_reducible refine HV.out.mono ?_); rintro e w1 ⟨rfl, hW⟩; rw [hW]; clear hW)
                  go_ret3
                  rw [hres2.out]
                  exact ⟨rfl, rfl⟩
                · have h10i : ((y.toNat : Int) != 10) = true := by
                    rw [bne_iff_ne]
                    intro e
                    exact h10 (UInt8.toNat.inj (by simpa using (show y.toNat = 10 by omega)))
                  have hres2 : Hid (res = (0, 0, 5)) := Lib.hid (by rw [← hrt.out, hy]; simp [rtail, hI0, h13, h10])
                  clear h13 h10 hy
                  go_wp2_with (go_at_call 32; (with_reducible refine HV.out.mono ?_); rintro e w1 ⟨rfl, hW⟩; rw [hW]; clear hW)
                  go_ret3
                  rw [hres2.out]
                  exact ⟨rfl, rfl⟩
            · have h13i : ((x.toNat : Int) != 13) = true := by
                rw [bne_iff_ne]
                intro e
                exact h13 (UInt8.toNat.inj (by simpa using (show x.toNat = 13 by omega)))
              have hres2 : Hid (res = (0, 0, 5)) := Lib.hid (by rw [← hrt.out]; simp [rtail, h13])
              clear h13
              go_wp2_with (go_at_call 32; (with_reducible refine HV.out.mono ?_); rintro e w1 ⟨rfl, hW⟩; rw [hW]; clear hW)
              go_ret3
              rw [hres2.out]
              exact ⟨rfl, rfl⟩
        | some d =>
          have hval := value_c wr x
          unfold hvI at hval
          rw [hh] at hval
          have HV := Lib.hid hval
          have hd := hv_lt hh
          have hrt : Hid ((if 65536 < 16 * N + d ∨ (1 < I + 1 ∧ decide (x0 = 48) = true) then (0, 0, 5) else rloop (decide (x0 = 48)) (16 * N + d) (I + 1) r) = res) := Lib.hid (by rw [← hrel2.out, rloop, hh])
          clear hval hh hrel2
          have hm1 : IntKind.i64.wrap (16 * (N : Int)) = 16 * (N : Int) := wrap_small _ (by omega) (by omega)
          have hm2 : IntKind.i64.wrap (16 * (N : Int) + (d : Int)) = 16 * (N : Int) + (d : Int) := wrap_small _ (by omega) (by omega)
          have hm3 : IntKind.i64.wrap ((I : Int) + 1) = (I : Int) + 1 := wrap_small _ (by omega) (by omega)
          have hd0 : (0 : Int) ≤ (d : Int) := by omega
          by_cases hbig : 65536 < 16 * N + d
          · have hbi : (65536 : Int) < 16 * (N : Int) + (d : Int) := by omega
            have hres2 : Hid (res = (0, 0, 5)) := Lib.hid (by rw [← hrt.out, if_pos (.inl hbig)])
            go_wp2_with (go_at_call 32; (with_reducible refine HV.out.mono ?_); rintro e w1 ⟨rfl, hW⟩; rw [hW]; clear hW)
            clear hxx
            go_ret3
            rw [hres2.out]
            exact ⟨rfl, rfl⟩
          · have hbi : ¬ (65536 : Int) < 16 * (N : Int) + (d : Int) := by omega
            have hdrop : Hid (l.drop (I + 1) = r) := Lib.hid (by
              have h5 := congrArg (List.drop 1) HX.out
              rw [List.drop_drop] at h5
              simpa using h5)
            by_cases hI0 : I = 0
            · obtain rfl := hxx hI0
              clear hxx
              subst hI0
              have hres2 : Hid (rloop (decide (x = 48)) (16 * N + d) 1 r = res) := Lib.hid (by rw [← hrt.out, if_neg (by simp; omega)])
              clear cI hm3
              go_wp2_with (go_at_call 32; (with_reducible refine HV.out.mono ?_); rintro e w1 ⟨rfl, hW⟩; rw [hW]; clear hW)
              go_roundw
              case rel => exact ⟨16 * N + d, 1, by simp, by simp, by omega, by omega, Lib.hid (by rw [hdrop.out]; exact hres2.out), trivial⟩
              case measure => simp [intOf]; omega
            · have hI1 : (1 : Int) < (I : Int) + 1 := by omega
              clear hxx
              by_cases h48 : x0 = 48
              · have h48i : ((x0.toNat : Int) == 48) = true := by subst h48; rfl
                have hres2 : Hid (res = (0, 0, 5)) := Lib.hid (by rw [← hrt.out, if_pos (.inr ⟨by omega, decide_eq_true h48⟩)])
                clear h48
                go_wp2_with (go_at_call 32; (with_reducible refine HV.out.mono ?_); rintro e w1 ⟨rfl, hW⟩; rw [hW]; clear hW)
                go_ret3
                rw [hres2.out]
                exact ⟨rfl, rfl⟩
              · have h48i : ((x0.toNat : Int) == 48) = false := by
                  rw [beq_eq_false_iff_ne]
                  intro e
                  exact h48 (UInt8.toNat.inj (by simpa using (show x0.toNat = 48 by omega)))
                have hres2 : Hid (rloop (decide (x0 = 48)) (16 * N + d) (I + 1) r = res) := Lib.hid (by rw [← hrt.out, if_neg (by simp [h48]; omega)])
                clear h48
                go_wp2_with (go_at_call 32; (with_reducible refine HV.out.mono ?_); rintro e w1 ⟨rfl, hW⟩; rw [hW]; clear hW)
                go_roundw
                case rel => exact ⟨16 * N + d, I + 1, by simp, by simp, by omega, by omega, Lib.hid (by rw [hdrop.out]; exact hres2.out), trivial⟩
                case measure => simp [intOf]; omega
      · obtain rfl : I = n := by omega
        have hres2 : Hid (res = (0, 0, 7)) := Lib.hid (by
          rw [← hrel2.out, List.drop_of_length_le (by have := HL.out; omega), rloop])
        clear hrel2 hIn
        go_wp2
        go_ret3
        rw [hres2.out]
        exact ⟨rfl, rfl⟩
end Go.Proofs.YtfchkaoifbcgkaaDoor
