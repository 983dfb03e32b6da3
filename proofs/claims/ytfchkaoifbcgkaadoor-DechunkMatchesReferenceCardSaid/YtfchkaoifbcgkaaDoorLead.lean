/-
  Contracts: hexline's closure, bytes.IndexFunc over it, hexline.leadingSize.
-/
import Derived.Test.YtfchkaoifbcgkaaDoorRune
import Derived.Test.YtfchkaoifbcgkaaDoorUtf8
import Derived.Test.YtfchkaoifbcgkaaDoorHex
import Derived.RegionTactic
import Derived.ChangeAlike
import Derived.Deep.QuietTactic
import Derived.BigQuiet
namespace Go.Proofs.YtfchkaoifbcgkaaDoor
open Go.RowKit Go.BigFrame
set_option linter.unusedVariables false
set_option linter.unusedSimpArgs false
attribute [local go_sem ↓] sliced_cut run_min2 run_max2
attribute [local go_sem] cutA_zero

/-! ### The closure -/
theorem ix_hv (x : UInt8) : ixOf x.toNat = match hv x with | some d => (d : Int) | none => -1 := by
  unfold ixOf hv
  by_cases h1 : 48 ≤ x.toNat ∧ x.toNat ≤ 57
  · rw [if_pos (by omega), if_pos h1]; simp only; omega
  · rw [if_neg (by omega), if_neg h1]
    by_cases h2 : 97 ≤ x.toNat ∧ x.toNat ≤ 102
    · rw [if_pos (by omega), if_pos h2]; simp only; omega
    · rw [if_neg (by omega), if_neg h2]
theorem ix_far {R : Nat} (h : 128 ≤ R) : ixOf R = -1 := by unfold ixOf; rw [if_neg (by omega), if_neg (by omega)]
set_option maxHeartbeats 800000 in
theorem closure_stop {w : World} {r : Int} (h : (0 ≤ r ∧ r < 55296) ∨ (57343 < r ∧ r ≤ 1114111)) (hi : ixOf r = -1) (p : Value) :
    Calls Tryd.prog 50 #[.int .i32 r, p] w fun e w' => e = .returned (.bool true) ∧ Only [] w w' := by
  have HC := Lib.hid (indexRune_c h w)
  rw [hi] at HC
  clear h hi
  go_enter Tryd.func50, Tryd.ntmps50
  go_wp2_with (go_at_call 51; refine HC.out.mono ?_; rintro e w' ⟨rfl, hO⟩)
  go_ret
  exact ⟨rfl, hO⟩
set_option maxHeartbeats 800000 in
theorem closure_on {w : World} {r : Int} (h : (0 ≤ r ∧ r < 55296) ∨ (57343 < r ∧ r ≤ 1114111)) {d : Nat} (hi : ixOf r = d) (hd : d < 16) {g s : Nat} (hg : Blk w g 3 [.int .i64 s]) (hs : s ≤ 65536) :
    Calls Tryd.prog 50 #[.int .i32 r, .pointer (some ⟨g, 0, none⟩)] w fun e w' => e = .returned (.bool (decide (65536 < s * 16 + d))) ∧ Blk w' g 3 [.int .i64 (s * 16 + d : Nat)] ∧ Only [g] w w' := by
  have HC := Lib.hid (indexRune_c h w)
  rw [hi] at HC
  have hd0 : ¬ (d : Int) < 0 := by omega
  clear h hi
  have HB := Lib.hid hg
  clear hg
  have hm : IntKind.i64.wrap ((s : Int) * 16) = ((s * 16 : Nat) : Int) := by rw [wrap_small _ (by omega) (by omega)]; omega
  have ha : IntKind.i64.wrap (((s * 16 : Nat) : Int) + (d : Int)) = ((s * 16 + d : Nat) : Int) := by rw [wrap_small _ (by omega) (by omega)]; omega
  go_enter Tryd.func50, Tryd.ntmps50
  go_wp2_with (go_at_call 51; refine HC.out.mono ?_; rintro e w1 ⟨rfl, hO⟩; have c1 := (HB.out.only hO (by simp)).cell 0; have f1 := (HB.out.only hO (by simp)).free 0; simp only [List.getElem?_cons_zero] at c1)
  go_ret
  refine ⟨?_, ?_, (hO.more (by simp)).setCell (.inl (by simp)) _⟩
  · refine congrArg Ending.returned (congrArg Value.bool ?_)
    rw [decide_eq_decide]
    omega
  · have := (HB.out.only hO (by simp)).set_ 0 (.int .i64 ((s * 16 + d : Nat) : Int))
    rw [show ((s * 16 + d : Nat) : Int) = (s : Int) * 16 + (d : Int) by omega] at this ⊢
    exact this
/-! ### bytes.IndexFunc over the closure -/
set_option maxHeartbeats 4000000 in
theorem indexFunc_c {w : World} (hT : Tabs w) {B n c : Nat} {A : Option Addr} {l : List UInt8} (hr : Reads w B A n (vbs l)) (hB : B ≤ w.heap.size) (hnc : n ≤ c) (hcm : c ≤ maxLen) {g : Nat} (hg : Blk w g 3 [.int .i64 0])
    (hgB : B ≤ g) (hgT : g ≠ 2 ∧ g ≠ 3 ∧ g ≠ 5) :
    Calls Tryd.prog 54 #[.slice A n c, .func (.func 50) #[] #[.pointer (some ⟨g, 0, none⟩)], .bool true] w fun e w' => (∃ i : Int, e = .returned (.int .i64 i)) ∧ Blk w' g 3 [.int .i64 (lead 0 l : Nat)] ∧ Only [g] w w' := by
  have hl : l.length = n := by have := hr.1; rwa [vbs_length] at this
  have HR := Lib.hid hr
  have HT := Lib.hid hT
  have HG := Lib.hid hg
  have HL := Lib.hid hl
  unfold maxLen at hcm
  have hci : (n : Int) ≤ (c : Int) := by omega
  have hcb : (c : Int) < 9223372036854775808 := by omega
  clear hr hT hg hl
  go_enter Tryd.func54, Tryd.ntmps54
  go_wp2
  go_loopw [7] (fun s7 w' => ∃ i s : Nat, s7 = .int .i64 i ∧ i ≤ n ∧ s ≤ 65536 ∧ Hid (lead s (l.drop i) = lead 0 l) ∧ Blk w' g 3 [.int .i64 s] ∧ Only [g] w w') (fun s7 _ => n - (intOf s7).toNat)
  case atStart => exact ⟨0, 0, rfl, by omega, by omega, Lib.hid rfl, HG.out, Only.refl _ _⟩
  case round =>
    obtain ⟨i, s, rfl, hi, hs, hlead, hblk, hO⟩ := hrel
    have HK := Lib.hid hblk
    have HO := Lib.hid hO
    clear hblk hO
    by_cases hin : i < n
    · have hin2 : (i : Int) < (n : Int) := by omega
      have hii : (i : Int) ≤ (n : Int) := by omega
      obtain ⟨x, r, hx⟩ : ∃ x r, l.drop i = x :: r := by
        cases h : l.drop i with
        | nil => have h2 := congrArg List.length h; simp at h2; have := HL.out; omega
        | cons x r => exact ⟨x, r, rfl⟩
      have hrd : Reads wr B (cutA c i 1 A) (n - i) (vbs (l.drop i)) := by
        have := (HR.out.only' HO.out hB (fun _ ad ha => by
          simp only [List.mem_singleton]
          obtain ⟨ad', e1, h2, _⟩ := HR.out.2 (by omega)
          rw [ha] at e1; injection e1 with e1; subst e1
          omega)).cut_ (k := i) (m := n) hi (Nat.le_refl _) hnc
        have e : (vbs l).drop i = vbs (l.drop i) := (vbs_drop _ _).symm
        rw [e, List.take_of_length_le (by rw [vbs_length, List.length_drop]; have := HL.out; omega)] at this
        exact this
      obtain ⟨R, K, hK, hval, hasc, hfar, hcall⟩ := decodeRune_c (HT.out.only' HO.out (by simpa using hgT)) hrd hx (c - i)
      have HC := Lib.hid hcall
      clear hcall
      have HX := Lib.hid hx
      clear hx hrd
      have hRv : (0 ≤ (R : Int) ∧ (R : Int) < 55296) ∨ (57343 < (R : Int) ∧ (R : Int) ≤ 1114111) := by omega
      have hO1 : ∀ w', Only [] wr w' → Only [g] w w' := fun w' h => HO.out.trans (h.more (by simp))
      have hB1 : ∀ w', Only [] wr w' → Blk w' g 3 [.int .i64 s] := fun w' h => HK.out.only h (by simp)
      have HO1 := Lib.hid hO1
      have HB1 := Lib.hid hB1
      clear hO1 hB1
      cases hh : hv x with
      | none =>
        have hix : ixOf (R : Int) = -1 := by
          by_cases ha : x.toNat < 128
          · rw [(hasc ha).1, ix_hv, hh]
          · exact ix_far (hfar (by omega))
        have HL2 : Hid (lead 0 l = s) := Lib.hid (by rw [← hlead.out, HX.out, lead_none hh])
        clear hasc hfar hval hh
        go_wp2_with (first | (go_at_call 63; refine HC.out.mono ?_; rintro e w1 ⟨rfl, hW1⟩) | (go_at_call 50; refine (closure_stop hRv hix _).mono ?_; rintro e w2 ⟨rfl, hW2⟩))
        go_ret
        refine ⟨⟨_, rfl⟩, ?_, HO1.out _ (hW1.trans hW2)⟩
        rw [HL2.out]
        exact HB1.out _ (hW1.trans hW2)
      | some d =>
        have ha : x.toNat < 128 := by
          unfold hv at hh
          split at hh
          · omega
          · split at hh
            · omega
            · cases hh
        obtain ⟨rfl, rfl⟩ := hasc ha
        have hix : ixOf ((x.toNat : Nat) : Int) = (d : Int) := by rw [ix_hv, hh]
        have hd := hv_lt hh
        have HH := Lib.hid hh
        clear hfar hval hh hasc
        generalize x.toNat = R at *
        have hii1 : IntKind.i64.wrap ((i : Int) + 1) = ((i + 1 : Nat) : Int) := by rw [wrap_small _ (by omega) (by omega)]; omega
        by_cases hbig : 65536 < s * 16 + d
        · have hdec : decide (65536 < s * 16 + d) = true := decide_eq_true hbig
          go_wp2_with (first | (go_at_call 63; refine HC.out.mono ?_; rintro e w1 ⟨rfl, hW1⟩) | (go_at_call 50; refine (closure_on hRv hix hd (HB1.out _ hW1) hs).mono ?_; rintro e w2 ⟨rfl, hb2, hW2⟩; rw [hdec]; have HB2 := Lib.hid hb2; clear hb2))
          go_ret
          refine ⟨⟨_, rfl⟩, ?_, (HO1.out _ hW1).trans hW2⟩
          rw [← hlead.out, HX.out, lead_far HH.out hbig]
          exact HB2.out
        · have hdec : decide (65536 < s * 16 + d) = false := decide_eq_false hbig
          go_wp2_with (first | (go_at_call 63; refine HC.out.mono ?_; rintro e w1 ⟨rfl, hW1⟩) | (go_at_call 50; refine (closure_on hRv hix hd (HB1.out _ hW1) hs).mono ?_; rintro e w2 ⟨rfl, hb2, hW2⟩; rw [hdec]; have HB2 := Lib.hid hb2; clear hb2))
          go_roundw
          case rel =>
            refine ⟨i + 1, s * 16 + d, ?_, by omega, by omega, Lib.hid ?_, HB2.out, (HO1.out _ hW1).trans hW2⟩
            · first | rfl | (simp)
            · rw [← hlead.out, HX.out, lead_some HH.out (by omega)]
              congr 1
              have h5 := congrArg (List.drop 1) HX.out
              simpa [List.drop_drop, Nat.add_comm] using h5
          case measure => simp [intOf]; omega
    · have hin2 : ¬ (i : Int) < (n : Int) := by omega
      have HL2 : Hid (lead 0 l = s) := Lib.hid (by
        rw [← hlead.out, List.drop_of_length_le (by have := HL.out; omega)]
        rfl)
      go_wp2
      go_ret
      refine ⟨⟨_, rfl⟩, ?_, HO.out⟩
      rw [HL2.out]
      exact HK.out
/-! ### bytes.IndexFunc, hexline.leadingSize -/
set_option maxHeartbeats 800000 in
theorem indexFunc1_c {w : World} (hT : Tabs w) {B n c : Nat} {A : Option Addr} {l : List UInt8} (hr : Reads w B A n (vbs l)) (hB : B ≤ w.heap.size) (hnc : n ≤ c) (hcm : c ≤ maxLen) {g : Nat} (hg : Blk w g 3 [.int .i64 0])
    (hgB : B ≤ g) (hgT : g ≠ 2 ∧ g ≠ 3 ∧ g ≠ 5) :
    Calls Tryd.prog 49 #[.slice A n c, .func (.func 50) #[] #[.pointer (some ⟨g, 0, none⟩)]] w fun e w' => (∃ i : Int, e = .returned (.int .i64 i)) ∧ Blk w' g 3 [.int .i64 (lead 0 l : Nat)] ∧ Only [g] w w' := by
  have HI := Lib.hid (indexFunc_c hT hr hB hnc hcm hg hgB hgT)
  clear hT hr hg
  go_enter Tryd.func49, Tryd.ntmps49
  go_wp2_with (go_at_call 54; refine HI.out.mono ?_; rintro e w1 ⟨⟨i, rfl⟩, hb, hO1⟩)
  go_ret
  exact ⟨⟨_, rfl⟩, hb, hO1⟩
set_option maxHeartbeats 800000 in
theorem leadingSize_c {w : World} (hT : Tabs w) {B n c : Nat} {A : Option Addr} {l : List UInt8} (hr : Reads w B A n (vbs l)) (hB : B ≤ w.heap.size) (hnc : n ≤ c) (hcm : c ≤ maxLen) :
    Calls Tryd.prog 46 #[.slice A n c] w fun e w' => e = .returned (.int .i64 (lead 0 l : Nat)) ∧ Only [] w w' := by
  have hw1 := (Only.refl [] w).alloc (.cells #[.int .i64 0] 3)
  have hlt := hT.lt
  have HT := Lib.hid (hT.only hw1)
  have HR := Lib.hid (hr.only' hw1 hB (by simp))
  have HG := Lib.hid (Blk.new w 3 [.int .i64 0])
  have HO := Lib.hid hw1
  have HB1 : Hid (B ≤ (w.alloc (.cells #[.int .i64 0] 3)).heap.size) := Lib.hid (by simp; omega)
  have hgT : w.heap.size ≠ 2 ∧ w.heap.size ≠ 3 ∧ w.heap.size ≠ 5 := by omega
  clear hT hr hw1 hlt
  have HI := Lib.hid (indexFunc1_c HT.out HR.out HB1.out hnc hcm HG.out hB hgT)
  go_enter Tryd.func46, Tryd.ntmps46
  go_wp2_with (go_at_call 49; refine HI.out.mono ?_; rintro e w1 ⟨⟨i, rfl⟩, hb, hO1⟩; have c1 := hb.cell 0; simp only [List.getElem?_cons_zero] at c1)
  go_ret
  refine ⟨rfl, HO.out.join hO1 (by simp)⟩
end Go.Proofs.YtfchkaoifbcgkaaDoor
