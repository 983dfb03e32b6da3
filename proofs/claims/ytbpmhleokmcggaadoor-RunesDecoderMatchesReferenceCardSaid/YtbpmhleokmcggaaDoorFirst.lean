/-
  Contract of the reference's First of layer 6.
-/
import Derived.Test.YtbpmhleokmcggaaDoorTab6
import Derived.LoopTactic
import Derived.WalkMore
namespace Go.Proofs.YtbpmhleokmcggaaDoor
open Go.RowKit Go.BigFrame
set_option linter.unusedVariables false
set_option linter.unusedSimpArgs false

/-- The bytes behind the first, k of them still to be looked at. -/
def tailF (l : List UInt8) : Nat → Nat → Nat → Nat → Nat × Bool
  | 0, i, _, _ => (i, false)
  | k + 1, i, lo, hi => if l.length ≤ i then (0, true) else if bt l i < lo ∨ hi < bt l i then (0, false) else tailF l k (i + 1) 128 191
theorem firstC_tail {l : List UInt8} {z lo hi : Nat} (k2 : 2 ≤ z) (k4 : z ≤ 4) : firstC l.length (bt l 1) (bt l 2) (bt l 3) z lo hi = tailF l (z - 1) 1 lo hi := by
  have : z = 2 ∨ z = 3 ∨ z = 4 := by omega
  rcases this with rfl | rfl | rfl <;> simp [firstC, tailF]
theorem fst_tail {s : ByteArray} (h0 : s.size ≠ 0) {z lo hi : Nat} (hz : szT (bt s.data.toList 0) = z) (hlo : loT (bt s.data.toList 0) = lo) (hhi : hiT (bt s.data.toList 0) = hi) (hb : 128 ≤ bt s.data.toList 0) (k2 : 2 ≤ z) (k4 : z ≤ 4) :
    fst s.data.toList = tailF s.data.toList (z - 1) 1 lo hi := by
  rw [fst_str h0]
  unfold firstN
  rw [if_neg (by omega), if_neg (by omega), hz, hlo, hhi, ← firstC_tail k2 k4]
  rfl
theorem fst_ascii' {l : List UInt8} (hl : l ≠ []) (h : bt l 0 < 128) : fst l = (1, false) := by
  unfold fst firstN
  rw [if_neg hl, if_pos h]
def FR (s : ByteArray) (z : Nat) (F : Nat × Bool) (v6 v7 v8 : Value) : Prop := ∃ i lo hi : Nat, 1 ≤ i ∧ i ≤ z ∧ v6 = .int .u8 lo ∧ v7 = .int .u8 hi ∧ v8 = .int .i64 i ∧ Hid (tailF s.data.toList (z - i) i lo hi = F)

set_option maxRecDepth 100000 in
set_option maxHeartbeats 4000000 in
theorem first_c {w : World} (s : ByteArray) :
    Calls Tryd.prog 23 #[.string s] w fun e w' => e = .returned (.tuple #[.int .i64 (fst s.data.toList).1, .bool (fst s.data.toList).2]) ∧ w' = w := by
  by_cases h0 : s.size = 0
  · have hr : fst s.data.toList = (0, false) := by rw [sl_nil h0]; rfl
    obtain rfl : s = ⟨#[]⟩ := by apply ByteArray.ext; exact Array.eq_empty_of_size_eq_zero h0
    rw [hr]
    go_enter Tryd.func23, Tryd.ntmps23
    go_wp2
    go_ret2
    exact ⟨rfl, rfl⟩
  have hpos : 0 < s.size := by omega
  have hz1 : (0 : Int) < (s.size : Int) := by omega
  have hsne : s.toList.isEmpty = false := by
    rw [ByteArray.toList_eq]
    cases h : s.data.toList with
    | nil => exact absurd h (sl_ne h0)
    | cons _ _ => rfl
  have hs0 : (s[0]'hpos).toNat = bt s.data.toList 0 := sl_at s 0 hpos
  have l0 := bt_lt s.data.toList 0
  have htail := @fst_tail s h0
  have hf0 : bt s.data.toList 0 < 128 → fst s.data.toList = (1, false) := fst_ascii' (sl_ne h0)
  have hfi : (128 ≤ bt s.data.toList 0 ∧ szT (bt s.data.toList 0) = 0) → fst s.data.toList = (0, false) := fun h => by
    rw [fst_str h0]
    unfold firstN
    rw [if_neg (by omega), if_pos h.2]
  generalize fst s.data.toList = F at *
  obtain ⟨F1, F2⟩ := F
  generalize bt s.data.toList 0 = b0 at *
  by_cases ha : b0 < 128
  · have h := hf0 ha
    simp only [Prod.mk.injEq] at h
    obtain ⟨rfl, rfl⟩ := h
    have hai : (b0 : Int) < 128 := by omega
    clear htail hf0 hfi
    go_enter Tryd.func23, Tryd.ntmps23
    go_wp2
    go_ret2
    exact ⟨rfl, rfl⟩
  have hai : ¬ ((b0 : Int) < 128) := by omega
  by_cases hb1 : b0 < 194
  · have h := hfi ⟨by omega, szT0 (by omega)⟩
    simp only [Prod.mk.injEq] at h
    obtain ⟨rfl, rfl⟩ := h
    have n1 : ¬ (194 ≤ (b0 : Int)) := by omega
    have n2 : ¬ (224 ≤ (b0 : Int)) := by omega
    have n3 : ¬ (240 ≤ (b0 : Int)) := by omega
    clear htail hf0 hfi
    go_enter Tryd.func23, Tryd.ntmps23
    go_wp2
    go_ret2
    exact ⟨rfl, rfl⟩
  have n1 : 194 ≤ (b0 : Int) := by omega
  by_cases hb2 : 244 < b0
  · have h := hfi ⟨by omega, szT0 (by omega)⟩
    simp only [Prod.mk.injEq] at h
    obtain ⟨rfl, rfl⟩ := h
    have m1 : ¬ ((b0 : Int) ≤ 223) := by omega
    have n2 : 224 ≤ (b0 : Int) := by omega
    have m2 : ¬ ((b0 : Int) ≤ 239) := by omega
    have n3 : 240 ≤ (b0 : Int) := by omega
    have m3 : ¬ ((b0 : Int) ≤ 244) := by omega
    clear htail hf0 hfi
    go_enter Tryd.func23, Tryd.ntmps23
    go_wp2
    go_ret2
    exact ⟨rfl, rfl⟩
  clear hf0 hfi
  by_cases hb3 : b0 < 224
  · have HF := Lib.hid (htail (szT2 (by omega)) (loT1 (by omega) (by omega)) (hiT1 (by omega) (by omega)) (by omega) (by omega) (by omega)).symm
    have m1 : (b0 : Int) ≤ 223 := by omega
    have q1 : ¬ ((b0 : Int) = 224) := by omega
    have q2 : ¬ ((b0 : Int) = 237) := by omega
    have q3 : ¬ ((b0 : Int) = 240) := by omega
    have q4 : ¬ ((b0 : Int) = 244) := by omega
    clear htail
    go_enter Tryd.func23, Tryd.ntmps23
    go_wp2
    go_loopw [6, 7, 8] (fun v6 v7 v8 w' => FR s 2 (F1, F2) v6 v7 v8 ∧ w' = w) (fun v6 v7 v8 _ => 5 - (intOf v8).toNat)
    case atStart => exact ⟨⟨1, _, _, by omega, by omega, rfl, rfl, rfl, HF⟩, rfl⟩
    case round =>
      obtain ⟨⟨i, lo, hi, h1, hz, rfl, rfl, rfl, hF⟩, rfl⟩ := hrel
      by_cases hi2 : i < 2
      · have hii : (i : Int) < 2 := by omega
        obtain ⟨k, hk⟩ : ∃ k, 2 - i = k + 1 := ⟨2 - i - 1, by omega⟩
        rw [hk] at hF
        have hF0 := hF.out
        unfold tailF at hF0
        by_cases hsz : s.size ≤ i
        · have hszi : (s.size : Int) ≤ (i : Int) := by omega
          rw [if_pos (show s.data.toList.length ≤ i from hsz)] at hF0
          have HF0 := Lib.hid hF0
          clear hF0 hF HF
          go_wp2
          go_ret2
          refine ⟨?_, rfl⟩
          have := HF0.out
          simp only [Prod.mk.injEq] at this
          rw [← this.1, ← this.2]
          rfl
        · have hszi : ¬ ((s.size : Int) ≤ (i : Int)) := by omega
          have hszn : (i : Int) < (s.size : Int) := by omega
          have hsl : i < s.size := by omega
          have e0 : (s[i]'hsl).toNat = bt s.data.toList i := sl_at s i hsl
          have hix := fun W => run_index_str s i hsl W
          rw [e0] at hix
          rw [if_neg (show ¬ s.data.toList.length ≤ i from hsz)] at hF0
          by_cases hlo : bt s.data.toList i < lo
          · rw [if_pos (Or.inl hlo)] at hF0
            have HF0 := Lib.hid hF0
            have hloi : ((bt s.data.toList i : Nat) : Int) < (lo : Int) := by omega
            generalize bt s.data.toList i = b at *
            clear hF0 hF HF
            go_wp2
            go_ret2
            refine ⟨?_, rfl⟩
            have := HF0.out
            simp only [Prod.mk.injEq] at this
            rw [← this.1, ← this.2]
            rfl
          · have hloi : ¬ (((bt s.data.toList i : Nat) : Int) < (lo : Int)) := by omega
            by_cases hhi : hi < bt s.data.toList i
            · rw [if_pos (Or.inr hhi)] at hF0
              have HF0 := Lib.hid hF0
              have hhii : (hi : Int) < ((bt s.data.toList i : Nat) : Int) := by omega
              generalize bt s.data.toList i = b at *
              clear hF0 hF HF
              go_wp2
              go_ret2
              refine ⟨?_, rfl⟩
              have := HF0.out
              simp only [Prod.mk.injEq] at this
              rw [← this.1, ← this.2]
              rfl
            · rw [if_neg (by omega)] at hF0
              have HF0 := Lib.hid hF0
              have hhii : ¬ ((hi : Int) < ((bt s.data.toList i : Nat) : Int)) := by omega
              generalize bt s.data.toList i = b at *
              clear hF0 hF HF
              go_wp2
              go_roundw
              case rel => exact ⟨⟨i + 1, 128, 191, by omega, by omega, rfl, rfl, by go_num, by rw [show 2 - (i + 1) = k by omega]; exact HF0⟩, trivial⟩
              case measure => simp [intOf]; omega
      · obtain rfl : i = 2 := by omega
        have HF0 := hF
        clear hF HF
        go_wp2
        go_ret2
        refine ⟨?_, rfl⟩
        have := HF0.out
        simp only [Nat.sub_self, tailF, Prod.mk.injEq] at this
        rw [← this.1, ← this.2]
        rfl
  have m1 : ¬ ((b0 : Int) ≤ 223) := by omega
  have n2 : 224 ≤ (b0 : Int) := by omega
  by_cases hb4 : b0 < 240
  · have m2 : (b0 : Int) ≤ 239 := by omega
    have q3 : ¬ ((b0 : Int) = 240) := by omega
    have q4 : ¬ ((b0 : Int) = 244) := by omega
    by_cases hq1 : b0 = 224
    · have HF := Lib.hid (htail (szT3 (by omega)) (show loT b0 = 160 by rw [hq1]; rfl) (hiT1 (by omega) (by omega)) (by omega) (by omega) (by omega)).symm
      have q1 : (b0 : Int) = 224 := by omega
      have q2 : ¬ ((b0 : Int) = 237) := by omega
      clear htail q1 q2 q3 q4 m2 n2 m1 n1 hb4 hb3 hb2 hb1 hai ha l0
      subst hq1
      go_enter Tryd.func23, Tryd.ntmps23
      go_wp2
      go_loopw [6, 7, 8] (fun v6 v7 v8 w' => FR s 3 (F1, F2) v6 v7 v8 ∧ w' = w) (fun v6 v7 v8 _ => 5 - (intOf v8).toNat)
      case atStart => exact ⟨⟨1, _, _, by omega, by omega, rfl, rfl, rfl, HF⟩, rfl⟩
      case round =>
        obtain ⟨⟨i, lo, hi, h1, hz, rfl, rfl, rfl, hF⟩, rfl⟩ := hrel
        by_cases hi2 : i < 3
        · have hii : (i : Int) < 3 := by omega
          obtain ⟨k, hk⟩ : ∃ k, 3 - i = k + 1 := ⟨3 - i - 1, by omega⟩
          rw [hk] at hF
          have hF0 := hF.out
          unfold tailF at hF0
          by_cases hsz : s.size ≤ i
          · have hszi : (s.size : Int) ≤ (i : Int) := by omega
            rw [if_pos (show s.data.toList.length ≤ i from hsz)] at hF0
            have HF0 := Lib.hid hF0
            clear hF0 hF HF
            go_wp2
            go_ret2
            refine ⟨?_, rfl⟩
            have := HF0.out
            simp only [Prod.mk.injEq] at this
            rw [← this.1, ← this.2]
            rfl
          · have hszi : ¬ ((s.size : Int) ≤ (i : Int)) := by omega
            have hszn : (i : Int) < (s.size : Int) := by omega
            have hsl : i < s.size := by omega
            have e0 : (s[i]'hsl).toNat = bt s.data.toList i := sl_at s i hsl
            have hix := fun W => run_index_str s i hsl W
            rw [e0] at hix
            rw [if_neg (show ¬ s.data.toList.length ≤ i from hsz)] at hF0
            by_cases hlo : bt s.data.toList i < lo
            · rw [if_pos (Or.inl hlo)] at hF0
              have HF0 := Lib.hid hF0
              have hloi : ((bt s.data.toList i : Nat) : Int) < (lo : Int) := by omega
              generalize bt s.data.toList i = b at *
              clear hF0 hF HF
              go_wp2
              go_ret2
              refine ⟨?_, rfl⟩
              have := HF0.out
              simp only [Prod.mk.injEq] at this
              rw [← this.1, ← this.2]
              rfl
            · have hloi : ¬ (((bt s.data.toList i : Nat) : Int) < (lo : Int)) := by omega
              by_cases hhi : hi < bt s.data.toList i
              · rw [if_pos (Or.inr hhi)] at hF0
                have HF0 := Lib.hid hF0
                have hhii : (hi : Int) < ((bt s.data.toList i : Nat) : Int) := by omega
                generalize bt s.data.toList i = b at *
                clear hF0 hF HF
                go_wp2
                go_ret2
                refine ⟨?_, rfl⟩
                have := HF0.out
                simp only [Prod.mk.injEq] at this
                rw [← this.1, ← this.2]
                rfl
              · rw [if_neg (by omega)] at hF0
                have HF0 := Lib.hid hF0
                have hhii : ¬ ((hi : Int) < ((bt s.data.toList i : Nat) : Int)) := by omega
                generalize bt s.data.toList i = b at *
                clear hF0 hF HF
                go_wp2
                go_roundw
                case rel => exact ⟨⟨i + 1, 128, 191, by omega, by omega, rfl, rfl, by go_num, by rw [show 3 - (i + 1) = k by omega]; exact HF0⟩, trivial⟩
                case measure => simp [intOf]; omega
        · obtain rfl : i = 3 := by omega
          have HF0 := hF
          clear hF HF
          go_wp2
          go_ret2
          refine ⟨?_, rfl⟩
          have := HF0.out
          simp only [Nat.sub_self, tailF, Prod.mk.injEq] at this
          rw [← this.1, ← this.2]
          rfl
    have q1 : ¬ ((b0 : Int) = 224) := by omega
    by_cases hq2 : b0 = 237
    · have HF := Lib.hid (htail (szT3 (by omega)) (loT1 (by omega) (by omega)) (show hiT b0 = 159 by rw [hq2]; rfl) (by omega) (by omega) (by omega)).symm
      clear htail q1 q3 q4 m2 n2 m1 n1 hb4 hb3 hb2 hb1 hai ha l0 hq1
      subst hq2
      go_enter Tryd.func23, Tryd.ntmps23
      go_wp2
      go_loopw [6, 7, 8] (fun v6 v7 v8 w' => FR s 3 (F1, F2) v6 v7 v8 ∧ w' = w) (fun v6 v7 v8 _ => 5 - (intOf v8).toNat)
      case atStart => exact ⟨⟨1, _, _, by omega, by omega, rfl, rfl, rfl, HF⟩, rfl⟩
      case round =>
        obtain ⟨⟨i, lo, hi, h1, hz, rfl, rfl, rfl, hF⟩, rfl⟩ := hrel
        by_cases hi2 : i < 3
        · have hii : (i : Int) < 3 := by omega
          obtain ⟨k, hk⟩ : ∃ k, 3 - i = k + 1 := ⟨3 - i - 1, by omega⟩
          rw [hk] at hF
          have hF0 := hF.out
          unfold tailF at hF0
          by_cases hsz : s.size ≤ i
          · have hszi : (s.size : Int) ≤ (i : Int) := by omega
            rw [if_pos (show s.data.toList.length ≤ i from hsz)] at hF0
            have HF0 := Lib.hid hF0
            clear hF0 hF HF
            go_wp2
            go_ret2
            refine ⟨?_, rfl⟩
            have := HF0.out
            simp only [Prod.mk.injEq] at this
            rw [← this.1, ← this.2]
            rfl
          · have hszi : ¬ ((s.size : Int) ≤ (i : Int)) := by omega
            have hszn : (i : Int) < (s.size : Int) := by omega
            have hsl : i < s.size := by omega
            have e0 : (s[i]'hsl).toNat = bt s.data.toList i := sl_at s i hsl
            have hix := fun W => run_index_str s i hsl W
            rw [e0] at hix
            rw [if_neg (show ¬ s.data.toList.length ≤ i from hsz)] at hF0
            by_cases hlo : bt s.data.toList i < lo
            · rw [if_pos (Or.inl hlo)] at hF0
              have HF0 := Lib.hid hF0
              have hloi : ((bt s.data.toList i : Nat) : Int) < (lo : Int) := by omega
              generalize bt s.data.toList i = b at *
              clear hF0 hF HF
              go_wp2
              go_ret2
              refine ⟨?_, rfl⟩
              have := HF0.out
              simp only [Prod.mk.injEq] at this
              rw [← this.1, ← this.2]
              rfl
            · have hloi : ¬ (((bt s.data.toList i : Nat) : Int) < (lo : Int)) := by omega
              by_cases hhi : hi < bt s.data.toList i
              · rw [if_pos (Or.inr hhi)] at hF0
                have HF0 := Lib.hid hF0
                have hhii : (hi : Int) < ((bt s.data.toList i : Nat) : Int) := by omega
                generalize bt s.data.toList i = b at *
                clear hF0 hF HF
                go_wp2
                go_ret2
                refine ⟨?_, rfl⟩
                have := HF0.out
                simp only [Prod.mk.injEq] at this
                rw [← this.1, ← this.2]
                rfl
              · rw [if_neg (by omega)] at hF0
                have HF0 := Lib.hid hF0
                have hhii : ¬ ((hi : Int) < ((bt s.data.toList i : Nat) : Int)) := by omega
                generalize bt s.data.toList i = b at *
                clear hF0 hF HF
                go_wp2
                go_roundw
                case rel => exact ⟨⟨i + 1, 128, 191, by omega, by omega, rfl, rfl, by go_num, by rw [show 3 - (i + 1) = k by omega]; exact HF0⟩, trivial⟩
                case measure => simp [intOf]; omega
        · obtain rfl : i = 3 := by omega
          have HF0 := hF
          clear hF HF
          go_wp2
          go_ret2
          refine ⟨?_, rfl⟩
          have := HF0.out
          simp only [Nat.sub_self, tailF, Prod.mk.injEq] at this
          rw [← this.1, ← this.2]
          rfl
    have q2 : ¬ ((b0 : Int) = 237) := by omega
    have HF := Lib.hid (htail (szT3 (by omega)) (loT1 (by omega) (by omega)) (hiT1 (by omega) (by omega)) (by omega) (by omega) (by omega)).symm
    clear htail
    go_enter Tryd.func23, Tryd.ntmps23
    go_wp2
    go_loopw [6, 7, 8] (fun v6 v7 v8 w' => FR s 3 (F1, F2) v6 v7 v8 ∧ w' = w) (fun v6 v7 v8 _ => 5 - (intOf v8).toNat)
    case atStart => exact ⟨⟨1, _, _, by omega, by omega, rfl, rfl, rfl, HF⟩, rfl⟩
    case round =>
      obtain ⟨⟨i, lo, hi, h1, hz, rfl, rfl, rfl, hF⟩, rfl⟩ := hrel
      by_cases hi2 : i < 3
      · have hii : (i : Int) < 3 := by omega
        obtain ⟨k, hk⟩ : ∃ k, 3 - i = k + 1 := ⟨3 - i - 1, by omega⟩
        rw [hk] at hF
        have hF0 := hF.out
        unfold tailF at hF0
        by_cases hsz : s.size ≤ i
        · have hszi : (s.size : Int) ≤ (i : Int) := by omega
          rw [if_pos (show s.data.toList.length ≤ i from hsz)] at hF0
          have HF0 := Lib.hid hF0
          clear hF0 hF HF
          go_wp2
          go_ret2
          refine ⟨?_, rfl⟩
          have := HF0.out
          simp only [Prod.mk.injEq] at this
          rw [← this.1, ← this.2]
          rfl
        · have hszi : ¬ ((s.size : Int) ≤ (i : Int)) := by omega
          have hszn : (i : Int) < (s.size : Int) := by omega
          have hsl : i < s.size := by omega
          have e0 : (s[i]'hsl).toNat = bt s.data.toList i := sl_at s i hsl
          have hix := fun W => run_index_str s i hsl W
          rw [e0] at hix
          rw [if_neg (show ¬ s.data.toList.length ≤ i from hsz)] at hF0
          by_cases hlo : bt s.data.toList i < lo
          · rw [if_pos (Or.inl hlo)] at hF0
            have HF0 := Lib.hid hF0
            have hloi : ((bt s.data.toList i : Nat) : Int) < (lo : Int) := by omega
            generalize bt s.data.toList i = b at *
            clear hF0 hF HF
            go_wp2
            go_ret2
            refine ⟨?_, rfl⟩
            have := HF0.out
            simp only [Prod.mk.injEq] at this
            rw [← this.1, ← this.2]
            rfl
          · have hloi : ¬ (((bt s.data.toList i : Nat) : Int) < (lo : Int)) := by omega
            by_cases hhi : hi < bt s.data.toList i
            · rw [if_pos (Or.inr hhi)] at hF0
              have HF0 := Lib.hid hF0
              have hhii : (hi : Int) < ((bt s.data.toList i : Nat) : Int) := by omega
              generalize bt s.data.toList i = b at *
              clear hF0 hF HF
              go_wp2
              go_ret2
              refine ⟨?_, rfl⟩
              have := HF0.out
              simp only [Prod.mk.injEq] at this
              rw [← this.1, ← this.2]
              rfl
            · rw [if_neg (by omega)] at hF0
              have HF0 := Lib.hid hF0
              have hhii : ¬ ((hi : Int) < ((bt s.data.toList i : Nat) : Int)) := by omega
              generalize bt s.data.toList i = b at *
              clear hF0 hF HF
              go_wp2
              go_roundw
              case rel => exact ⟨⟨i + 1, 128, 191, by omega, by omega, rfl, rfl, by go_num, by rw [show 3 - (i + 1) = k by omega]; exact HF0⟩, trivial⟩
              case measure => simp [intOf]; omega
      · obtain rfl : i = 3 := by omega
        have HF0 := hF
        clear hF HF
        go_wp2
        go_ret2
        refine ⟨?_, rfl⟩
        have := HF0.out
        simp only [Nat.sub_self, tailF, Prod.mk.injEq] at this
        rw [← this.1, ← this.2]
        rfl
  have m2 : ¬ ((b0 : Int) ≤ 239) := by omega
  have n3 : 240 ≤ (b0 : Int) := by omega
  have m3 : (b0 : Int) ≤ 244 := by omega
  have q1 : ¬ ((b0 : Int) = 224) := by omega
  have q2 : ¬ ((b0 : Int) = 237) := by omega
  by_cases hq3 : b0 = 240
  · have HF := Lib.hid (htail (szT4 (by omega)) (show loT b0 = 144 by rw [hq3]; rfl) (hiT1 (by omega) (by omega)) (by omega) (by omega) (by omega)).symm
    clear htail q1 q2 m1 m2 m3 n1 n2 n3 hb4 hb3 hb2 hb1 hai ha l0
    subst hq3
    go_enter Tryd.func23, Tryd.ntmps23
    go_wp2
    go_loopw [6, 7, 8] (fun v6 v7 v8 w' => FR s 4 (F1, F2) v6 v7 v8 ∧ w' = w) (fun v6 v7 v8 _ => 5 - (intOf v8).toNat)
    case atStart => exact ⟨⟨1, _, _, by omega, by omega, rfl, rfl, rfl, HF⟩, rfl⟩
    case round =>
      obtain ⟨⟨i, lo, hi, h1, hz, rfl, rfl, rfl, hF⟩, rfl⟩ := hrel
      by_cases hi2 : i < 4
      · have hii : (i : Int) < 4 := by omega
        obtain ⟨k, hk⟩ : ∃ k, 4 - i = k + 1 := ⟨4 - i - 1, by omega⟩
        rw [hk] at hF
        have hF0 := hF.out
        unfold tailF at hF0
        by_cases hsz : s.size ≤ i
        · have hszi : (s.size : Int) ≤ (i : Int) := by omega
          rw [if_pos (show s.data.toList.length ≤ i from hsz)] at hF0
          have HF0 := Lib.hid hF0
          clear hF0 hF HF
          go_wp2
          go_ret2
          refine ⟨?_, rfl⟩
          have := HF0.out
          simp only [Prod.mk.injEq] at this
          rw [← this.1, ← this.2]
          rfl
        · have hszi : ¬ ((s.size : Int) ≤ (i : Int)) := by omega
          have hszn : (i : Int) < (s.size : Int) := by omega
          have hsl : i < s.size := by omega
          have e0 : (s[i]'hsl).toNat = bt s.data.toList i := sl_at s i hsl
          have hix := fun W => run_index_str s i hsl W
          rw [e0] at hix
          rw [if_neg (show ¬ s.data.toList.length ≤ i from hsz)] at hF0
          by_cases hlo : bt s.data.toList i < lo
          · rw [if_pos (Or.inl hlo)] at hF0
            have HF0 := Lib.hid hF0
            have hloi : ((bt s.data.toList i : Nat) : Int) < (lo : Int) := by omega
            generalize bt s.data.toList i = b at *
            clear hF0 hF HF
            go_wp2
            go_ret2
            refine ⟨?_, rfl⟩
            have := HF0.out
            simp only [Prod.mk.injEq] at this
            rw [← this.1, ← this.2]
            rfl
          · have hloi : ¬ (((bt s.data.toList i : Nat) : Int) < (lo : Int)) := by omega
            by_cases hhi : hi < bt s.data.toList i
            · rw [if_pos (Or.inr hhi)] at hF0
              have HF0 := Lib.hid hF0
              have hhii : (hi : Int) < ((bt s.data.toList i : Nat) : Int) := by omega
              generalize bt s.data.toList i = b at *
              clear hF0 hF HF
              go_wp2
              go_ret2
              refine ⟨?_, rfl⟩
              have := HF0.out
              simp only [Prod.mk.injEq] at this
              rw [← this.1, ← this.2]
              rfl
            · rw [if_neg (by omega)] at hF0
              have HF0 := Lib.hid hF0
              have hhii : ¬ ((hi : Int) < ((bt s.data.toList i : Nat) : Int)) := by omega
              generalize bt s.data.toList i = b at *
              clear hF0 hF HF
              go_wp2
              go_roundw
              case rel => exact ⟨⟨i + 1, 128, 191, by omega, by omega, rfl, rfl, by go_num, by rw [show 4 - (i + 1) = k by omega]; exact HF0⟩, trivial⟩
              case measure => simp [intOf]; omega
      · obtain rfl : i = 4 := by omega
        have HF0 := hF
        clear hF HF
        go_wp2
        go_ret2
        refine ⟨?_, rfl⟩
        have := HF0.out
        simp only [Nat.sub_self, tailF, Prod.mk.injEq] at this
        rw [← this.1, ← this.2]
        rfl
  have q3 : ¬ ((b0 : Int) = 240) := by omega
  by_cases hq4 : b0 = 244
  · have HF := Lib.hid (htail (szT4 (by omega)) (loT1 (by omega) (by omega)) (show hiT b0 = 143 by rw [hq4]; rfl) (by omega) (by omega) (by omega)).symm
    clear htail q1 q2 q3 m1 m2 m3 n1 n2 n3 hb4 hb3 hb2 hb1 hai ha l0 hq3
    subst hq4
    go_enter Tryd.func23, Tryd.ntmps23
    go_wp2
    go_loopw [6, 7, 8] (fun v6 v7 v8 w' => FR s 4 (F1, F2) v6 v7 v8 ∧ w' = w) (fun v6 v7 v8 _ => 5 - (intOf v8).toNat)
    case atStart => exact ⟨⟨1, _, _, by omega, by omega, rfl, rfl, rfl, HF⟩, rfl⟩
    case round =>
      obtain ⟨⟨i, lo, hi, h1, hz, rfl, rfl, rfl, hF⟩, rfl⟩ := hrel
      by_cases hi2 : i < 4
      · have hii : (i : Int) < 4 := by omega
        obtain ⟨k, hk⟩ : ∃ k, 4 - i = k + 1 := ⟨4 - i - 1, by omega⟩
        rw [hk] at hF
        have hF0 := hF.out
        unfold tailF at hF0
        by_cases hsz : s.size ≤ i
        · have hszi : (s.size : Int) ≤ (i : Int) := by omega
          rw [if_pos (show s.data.toList.length ≤ i from hsz)] at hF0
          have HF0 := Lib.hid hF0
          clear hF0 hF HF
          go_wp2
          go_ret2
          refine ⟨?_, rfl⟩
          have := HF0.out
          simp only [Prod.mk.injEq] at this
          rw [← this.1, ← this.2]
          rfl
        · have hszi : ¬ ((s.size : Int) ≤ (i : Int)) := by omega
          have hszn : (i : Int) < (s.size : Int) := by omega
          have hsl : i < s.size := by omega
          have e0 : (s[i]'hsl).toNat = bt s.data.toList i := sl_at s i hsl
          have hix := fun W => run_index_str s i hsl W
          rw [e0] at hix
          rw [if_neg (show ¬ s.data.toList.length ≤ i from hsz)] at hF0
          by_cases hlo : bt s.data.toList i < lo
          · rw [if_pos (Or.inl hlo)] at hF0
            have HF0 := Lib.hid hF0
            have hloi : ((bt s.data.toList i : Nat) : Int) < (lo : Int) := by omega
            generalize bt s.data.toList i = b at *
            clear hF0 hF HF
            go_wp2
            go_ret2
            refine ⟨?_, rfl⟩
            have := HF0.out
            simp only [Prod.mk.injEq] at this
            rw [← this.1, ← this.2]
            rfl
          · have hloi : ¬ (((bt s.data.toList i : Nat) : Int) < (lo : Int)) := by omega
            by_cases hhi : hi < bt s.data.toList i
            · rw [if_pos (Or.inr hhi)] at hF0
              have HF0 := Lib.hid hF0
              have hhii : (hi : Int) < ((bt s.data.toList i : Nat) : Int) := by omega
              generalize bt s.data.toList i = b at *
              clear hF0 hF HF
              go_wp2
              go_ret2
              refine ⟨?_, rfl⟩
              have := HF0.out
              simp only [Prod.mk.injEq] at this
              rw [← this.1, ← this.2]
              rfl
            · rw [if_neg (by omega)] at hF0
              have HF0 := Lib.hid hF0
              have hhii : ¬ ((hi : Int) < ((bt s.data.toList i : Nat) : Int)) := by omega
              generalize bt s.data.toList i = b at *
              clear hF0 hF HF
              go_wp2
              go_roundw
              case rel => exact ⟨⟨i + 1, 128, 191, by omega, by omega, rfl, rfl, by go_num, by rw [show 4 - (i + 1) = k by omega]; exact HF0⟩, trivial⟩
              case measure => simp [intOf]; omega
      · obtain rfl : i = 4 := by omega
        have HF0 := hF
        clear hF HF
        go_wp2
        go_ret2
        refine ⟨?_, rfl⟩
        have := HF0.out
        simp only [Nat.sub_self, tailF, Prod.mk.injEq] at this
        rw [← this.1, ← this.2]
        rfl
  have q4 : ¬ ((b0 : Int) = 244) := by omega
  have HF := Lib.hid (htail (szT4 (by omega)) (loT1 (by omega) (by omega)) (hiT1 (by omega) (by omega)) (by omega) (by omega) (by omega)).symm
  clear htail
  go_enter Tryd.func23, Tryd.ntmps23
  go_wp2
  go_loopw [6, 7, 8] (fun v6 v7 v8 w' => FR s 4 (F1, F2) v6 v7 v8 ∧ w' = w) (fun v6 v7 v8 _ => 5 - (intOf v8).toNat)
  case atStart => exact ⟨⟨1, _, _, by omega, by omega, rfl, rfl, rfl, HF⟩, rfl⟩
  case round =>
    obtain ⟨⟨i, lo, hi, h1, hz, rfl, rfl, rfl, hF⟩, rfl⟩ := hrel
    by_cases hi2 : i < 4
    · have hii : (i : Int) < 4 := by omega
      obtain ⟨k, hk⟩ : ∃ k, 4 - i = k + 1 := ⟨4 - i - 1, by omega⟩
      rw [hk] at hF
      have hF0 := hF.out
      unfold tailF at hF0
      by_cases hsz : s.size ≤ i
      · have hszi : (s.size : Int) ≤ (i : Int) := by omega
        rw [if_pos (show s.data.toList.length ≤ i from hsz)] at hF0
        have HF0 := Lib.hid hF0
        clear hF0 hF HF
        go_wp2
        go_ret2
        refine ⟨?_, rfl⟩
        have := HF0.out
        simp only [Prod.mk.injEq] at this
        rw [← this.1, ← this.2]
        rfl
      · have hszi : ¬ ((s.size : Int) ≤ (i : Int)) := by omega
        have hszn : (i : Int) < (s.size : Int) := by omega
        have hsl : i < s.size := by omega
        have e0 : (s[i]'hsl).toNat = bt s.data.toList i := sl_at s i hsl
        have hix := fun W => run_index_str s i hsl W
        rw [e0] at hix
        rw [if_neg (show ¬ s.data.toList.length ≤ i from hsz)] at hF0
        by_cases hlo : bt s.data.toList i < lo
        · rw [if_pos (Or.inl hlo)] at hF0
          have HF0 := Lib.hid hF0
          have hloi : ((bt s.data.toList i : Nat) : Int) < (lo : Int) := by omega
          generalize bt s.data.toList i = b at *
          clear hF0 hF HF
          go_wp2
          go_ret2
          refine ⟨?_, rfl⟩
          have := HF0.out
          simp only [Prod.mk.injEq] at this
          rw [← this.1, ← this.2]
          rfl
        · have hloi : ¬ (((bt s.data.toList i : Nat) : Int) < (lo : Int)) := by omega
          by_cases hhi : hi < bt s.data.toList i
          · rw [if_pos (Or.inr hhi)] at hF0
            have HF0 := Lib.hid hF0
            have hhii : (hi : Int) < ((bt s.data.toList i : Nat) : Int) := by omega
            generalize bt s.data.toList i = b at *
            clear hF0 hF HF
            go_wp2
            go_ret2
            refine ⟨?_, rfl⟩
            have := HF0.out
            simp only [Prod.mk.injEq] at this
            rw [← this.1, ← this.2]
            rfl
          · rw [if_neg (by omega)] at hF0
            have HF0 := Lib.hid hF0
            have hhii : ¬ ((hi : Int) < ((bt s.data.toList i : Nat) : Int)) := by omega
            generalize bt s.data.toList i = b at *
            clear hF0 hF HF
            go_wp2
            go_roundw
            case rel => exact ⟨⟨i + 1, 128, 191, by omega, by omega, rfl, rfl, by go_num, by rw [show 4 - (i + 1) = k by omega]; exact HF0⟩, trivial⟩
            case measure => simp [intOf]; omega
    · obtain rfl : i = 4 := by omega
      have HF0 := hF
      clear hF HF
      go_wp2
      go_ret2
      refine ⟨?_, rfl⟩
      have := HF0.out
      simp only [Nat.sub_self, tailF, Prod.mk.injEq] at this
      rw [← this.1, ← this.2]
      rfl
end Go.Proofs.YtbpmhleokmcggaaDoor
