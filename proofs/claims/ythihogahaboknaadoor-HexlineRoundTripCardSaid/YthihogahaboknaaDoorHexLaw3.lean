/-
  The law HexlineRoundTrip, walked.
-/
import Derived.Test.YthihogahaboknaaDoorHexLaw2
namespace Go.Proofs.YthihogahaboknaaDoor
open Go.RowKit Go.BigFrame
set_option linter.unusedVariables false
set_option linter.unusedSimpArgs false
attribute [local go_sem ↓] sliced_cut run_min2 run_max2
attribute [local go_sem] cutA_zero

set_option maxHeartbeats 1000000 in
theorem roundTrip_out (n : Int) (A : Option Addr) (k c : Nat) (w : World) (hT : Tabs w) (h : n < 0 ∨ 65536 < n) :
    Calls Tryd.prog 5 #[.int .i64 n, .slice A k c] w fun e w' => e = .returned (.bool true) ∧ Below w.heap.size w w' := by
  have HT := Lib.hid hT
  clear hT
  have HF := Lib.hid (fun w => format_out (w := w) h)
  have h3 : n < 0 ∨ (0 ≤ n ∧ 65536 < n) := by omega
  clear h
  rcases h3 with h1 | ⟨h1, h2⟩
  all_goals
    go_enter Tryd.func5, Tryd.ntmps5
    go_wp2_with (first | (go_at_call 8; refine (HF.out _).mono ?_; rintro e w1 ⟨rfl, rfl⟩) | (go_at_call 10; refine (alive_c HT.out).mono ?_; rintro e w3 ⟨rfl, hO3⟩))
    go_ret
    exact ⟨rfl, only_nil_below hO3⟩
set_option maxHeartbeats 1000000 in
theorem roundTrip_long (n : Nat) (hn : n ≤ 65536) (A : Option Addr) (k c : Nat) (w : World) (hT : Tabs w) (h : 1000 < k) :
    Calls Tryd.prog 5 #[.int .i64 n, .slice A k c] w fun e w' => e = .returned (.bool true) ∧ Below w.heap.size w w' := by
  have HT := Lib.hid hT
  clear hT
  have hbi : (1000 : Int) < (k : Int) := by omega
  go_enter Tryd.func5, Tryd.ntmps5
  go_wp2_with (first | (go_at_call 8; refine (format_c HT.out hn).mono ?_; rintro e w1 ⟨A1, c1, rfl, ho1, hO1⟩; have HO1 := Lib.hid hO1; clear hO1 ho1) | (go_at_call 10; refine (alive_c (HT.out.only HO1.out)).mono ?_; rintro e w3 ⟨rfl, hO3⟩))
  go_ret
  exact ⟨rfl, only_nil_below (HO1.out.trans hO3)⟩
set_option maxHeartbeats 4000000 in
theorem roundTrip_main (n : Nat) (hn : n ≤ 65536) (A : Option Addr) (k c : Nat) (l : List UInt8) (w : World) (hT : Tabs w) (h : l.length = k ∧ k ≤ c ∧ c ≤ maxLen ∧ Reads w w.heap.size A k (vbs l)) (hk : k ≤ 1000) :
    Calls Tryd.prog 5 #[.int .i64 n, .slice A k c] w fun e w' => e = .returned (.bool true) ∧ Below w.heap.size w w' := by
  obtain ⟨hl, hkc, hcm, hr⟩ := h
  have HT := Lib.hid hT
  have HR := Lib.hid hr
  have HF := Lib.hid (format_c hT hn)
  have hln := parse_line hn l
  have hpre := fun i (hi : i < (hexLine n).length) => parse_prefix hn hi
  have h7 : (hexLine n).length ≤ 7 := by rw [hexLine_length]; have := hexOf_le hn; omega
  clear hT hr
  generalize hexLine n = L at *
  have HLN := Lib.hid hln
  have HPRE := Lib.hid hpre
  have HL := Lib.hid hl
  clear hln hpre hl
  have hbi : ¬ (1000 : Int) < (k : Int) := by omega
  obtain ⟨i0, hi0, hz0, hz1, hz2⟩ := info_parts info_byte
  have hb1 := Lib.hid (show 0 + L.length ≤ maxLen by unfold maxLen; omega)
  have hb2 := Lib.hid (show (0 + L.length) * 1 ≤ 140737488355328 by omega)
  have hb3 := Lib.hid (show L.length + k ≤ maxLen by unfold maxLen; omega)
  have hb4 := Lib.hid (show (L.length + k) * 1 ≤ 140737488355328 by omega)
  go_enter Tryd.func5, Tryd.ntmps5
  go_wp2_with fail
  refine HF.out.mono ?_
  rintro e w1 ⟨A1, c1, rfl, ho1, hO1⟩
  have HO1 := Lib.hid hO1
  have HW1 := Lib.hid ho1
  have hrow := Lib.hid (RowAt.of_blk (Blk.new w1 5 []) (by simp))
  have hsrc := Lib.hid (ho1.2.2.2.only' ((Only.refl [] w1).alloc (.cells #[] 5)) (Nat.le_refl _) (by simp))
  clear hO1 ho1
  go_wp2_with (first | (with_reducible refine wp_rowAppend rfl (.tmp 40) (.tmp 41) 22 rfl 5 i0 _ 1 Tryd.underlying22 hi0 hz0 hz1 hz2 rfl _ 0 0 [] rfl hrow.out w1.heap.size A1 L.length c1 (vbs L) rfl hsrc.out (vbs_one _) hb1.out hb2.out L.length (Nat.zero_add L.length).symm ?_; intro A2 c2 w2 HR2 hO2 HK2; have HO2 := Lib.hid (((Only.refl [] w1).alloc (.cells #[] 5)).join hO2 (fun k hk => .inr (by simp [rowT_some] at hk; omega))); have hmore := Lib.hid (HR.out.only' (HO1.out.trans HO2.out) (Nat.le_refl _) (by simp))) | (with_reducible refine wp_rowAppend rfl (.tmp 42) (.tmp 43) 22 rfl 5 i0 _ 1 Tryd.underlying22 hi0 hz0 hz1 hz2 rfl _ L.length c2 _ rfl HR2.out w.heap.size A k c (vbs l) rfl hmore.out (vbs_one _) hb3.out hb4.out (L.length + k) rfl ?_; intro A3 c3 w3 HR3 hO3 HK3))
  have HO3 : Hid (Only [] w1 w3) := Lib.hid (HO2.out.join hO3 (fun i hi => .inr (by
    have h8 : w1.heap.size ≤ (w1.alloc (.cells #[] 5)).heap.size := by simp
    rcases HK2.out i hi with h9 | h9
    · simp [rowT_some] at h9; omega
    · omega)))
  have HRD : Hid (Reads w3 w3.heap.size A3 (L.length + k) (vbs (L ++ l))) := Lib.hid (by
    have := HR3.out.reads
    rw [List.nil_append, ← vbs_append] at this
    exact this)
  refine (parse_c (HT.out.only (HO1.out.trans HO3.out)) HRD.out (Nat.le_refl _) HR3.out.le HR3.out.max).mono ?_
  rintro e w4 ⟨rfl, hO4⟩
  have HO4 := Lib.hid (HO3.out.trans hO4)
  clear hO2 hO3 hO4
  rw [HLN.out]
  unfold ansV
  have hlc : (L.length : Int) ≤ (c1 : Int) := by have := HW1.out.2.1; omega
  have hcb : (c1 : Int) < 9223372036854775808 := by have := HW1.out.2.2.1; unfold maxLen at this; omega
  go_wp2_with fail
  go_loopw [64] (fun s64 w' => ∃ i : Nat, s64 = .int .i64 i ∧ i ≤ L.length ∧ Hid (Only [] w1 w')) (fun s64 _ => L.length - (intOf s64).toNat)
  case atStart => exact ⟨0, rfl, Nat.zero_le _, HO4⟩
  case round =>
    obtain ⟨i, rfl, hi, hOr⟩ := hrel
    by_cases hlt : i < L.length
    · have hlt2 : (i : Int) < (L.length : Int) := by omega
      have hic : (i : Int) ≤ (c1 : Int) := by omega
      have hi0 : (0 : Int) ≤ (i : Int) := by omega
      have hcut := Lib.hid (show Reads wr w1.heap.size A1 i (vbs (L.take i)) by
        have := (HW1.out.2.2.2.only' hOr.out (Nat.le_refl _) (by simp)).cut_ (k := 0) (m := i) (Nat.zero_le _) hi HW1.out.2.1
        rw [cutA_zero] at this
        simpa [vbs_take] using this)
      have HP := Lib.hid (parse_c (HT.out.only (HO1.out.trans hOr.out)) hcut.out hOr.out.size (show i ≤ c1 by omega) HW1.out.2.2.1)
      rw [HPRE.out i hlt] at HP
      unfold ansV at HP
      go_wp2_with (go_at_call 11; (with_reducible refine HP.out.mono ?_); rintro e w5 ⟨rfl, hO5⟩; have HO5 := Lib.hid (hOr.out.trans hO5); clear hO5)
      go_roundw
      case rel => exact ⟨i + 1, by simp, by omega, HO5⟩
      case measure => simp [intOf]; omega
    · have hlt2 : ¬ (i : Int) < (L.length : Int) := by omega
      go_wp2_with (go_at_call 10; refine (alive_c (HT.out.only (HO1.out.trans hOr.out))).mono ?_; rintro e w6 ⟨rfl, hO6⟩)
      go_ret
      exact ⟨rfl, only_nil_below ((HO1.out.trans hOr.out).trans hO6)⟩
theorem roundTrip_walk (n : Int) (A : Option Addr) (k c : Nat) (l : List UInt8) (w : World) (hT : Tabs w) (_ : (Lit.int .i64 n).wf = true) (h : l.length = k ∧ k ≤ c ∧ c ≤ maxLen ∧ Reads w w.heap.size A k (vbs l)) :
    Calls Tryd.prog 5 #[.int .i64 n, .slice A k c] w fun e w' => e = .returned (.bool true) ∧ Below w.heap.size w w' := by
  by_cases h1 : n < 0 ∨ 65536 < n
  · exact roundTrip_out n A k c w hT h1
  · obtain ⟨m, rfl⟩ : ∃ m : Nat, n = (m : Int) := ⟨n.toNat, by omega⟩
    by_cases h2 : 1000 < k
    · exact roundTrip_long m (by omega) A k c w hT h2
    · exact roundTrip_main m (by omega) A k c l w hT h (by omega)
end Go.Proofs.YthihogahaboknaaDoor
