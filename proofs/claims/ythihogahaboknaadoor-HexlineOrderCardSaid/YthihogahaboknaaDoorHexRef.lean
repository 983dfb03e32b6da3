/-
  Contracts of the reference of layer 3.
-/
import Derived.Test.YthihogahaboknaaDoorHexline
import Derived.Lib.ConvBytes
namespace Go.Proofs.YthihogahaboknaaDoor
open Go.RowKit Go.BigFrame
set_option linter.unusedVariables false
set_option linter.unusedSimpArgs false
attribute [local go_sem ↓] sliced_cut run_min2 run_max2
attribute [local go_sem] cutA_zero

/-! ### Hex -/
theorem hexS_at : ∀ i : Fin 16, (hexS[i.val]'(by have := i.isLt; show i.val < 16; omega)) = dg i.val := by decide
theorem hex_at {u : Nat} (h : u < 16) (w : World) :
    (Instr.index 9 (.string ⟨#[48, 49, 50, 51, 52, 53, 54, 55, 56, 57, 97, 98, 99, 100, 101, 102]⟩) (.int .i64 (u : Int))).run Tryd.prog w = .ok (.int .u8 ((dg u).toNat : Int)) w := by
  have := run_index_str hexS u (show u < 16 by omega) w
  rw [show hexS[u]'(show u < 16 by omega) = dg u from hexS_at ⟨u, h⟩] at this
  exact this
theorem one_string (W : World) (d : UInt8) : (convert 22 9 (.slice (some ⟨W.heap.size, 0, none⟩) 1 1)).run Tryd.prog (W.alloc (.cells #[.int .u8 (d.toNat : Int)] 5)) = .ok (.string ⟨#[d]⟩) (W.alloc (.cells #[.int .u8 (d.toNat : Int)] 5)) :=
  run_string_of (l := [d]) Tryd.underlying22 Tryd.underlying5 Tryd.underlying9 (Reads.of_blk (Blk.new W 5 (vbs [d])) 0 1 (by simp [vbs]) (Nat.lt_succ_self _)) 1
theorem str_cons (d : UInt8) (l : List UInt8) : (⟨#[d]⟩ : ByteArray) ++ ⟨l.toArray⟩ = ⟨(d :: l).toArray⟩ := by
  apply ByteArray.ext
  rw [ByteArray.data_append]
  apply Array.ext'
  simp
theorem str_append (a b : List UInt8) : (⟨a.toArray⟩ : ByteArray) ++ ⟨b.toArray⟩ = ⟨(a ++ b).toArray⟩ := by
  apply ByteArray.ext
  rw [ByteArray.data_append]
  apply Array.ext'
  simp
set_option maxHeartbeats 1600000 in
theorem refHex_c {w : World} {n : Nat} (hn : n ≤ 65536) :
    Calls Tryd.prog 14 #[.int .i64 n] w fun e w' => e = .returned (.string ⟨(hexOf n).toArray⟩) ∧ Only [] w w' := by
  go_enter Tryd.func14, Tryd.ntmps14
  go_wp2
  go_loopw [0, 3] (fun s0 s3 w' => ∃ (u : Nat) (suf : List UInt8), s0 = .int .i64 u ∧ s3 = .string ⟨suf.toArray⟩ ∧ u ≤ 65536 ∧ Hid (hexOf n = hexOf u ++ suf) ∧ Hid (Only [] w w')) (fun s0 _ _ => (intOf s0).toNat)
  case atStart => exact ⟨n, [], rfl, rfl, hn, Lib.hid (by simp), Lib.hid (Only.refl _ _)⟩
  case round =>
    obtain ⟨u, suf, rfl, rfl, hu, hhex, hO⟩ := hrel
    have hsuf : suf.length ≤ 5 := by
      have := congrArg List.length hhex.out
      have h5 := hexOf_le hn
      rw [List.length_append] at this
      omega
    have hsz : ¬ (9223372036854775807 < 1 + suf.length) := by omega
    by_cases h16 : 16 ≤ u
    · have hge : (16 : Int) ≤ (u : Int) := by omega
      obtain ⟨dd, hdd⟩ : ∃ d, dg (u % 16) = d := ⟨_, rfl⟩
      have hdig : ∀ w, (Instr.index 9 (.string ⟨#[48, 49, 50, 51, 52, 53, 54, 55, 56, 57, 97, 98, 99, 100, 101, 102]⟩) (.int .i64 ((u : Int) % 16))).run Tryd.prog w = .ok (.int .u8 (dd.toNat : Int)) w := fun w => by
        have := hex_at (u := u % 16) (by omega) w
        rw [hdd] at this
        exact this
      have HD := Lib.hid hdd
      have hcv := fun W => one_string W dd
      have hap := str_cons dd suf
      clear hdd
      go_wp2
      go_roundw
      case rel => exact ⟨u / 16, dd :: suf, by simp, rfl, by omega, Lib.hid (by rw [hhex.out, hexOf_big h16, HD.out, List.append_assoc]; rfl), Lib.hid (hO.out.alloc _)⟩
      case measure => simp [intOf]; omega
    · have hge : ¬ (16 : Int) ≤ (u : Int) := by omega
      obtain ⟨dd, hdd⟩ : ∃ d, dg u = d := ⟨_, rfl⟩
      have hdig : ∀ w, (Instr.index 9 (.string ⟨#[48, 49, 50, 51, 52, 53, 54, 55, 56, 57, 97, 98, 99, 100, 101, 102]⟩) (.int .i64 (u : Int))).run Tryd.prog w = .ok (.int .u8 (dd.toNat : Int)) w := fun w => by
        have := hex_at (u := u) (by omega) w
        rw [hdd] at this
        exact this
      have HD := Lib.hid hdd
      have hcv := fun W => one_string W dd
      have hap := str_cons dd suf
      have hres : Hid (hexOf n = dd :: suf) := Lib.hid (by rw [hhex.out, hexOf_small (n := u) (by omega), HD.out]; rfl)
      clear hdd
      go_wp2
      go_ret
      refine ⟨?_, hO.out.alloc _⟩
      rw [hres.out]
      rfl

/-! ### Format -/
theorem to_bytes (w : World) (l : List UInt8) (hl : l.length ≤ 140737488355328) :
    ∃ A c w', (convert 9 22 (.string ⟨l.toArray⟩)).run Tryd.prog w = .ok (.slice A l.length c) w' ∧ Own w' A l.length c l ∧ Only [] w w' := by
  have hsz : (⟨l.toArray⟩ : ByteArray).size = l.length := rfl
  refine ⟨_, _, _, Lib.run_convert_string_bytes w 9 22 5 ⟨l.toArray⟩ Tryd.underlying9 Tryd.underlying22 Tryd.underlying5, ⟨rfl, ?_, ?_, ?_⟩, ⟨rfl, rfl, rfl, ?_, fun k hk _ => Lib.bytesWorld_at_old _ _ _ _ hk⟩⟩
  · exact grownCap_ge w _ 0 _
  · exact grownCap_le_maxLen w _ 0 _ (by rw [hsz]; unfold maxLen; omega)
  · refine ⟨vbs_length l, fun _ => ⟨_, rfl, by rw [Lib.bytesWorld_size]; exact Nat.lt_succ_self _, fun j u hu => ?_⟩⟩
    rw [vbs_getElem?] at hu
    have hj : j < l.length := by
      rcases Nat.lt_or_ge j l.length with h | h
      · exact h
      · rw [List.getElem?_eq_none h] at hu; cases hu
    rw [add_at, Nat.zero_add, Lib.bytesWorld_cell _ _ _ _ hj, ← hu, List.getElem?_eq_getElem hj]
    simp [vb, List.getD, hj]
  · rw [Lib.bytesWorld_size]; exact Nat.le_succ _
set_option maxHeartbeats 800000 in
theorem refFormat_c {w : World} {n : Nat} (hn : n ≤ 65536) :
    Calls Tryd.prog 9 #[.int .i64 n] w fun e w' => ∃ A c, e = .returned (.tuple #[.slice A (hexLine n).length c, .int .i64 0]) ∧ Own w' A (hexLine n).length c (hexLine n) ∧ Only [] w w' := by
  have HC := Lib.hid (refHex_c (w := w) hn)
  have hlen5 := hexOf_le hn
  have h0 : ¬ (n : Int) < 0 := by omega
  have h1 : ¬ (65536 : Int) < (n : Int) := by omega
  have hap : (⟨(hexOf n).toArray⟩ : ByteArray) ++ ⟨#[13, 10]⟩ = ⟨(hexLine n).toArray⟩ := str_append (hexOf n) [13, 10]
  have hsz : ¬ (9223372036854775807 < (hexOf n).length + 2) := by omega
  have hll : Hid ((hexLine n).length ≤ 140737488355328) := Lib.hid (by rw [hexLine_length]; omega)
  generalize hexOf n = H at *
  go_enter Tryd.func9, Tryd.ntmps9
  go_wp2_with (go_at_call 14; refine HC.out.mono ?_; rintro e w1 ⟨rfl, hO1⟩; have HO1 := Lib.hid hO1; clear hO1; obtain ⟨A2, c2, w2, hcv, ho, hO2⟩ := to_bytes w1 (hexLine n) hll.out; have HO := Lib.hid ho; have HO2 := Lib.hid hO2; clear ho hO2)
  go_ret2
  exact ⟨A2, c2, rfl, HO.out, HO1.out.trans HO2.out⟩
set_option maxHeartbeats 800000 in
theorem refFormat_out {w : World} {n : Int} (hn : n < 0 ∨ 65536 < n) :
    Calls Tryd.prog 9 #[.int .i64 n] w fun e w' => e = .returned (.tuple #[.slice none 0 0, .int .i64 3]) ∧ w = w' := by
  by_cases h0 : n < 0
  · clear hn
    go_enter Tryd.func9, Tryd.ntmps9
    go_wp2
    go_ret2
    exact ⟨rfl, rfl⟩
  · have h1 : 65536 < n := by omega
    clear hn
    go_enter Tryd.func9, Tryd.ntmps9
    go_wp2
    go_ret2
    exact ⟨rfl, rfl⟩

/-! ### Parse -/
def hvI (x : UInt8) : Int := match hv x with | some d => (d : Int) | none => -1
set_option maxHeartbeats 800000 in
theorem value_c (w : World) (x : UInt8) : Calls Tryd.prog 17 #[.int .u8 x.toNat] w fun e w' => e = .returned (.int .i64 (hvI x)) ∧ w' = w := by
  have hx : x.toNat < 256 := UInt8.toNat_lt _
  have hr : Hid (hvI x = if 48 ≤ x.toNat ∧ x.toNat ≤ 57 then (x.toNat : Int) - 48 else if 97 ≤ x.toNat ∧ x.toNat ≤ 102 then (x.toNat : Int) - 87 else -1) := Lib.hid (by
    unfold hvI hv
    by_cases h1 : 48 ≤ x.toNat ∧ x.toNat ≤ 57
    · rw [if_pos h1, if_pos h1]; simp only; omega
    · rw [if_neg h1, if_neg h1]
      by_cases h2 : 97 ≤ x.toNat ∧ x.toNat ≤ 102
      · rw [if_pos h2, if_pos h2]; simp only; omega
      · rw [if_neg h2, if_neg h2])
  generalize hvI x = res at *
  generalize x.toNat = m at *
  have e1 : ∀ k : Int, 0 ≤ (m : Int) - k + 0 ∨ True := fun _ => .inr trivial
  by_cases h1 : 48 ≤ m ∧ m ≤ 57
  · have hr2 := hr.out
    rw [if_pos h1] at hr2
    have HR2 := Lib.hid hr2
    have h2 : (48 : Int) ≤ (m : Int) := by omega
    have h3 : (m : Int) ≤ 57 := by omega
    clear hr2 hr h1 e1
    go_enter Tryd.func17, Tryd.ntmps17
    go_wp2
    go_ret
    exact ⟨by rw [HR2.out]; rfl, rfl⟩
  · by_cases h2 : 97 ≤ m ∧ m ≤ 102
    · have hr2 := hr.out
      rw [if_neg h1, if_pos h2] at hr2
      have HR2 := Lib.hid hr2
      have h3 : (48 : Int) ≤ (m : Int) := by omega
      have h4 : ¬ (m : Int) ≤ 57 := by omega
      have h5 : (97 : Int) ≤ (m : Int) := by omega
      have h6 : (m : Int) ≤ 102 := by omega
      clear hr2 hr h1 h2 e1
      go_enter Tryd.func17, Tryd.ntmps17
      go_wp2
      go_ret
      exact ⟨by rw [HR2.out]; rfl, rfl⟩
    · have hr2 := hr.out
      rw [if_neg h1, if_neg h2] at hr2
      have HR2 := Lib.hid hr2
      clear hr2 hr e1
      by_cases h3 : (48 : Int) ≤ (m : Int)
      · have h4 : ¬ (m : Int) ≤ 57 := by omega
        by_cases h5 : (97 : Int) ≤ (m : Int)
        · have h6 : ¬ (m : Int) ≤ 102 := by omega
          clear h1 h2
          go_enter Tryd.func17, Tryd.ntmps17
          go_wp2
          go_ret
          exact ⟨by rw [HR2.out]; rfl, rfl⟩
        · clear h1 h2
          go_enter Tryd.func17, Tryd.ntmps17
          go_wp2
          go_ret
          exact ⟨by rw [HR2.out]; rfl, rfl⟩
      · have h5 : ¬ (97 : Int) ≤ (m : Int) := by omega
        clear h1 h2
        go_enter Tryd.func17, Tryd.ntmps17
        go_wp2
        go_ret
        exact ⟨by rw [HR2.out]; rfl, rfl⟩
end Go.Proofs.YthihogahaboknaaDoor
