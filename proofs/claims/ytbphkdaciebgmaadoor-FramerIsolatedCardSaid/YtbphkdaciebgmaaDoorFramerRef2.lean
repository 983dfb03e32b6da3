/-
  The contract of the reference's Encode.
-/
import Derived.Test.YtbphkdaciebgmaaDoorFramerRef
import Derived.LoopTactic
namespace Go.Proofs.YtbphkdaciebgmaaDoor
open Go.RowKit Go.BigFrame
set_option linter.unusedVariables false
set_option linter.unusedSimpArgs false
attribute [local go_sem ↓] sliced_cut run_min2 run_max2
attribute [local go_sem] cutA_zero

def sliceLen : Value → Nat
  | .slice _ n _ => n
  | _ => 0
set_option maxHeartbeats 2000000 in
theorem refEncode_c {w : World} {B : Nat} {X : Option Addr} {m d k : Nat} {b : List UInt8} (hb : Reads w B X m (vbs b)) (hB : B ≤ w.heap.size) (hmd : m ≤ d) (hdm : d ≤ maxLen) (hm : m ≤ 1000000) (hk1 : 1 ≤ k) (hk2 : k ≤ 65536) :
    Calls Tryd.prog 21 #[.slice X m d, .int .i64 k] w fun e w' => ∃ A c, e = .returned (.tuple #[.slice A (bodyOf k b).length c, .int .i64 0]) ∧ RowAt w' 5 A (bodyOf k b).length c (vbs (bodyOf k b)) ∧ (∀ j, j ∈ rowT A → w.heap.size ≤ j) ∧ Only [] w w' := by
  have hbl : b.length = m := by have := hb.1; rwa [vbs_length] at this
  have HB := Lib.hid hb
  have HBB := Lib.hid hB
  have HLE := Lib.hid (chunksOf_le hk2 _ b (Nat.le_refl _))
  have HBL := Lib.hid hbl
  obtain ⟨i0, hi, hz0, hz1, hz2⟩ := info_parts info_byte
  have h3 : ¬ (k : Int) < 1 := by omega
  have h4 : ¬ (65536 : Int) < (k : Int) := by omega
  unfold maxLen at hdm
  clear hb hB hbl
  go_enter Tryd.func21, Tryd.ntmps21
  go_wp2_with fail
  go_loopw [0, 6] (fun s0 s6 wr => ∃ (X' : Option Addr) (m' d' : Nat) (rest : List UInt8) (A : Option Addr) (no co : Nat) (out : List UInt8), s0 = .slice X' m' d' ∧ s6 = .slice A no co ∧ m' ≤ m ∧ m' ≤ d' ∧ d' ≤ 9223372036854775807 ∧ Hid (Reads w B X' m' (vbs rest)) ∧
    Hid (chunksOf k b = out ++ chunksOf k rest) ∧ Hid (no = out.length) ∧ Hid (RowAt wr 5 A no co (vbs out)) ∧ Hid (∀ j, j ∈ rowT A → w.heap.size ≤ j) ∧ Hid (Only [] w wr)) (fun s0 _ _ => sliceLen s0)
  case atStart => exact ⟨X, m, d, b, none, 0, 0, [], rfl, rfl, Nat.le_refl _, hmd, by omega, HB, Lib.hid rfl, Lib.hid rfl, Lib.hid (RowAt.nil _ _), Lib.hid (by simp [rowT]), Lib.hid (Only.refl _ _)⟩
  case round =>
    obtain ⟨X', m', d', rest, A, no, co, out, rfl, rfl, hmm, hmd', hd', hrest, heq, HNO, hrow, hblk, hO⟩ := hrel
    have hrl : rest.length = m' := by have := hrest.out.1; rwa [vbs_length] at this
    have HROW := hrow
    have HBLK := hblk
    have HO := hO
    have hsrcw := hrest.out.only' hO.out HBB.out (by simp)
    have hOs := hO.out.size
    by_cases hpos : 0 < m'
    · have hp : (0 : Int) < (m' : Int) := by omega
      by_cases hkm : m' < k
      · have hkm2 : (m' : Int) < (k : Int) := by omega
        have hq1 : m' ≤ m' := by omega
        have hq65 : m' ≤ 65536 := by omega
        have hte : rest.take k = rest.take m' ∧ rest.drop k = rest.drop m' := ⟨by rw [List.take_of_length_le (by omega), List.take_of_length_le (by omega)], by rw [List.drop_of_length_le (by omega), List.drop_of_length_le (by omega)]⟩
        have HEQ2 : Hid (chunksOf k b = (out ++ chunkOf (rest.take m')) ++ chunksOf k (rest.drop m')) := Lib.hid (by rw [heq.out, chunksOf_pos (by omega) (by omega : 0 < rest.length), hte.1, hte.2, List.append_assoc])
        have hb10 : no + (chunkOf (rest.take m')).length ≤ 10000000 := by
          have h1 := HLE.out
          rw [HEQ2.out] at h1
          simp only [List.length_append] at h1
          have := HBL.out
          have := HNO.out
          omega
        have hrd : Reads wr B X' m' (vbs (rest.take m')) := by
          have := hsrcw.cut_ (k := 0) (m := m') (Nat.zero_le _) hq1 hmd'
          rw [cutA_zero] at this
          simpa [vbs_take] using this
        have HCUT : Hid (Reads w B (cutA d' m' 1 X') (m' - m') (vbs (rest.drop m'))) := Lib.hid (by
          have := hrest.out.cut_ (k := m') (m := m') hq1 (Nat.le_refl _) hmd'
          rwa [List.take_of_length_le (by rw [List.length_drop, vbs_length]; omega), ← vbs_drop] at this)
        have HC := Lib.hid (refChunk_c (d := d') hrd (Nat.le_trans HBB.out hOs) hq65)
        have HB10 := Lib.hid hb10
        have HQ := Lib.hid hq1
        clear hrest heq hrow hblk hO hsrcw hOs hrl hte hb10 hrd hq1
        go_wp2_with fail
        refine HC.out.mono ?_
        rintro e w2 ⟨A2, d2, rfl, hR2, hk2, hO2⟩
        obtain ⟨lc, hlc⟩ : ∃ lc, lc = (chunkOf (rest.take m')).length := ⟨_, rfl⟩
        have hAr := Lib.hid (HROW.out.only hO2 (by simp))
        have hsrc := Lib.hid hR2.reads
        have hb0 := HB10.out
        rw [← hlc] at hsrc hb0 ⊢
        have hb1 := Lib.hid (show no + lc ≤ maxLen by unfold maxLen; omega)
        have hb2 := Lib.hid (show (no + lc) * 1 ≤ 140737488355328 by omega)
        have HO2 := Lib.hid hO2
        have HLC := Lib.hid hlc
        have hq1 := HQ.out
        clear hR2 hk2 hO2 hlc
        go_wp2_with (with_reducible refine wp_rowAppend rfl (.tmp 24) (.tmp 28) 26 rfl 5 i0 _ 1 Tryd.underlying26 hi hz0 hz1 hz2 rfl A no co (vbs out) rfl hAr.out w2.heap.size A2 lc d2 (vbs (chunkOf (rest.take m'))) rfl hsrc.out (vbs_one _) hb1.out hb2.out (no + lc) rfl ?_; intro A3 c3 w3 HR3 hO3 HK3)
        go_roundw
        case rel =>
          have hOO : Only [] w w3 := (HO.out.trans HO2.out).join hO3 (fun k hk => .inr (HBLK.out k hk))
          refine ⟨_, 0, d' - m', rest.drop m', A3, no + lc, c3, out ++ chunkOf (rest.take m'), rfl, rfl, by omega, by omega, by omega, Lib.hid (by have := HCUT.out; rwa [Nat.sub_self] at this), HEQ2, Lib.hid ?_, Lib.hid ?_, Lib.hid ?_, Lib.hid hOO⟩
          · rw [List.length_append, ← HNO.out, ← HLC.out]
          · rw [vbs_append]; exact HR3.out
          · intro k hk
            rcases HK3.out k hk with h1 | h1
            · exact HBLK.out k h1
            · exact Nat.le_trans (HO.out.trans HO2.out).size h1
        case measure => simp [sliceLen]; omega
      · have hkm2 : ¬ (m' : Int) < (k : Int) := by omega
        have hq1 : k ≤ m' := by omega
        have hq65 : k ≤ 65536 := hk2
        have hte : rest.take k = rest.take k ∧ rest.drop k = rest.drop k := ⟨rfl, rfl⟩
        have HEQ2 : Hid (chunksOf k b = (out ++ chunkOf (rest.take k)) ++ chunksOf k (rest.drop k)) := Lib.hid (by rw [heq.out, chunksOf_pos (by omega) (by omega : 0 < rest.length), hte.1, hte.2, List.append_assoc])
        have hb10 : no + (chunkOf (rest.take k)).length ≤ 10000000 := by
          have h1 := HLE.out
          rw [HEQ2.out] at h1
          simp only [List.length_append] at h1
          have := HBL.out
          have := HNO.out
          omega
        have hrd : Reads wr B X' k (vbs (rest.take k)) := by
          have := hsrcw.cut_ (k := 0) (m := k) (Nat.zero_le _) hq1 hmd'
          rw [cutA_zero] at this
          simpa [vbs_take] using this
        have HCUT : Hid (Reads w B (cutA d' k 1 X') (m' - k) (vbs (rest.drop k))) := Lib.hid (by
          have := hrest.out.cut_ (k := k) (m := m') hq1 (Nat.le_refl _) hmd'
          rwa [List.take_of_length_le (by rw [List.length_drop, vbs_length]; omega), ← vbs_drop] at this)
        have HC := Lib.hid (refChunk_c (d := d') hrd (Nat.le_trans HBB.out hOs) hq65)
        have HB10 := Lib.hid hb10
        have HQ := Lib.hid hq1
        clear hrest heq hrow hblk hO hsrcw hOs hrl hte hb10 hrd hq1
        go_wp2_with fail
        refine HC.out.mono ?_
        rintro e w2 ⟨A2, d2, rfl, hR2, hk2, hO2⟩
        obtain ⟨lc, hlc⟩ : ∃ lc, lc = (chunkOf (rest.take k)).length := ⟨_, rfl⟩
        have hAr := Lib.hid (HROW.out.only hO2 (by simp))
        have hsrc := Lib.hid hR2.reads
        have hb0 := HB10.out
        rw [← hlc] at hsrc hb0 ⊢
        have hb1 := Lib.hid (show no + lc ≤ maxLen by unfold maxLen; omega)
        have hb2 := Lib.hid (show (no + lc) * 1 ≤ 140737488355328 by omega)
        have HO2 := Lib.hid hO2
        have HLC := Lib.hid hlc
        have hq1 := HQ.out
        clear hR2 hk2 hO2 hlc
        go_wp2_with (with_reducible refine wp_rowAppend rfl (.tmp 24) (.tmp 28) 26 rfl 5 i0 _ 1 Tryd.underlying26 hi hz0 hz1 hz2 rfl A no co (vbs out) rfl hAr.out w2.heap.size A2 lc d2 (vbs (chunkOf (rest.take k))) rfl hsrc.out (vbs_one _) hb1.out hb2.out (no + lc) rfl ?_; intro A3 c3 w3 HR3 hO3 HK3)
        go_roundw
        case rel =>
          have hOO : Only [] w w3 := (HO.out.trans HO2.out).join hO3 (fun k hk => .inr (HBLK.out k hk))
          refine ⟨_, m' - k, d' - k, rest.drop k, A3, no + lc, c3, out ++ chunkOf (rest.take k), rfl, rfl, by omega, by omega, by omega, HCUT, HEQ2, Lib.hid ?_, Lib.hid ?_, Lib.hid ?_, Lib.hid hOO⟩
          · rw [List.length_append, ← HNO.out, ← HLC.out]
          · rw [vbs_append]; exact HR3.out
          · intro k hk
            rcases HK3.out k hk with h1 | h1
            · exact HBLK.out k h1
            · exact Nat.le_trans (HO.out.trans HO2.out).size h1
        case measure => simp [sliceLen]; omega
    · obtain rfl : m' = 0 := by omega
      have hr0 : rest = [] := List.eq_nil_of_length_eq_zero hrl
      have HC := Lib.hid (refChunk_c (w := wr) (B := 0) (X := none) (m := 0) (d := 0) (b := []) (by simpa [vbs] using Reads.none_) (Nat.zero_le _) (by omega))
      have HEND : Hid (bodyOf k b = out ++ chunkOf []) := Lib.hid (by rw [bodyOf, heq.out, hr0, chunksOf_nil, List.append_nil])
      have hno : no ≤ 10000000 := by
        have h1 := HLE.out
        rw [heq.out, hr0, chunksOf_nil, List.append_nil, HBL.out, ← HNO.out] at h1
        omega
      clear hrest heq hrow hblk hO hsrcw hOs hrl hpos hr0
      go_wp2_with fail
      refine HC.out.mono ?_
      rintro e w2 ⟨A2, d2, rfl, hR2, hk2, hO2⟩
      have e5 : (chunkOf []).length = 5 := by rw [chunkOf_nil]; rfl
      have hAr := Lib.hid (HROW.out.only hO2 (by simp))
      have hsrc := Lib.hid hR2.reads
      rw [e5] at hsrc ⊢
      have hb1 := Lib.hid (show no + 5 ≤ maxLen by unfold maxLen; omega)
      have hb2 := Lib.hid (show (no + 5) * 1 ≤ 140737488355328 by omega)
      have HO2 := Lib.hid hO2
      clear hR2 hk2 hO2 e5
      go_wp2_with (with_reducible refine wp_rowAppend rfl (.tmp 33) (.tmp 34) 26 rfl 5 i0 _ 1 Tryd.underlying26 hi hz0 hz1 hz2 rfl A no co (vbs out) rfl hAr.out w2.heap.size A2 5 d2 (vbs (chunkOf [])) rfl hsrc.out (vbs_one _) hb1.out hb2.out (no + 5) rfl ?_; intro A3 c3 w3 HR3 hO3 HK3)
      go_ret2
      have hlen : (bodyOf k b).length = no + 5 := by rw [HEND.out, List.length_append, ← HNO.out, chunkOf_nil]; rfl
      have h5 := HR3.out
      rw [← vbs_append, ← HEND.out] at h5
      rw [hlen]
      refine ⟨A3, c3, rfl, h5, fun j hj => ?_, (HO.out.trans HO2.out).join hO3 (fun k hk => .inr (HBLK.out k hk))⟩
      rcases HK3.out j hj with h1 | h1
      · exact HBLK.out j h1
      · exact Nat.le_trans (HO.out.trans HO2.out).size h1
end Go.Proofs.YtbphkdaciebgmaaDoor
