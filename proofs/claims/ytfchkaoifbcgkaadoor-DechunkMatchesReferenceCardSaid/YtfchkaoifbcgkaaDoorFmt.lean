/-
  Contracts: strconv.AppendInt onto nil at base 16, one a function.
-/
import Derived.Test.YtfchkaoifbcgkaaDoorTz
import Derived.Test.YtfchkaoifbcgkaaDoorHex
import Derived.Laws.Bits64b
import Derived.LoopTactic
import Derived.RegionTactic
import Derived.ChangeAlike
import Derived.Deep.QuietTactic
import Derived.BigQuiet
namespace Go.Proofs.YtfchkaoifbcgkaaDoor
open Go.RowKit Go.BigFrame
set_option linter.unusedVariables false
set_option linter.unusedSimpArgs false
attribute [local go_sem ↓] sliced_cut run_min2 run_max2
attribute [local go_sem] cutA_zero

def digS : ByteArray := ⟨#[48, 49, 50, 51, 52, 53, 54, 55, 56, 57, 97, 98, 99, 100, 101, 102, 103, 104, 105, 106, 107, 108, 109, 110, 111, 112, 113, 114, 115, 116, 117, 118, 119, 120, 121, 122]⟩
theorem digS_at : ∀ i : Fin 16, (digS[i.val]'(by have := i.isLt; show i.val < 36; omega)) = dg i.val := by decide
theorem dig_at {u : Nat} (h : u < 16) (w : World) :
    (Instr.index 9 (.string ⟨#[48, 49, 50, 51, 52, 53, 54, 55, 56, 57, 97, 98, 99, 100, 101, 102, 103, 104, 105, 106, 107, 108, 109, 110, 111, 112, 113, 114, 115, 116, 117, 118, 119, 120, 121, 122]⟩) (.int .u64 (u : Int))).run Tryd.prog w = .ok (vb (dg u)) w := by
  have := run_index_u64 digS u (show u < 36 by omega) w
  rw [show digS[u]'(show u < 36 by omega) = dg u from digS_at ⟨u, h⟩] at this
  exact this
theorem and15 {u : Nat} (h : u < 18446744073709551616) : bits .and .u64 (u : Int) 15 = (u : Int) % 16 := by
  have := bits_and_u64_nat u 15 h (by omega)
  rw [Nat.and_two_pow_sub_one_eq_mod u 4] at this
  exact this
theorem drop_set {cs : List Value} {j : Nat} (h : j < cs.length) (v : Value) : (cs.set j v).drop j = v :: cs.drop (j + 1) := by
  rw [List.drop_eq_getElem_cons (by simpa using h), List.getElem_set_self, List.drop_set_of_lt (by omega)]
def zeros65 : Array Value := (vbs (List.replicate 65 0)).toArray
theorem info_arr : (Tryd.prog.info? 103).map (fun i => (i.zero, i.size, i.bytes)) = some (some (.agg zeros65), 65, 65) := by kernel_rfl
theorem zero_arr (w : World) : (zeroValue 103).run Tryd.prog w = .ok (.agg zeros65) w := by
  obtain ⟨i, hi, hz, _, _⟩ := info_parts info_arr
  simp [zeroValue, typeInfo, hi, hz]
theorem cells_arr : (Value.agg zeros65).cells = zeros65 := by kernel_rfl
theorem size_arr : zeros65.size = 65 := by kernel_rfl
theorem slice_arr (g j : Nat) (hj : j < 65) (W : World) : (Instr.sliceAt 103 (.pointer (some ⟨g, 0, none⟩)) (some (.int .i64 (j : Int))) none none).run Tryd.prog W = .ok (.slice (some ⟨g, j, none⟩) (65 - j) (65 - j)) W := by
  have hal : Tryd.prog.arrayLen 103 = 65 := by simp [Program.arrayLen, Tryd.underlying103]
  have hel : Tryd.prog.elem 103 = 5 := by simp [Program.elem, Tryd.underlying103]
  rw [run_sliceAt_array_l W 103 ⟨g, 0, none⟩ (by simp [Program.arrayLen, Program.elem, Tryd.underlying103]) .i64 (j : Int) (by omega) (by rw [hal]; omega), hal, hel, Tryd.sizeOf5]
  simp [slicedAt, sliced, Addr.add]
  rw [if_neg (by omega)]
  split <;> simp_all
set_option maxRecDepth 100000 in
set_option maxHeartbeats 4000000 in
theorem formatBits_c {w : World} (hT : Tz w) {n : Nat} (hn : n ≤ 65536) :
    Calls Tryd.prog 62 #[.slice none 0 0, .int .u64 n, .int .i64 16, .bool false, .bool true] w fun e w' =>
      ∃ v, e = .returned (.tuple #[v, .string ⟨#[]⟩]) ∧ w'.ownsRow w.heap.size 5 1 v (hexOf n).length (vbs (hexOf n)) ∧ Only [] w w' := by
  have HT := Lib.hid hT
  clear hT
  have hlen5 := hexOf_le hn
  have hz := zero_arr
  have hcl := cells_arr
  have HB := Lib.hid (show Blk (w.alloc (.cells zeros65 103)) w.heap.size 103 (vbs (List.replicate 65 0)) from Blk.new w 103 (vbs (List.replicate 65 0)))
  have HO := Lib.hid ((Only.refl [] w).alloc (.cells zeros65 103))
  generalize zeros65 = Z at *
  go_enter Tryd.func62, Tryd.ntmps62
  go_wp2_with (first | (go_at_call 68; refine (pow2_c _).mono ?_; rintro e w1 ⟨rfl, hW⟩; rw [hW]; clear hW) | (go_at_call 69; refine (tz_c (HT.out.only ((Only.refl [] w).alloc _))).mono ?_; rintro e w1 ⟨rfl, hW⟩; rw [hW]; clear hW))
  have hlt : w.heap.size < (w.alloc (.cells Z 103)).heap.size := by simp
  go_loopw [1, 13] (fun s1 s13 w' => ∃ (u i : Nat) (cs : List Value) (suf : List UInt8), s1 = .int .u64 u ∧ s13 = .int .i64 i ∧ u ≤ 65536 ∧ i + suf.length = 65 ∧ Hid (hexOf n = hexOf u ++ suf) ∧ cs.length = 65 ∧ Hid (cs.drop i = vbs suf) ∧ Hid (Blk w' w.heap.size 103 cs) ∧ Hid (Only [] w w')) (fun s1 _ _ => (intOf s1).toNat)
  case atStart => exact ⟨n, 65, vbs (List.replicate 65 0), [], rfl, rfl, hn, rfl, Lib.hid (by simp), by simp [vbs], Lib.hid (by simp [vbs]), HB, HO⟩
  case round =>
    obtain ⟨u, i, cs, suf, rfl, rfl, hu, hi, hhex, hcs, hdrop, hblk, hO⟩ := hrel
    have hsuf : (hexOf u).length + suf.length ≤ 5 := by
      have := congrArg List.length hhex.out
      rw [List.length_append] at this
      omega
    have hpos := hexOf_pos u
    have hi1 : IntKind.i64.wrap ((i : Int) - 1) = ((i - 1 : Nat) : Int) := by rw [wrap_small _ (by omega) (by omega)]; omega
    have hi2 : (i : Int) - 1 = ((i - 1 : Nat) : Int) := by omega
    have hj0 : (0 : Int) ≤ ((i - 1 : Nat) : Int) := by omega
    have hj1 : ((i - 1 : Nat) : Int) < 65 := by omega
    obtain ⟨j, hj⟩ : ∃ j, i - 1 = j := ⟨_, rfl⟩
    have hij : i = j + 1 := by omega
    rw [hj] at hi1 hi2 hj0 hj1
    have hc := hblk.out.cell j
    have hf := hblk.out.free j
    rw [List.getElem?_eq_getElem (by omega)] at hc
    generalize cs[j] = old at hc
    by_cases h16 : 16 ≤ u
    · have hge : (16 : Int) ≤ (u : Int) := by omega
      have hand : bits .and .u64 (u : Int) 15 = (u : Int) % 16 := and15 (by omega)
      obtain ⟨dd, hdd⟩ : ∃ d, dg (u % 16) = d := ⟨_, rfl⟩
      have hdig : ∀ w, (Instr.index 9 (.string ⟨#[48, 49, 50, 51, 52, 53, 54, 55, 56, 57, 97, 98, 99, 100, 101, 102, 103, 104, 105, 106, 107, 108, 109, 110, 111, 112, 113, 114, 115, 116, 117, 118, 119, 120, 121, 122]⟩) (.int .u64 ((u : Int) % 16))).run Tryd.prog w = .ok (.int .u8 (dd.toNat : Int)) w := fun w => by
        have := dig_at (u := u % 16) (by omega) w
        rw [hdd] at this
        exact this
      have HD := Lib.hid hdd
      clear hdd
      go_wp2
      go_roundw
      case rel =>
        refine ⟨u / 16, j, cs.set j (vb dd), dd :: suf, by simp, rfl, by omega, by simp; omega, Lib.hid ?_, by simpa using hcs, Lib.hid ?_, Lib.hid (hblk.out.set_ j _), Lib.hid (hO.out.setCell (.inr (Nat.le_refl _)) _)⟩
        · rw [hhex.out, hexOf_big h16, HD.out, List.append_assoc]; rfl
        · rw [drop_set (by omega), show j + 1 = i by omega, hdrop.out]; rfl
      case measure => simp [intOf]; omega
    · have hge : ¬ (16 : Int) ≤ (u : Int) := by omega
      obtain ⟨dd, hdd⟩ : ∃ d, dg u = d := ⟨_, rfl⟩
      have hdig : ∀ w, (Instr.index 9 (.string ⟨#[48, 49, 50, 51, 52, 53, 54, 55, 56, 57, 97, 98, 99, 100, 101, 102, 103, 104, 105, 106, 107, 108, 109, 110, 111, 112, 113, 114, 115, 116, 117, 118, 119, 120, 121, 122]⟩) (.int .u64 (u : Int))).run Tryd.prog w = .ok (.int .u8 (dd.toNat : Int)) w := fun w => by
        have := dig_at (u := u) (by omega) w
        rw [hdd] at this
        exact this
      have HD := Lib.hid hdd
      clear hdd
      obtain ⟨i0, hi0, hz0, hz1, hz2⟩ := info_parts info_byte
      have hlen : Hid ((hexOf n).length = 0 + (65 - j)) := Lib.hid (by
        have := congrArg List.length hhex.out
        rw [List.length_append, hexOf_small (n := u) (by omega)] at this
        simp at this
        omega)
      have hW : Hid (Only [] w (wr.setCell ⟨w.heap.size, j, none⟩ (.int .u8 (dd.toNat : Int)))) := Lib.hid (hO.out.setCell (.inr (Nat.le_refl _)) _)
      have hrd : Hid (Reads (wr.setCell ⟨w.heap.size, j, none⟩ (.int .u8 (dd.toNat : Int))) (w.heap.size + 1) (some ⟨w.heap.size, j, none⟩) (65 - j) (vbs (hexOf n))) := Lib.hid (by
        have h1 := Reads.of_blk (hblk.out.set_ j (vb dd)) j (65 - j) (by simp; omega) (Nat.lt_succ_self _)
        have h2 : ((cs.set j (vb dd)).drop j).take (65 - j) = vbs (hexOf n) := by
          rw [drop_set (by omega), show j + 1 = i by omega, hdrop.out, hhex.out, hexOf_small (n := u) (by omega), HD.out, List.take_of_length_le (by have := hlen.out; have h9 := congrArg List.length hhex.out; rw [List.length_append, hexOf_small (n := u) (by omega)] at h9; simp [vbs] at h9 ⊢; omega)]
          rfl
        rw [h2] at h1
        exact h1)
      have hsl := fun W => slice_arr w.heap.size j (by omega) W
      have hb1 := Lib.hid (show 0 + (65 - j) ≤ maxLen by unfold maxLen; omega)
      have hb2 := Lib.hid (show (0 + (65 - j)) * 1 ≤ 140737488355328 by omega)
      have hb3 : Hid (w.heap.size ≤ (wr.setCell ⟨w.heap.size, j, none⟩ (.int .u8 (dd.toNat : Int))).heap.size) := Lib.hid hW.out.size
      go_wp2_with (first | (with_reducible refine wp_append rfl (.tmp 95) (.tmp 97) 26 rfl w.heap.size 5 i0 _ 1 Tryd.underlying26 hi0 hz0 hz1 hz2 rfl (.slice none 0 0) 0 [] rfl (World.ownsRow_nil _ _ _ _) (w.heap.size + 1) (some ⟨w.heap.size, j, none⟩) (65 - j) (65 - j) (vbs (hexOf n)) rfl hrd.out (vbs_one _) hb1.out hb2.out hb3.out ?_; intro v2 w2 HR2 hO2 HK2))
      go_ret2
      refine ⟨v2, rfl, ?_, hW.out.grown hO2 (fun k hk => by simp [Value.ownBlock] at hk)⟩
      have h5 := HR2.out
      rw [List.nil_append, ← hlen.out] at h5
      exact h5
set_option maxRecDepth 100000 in
set_option maxHeartbeats 800000 in
theorem appendUint_c {w : World} (hT : Tz w) {n : Nat} (hn : n ≤ 65536) :
    Calls Tryd.prog 53 #[.slice none 0 0, .int .u64 n, .int .i64 16] w fun e w' =>
      ∃ v, e = .returned v ∧ w'.ownsRow w.heap.size 5 1 v (hexOf n).length (vbs (hexOf n)) ∧ Only [] w w' := by
  have HC := Lib.hid (formatBits_c hT hn)
  clear hT
  go_enter Tryd.func53, Tryd.ntmps53
  go_wp2_with (go_at_call 62; refine HC.out.mono ?_; rintro e w1 ⟨v, rfl, h1, h2⟩; have H1 := Lib.hid h1; have H2 := Lib.hid h2; clear h1 h2)
  go_ret
  exact ⟨v, rfl, H1.out, H2.out⟩
set_option maxRecDepth 100000 in
set_option maxHeartbeats 800000 in
theorem appendInt0_c {w : World} (hT : Tz w) {n : Nat} (hn : n ≤ 65536) :
    Calls Tryd.prog 48 #[.slice none 0 0, .int .i64 n, .int .i64 16] w fun e w' =>
      ∃ v, e = .returned v ∧ w'.ownsRow w.heap.size 5 1 v (hexOf n).length (vbs (hexOf n)) ∧ Only [] w w' := by
  have HC := Lib.hid (appendUint_c hT hn)
  clear hT
  have hc : ∀ w, (convert 2 85 (.int .i64 n)).run Tryd.prog w = .ok (.int .u64 n) w := fun w => by
    have : IntKind.u64.wrap (n : Int) = n := by unfold IntKind.wrap; simp [IntKind.bits, IntKind.signed]; omega
    simp [convert, run_underlying Tryd.underlying2, run_underlying Tryd.underlying85, go_sem, this]
  have hn0 : ¬ (n : Int) < 0 := by omega
  go_enter Tryd.func48, Tryd.ntmps48
  go_wp2_with (go_at_call 53; refine HC.out.mono ?_; rintro e w1 ⟨v, rfl, h1, h2⟩; have H1 := Lib.hid h1; have H2 := Lib.hid h2; clear h1 h2)
  go_ret
  exact ⟨v, rfl, H1.out, H2.out⟩
set_option maxRecDepth 100000 in
set_option maxHeartbeats 800000 in
theorem appendInt_c {w : World} (hT : Tz w) {n : Nat} (hn : n ≤ 65536) :
    Calls Tryd.prog 44 #[.slice none 0 0, .int .i64 n, .int .i64 16] w fun e w' =>
      ∃ v, e = .returned v ∧ w'.ownsRow w.heap.size 5 1 v (hexOf n).length (vbs (hexOf n)) ∧ Only [] w w' := by
  have HC := Lib.hid (appendInt0_c hT hn)
  clear hT
  go_enter Tryd.func44, Tryd.ntmps44
  go_wp2_with (go_at_call 48; refine HC.out.mono ?_; rintro e w1 ⟨v, rfl, h1, h2⟩; have H1 := Lib.hid h1; have H2 := Lib.hid h2; clear h1 h2)
  go_ret
  exact ⟨v, rfl, H1.out, H2.out⟩
end Go.Proofs.YtfchkaoifbcgkaaDoor
