/-
  Contracts of the reference of layer 4: Chunk, Start, Finish, Advance, Encode.
-/
import Derived.Test.YtbphkdaciebgmaaDoorFramer
import Derived.Test.YtbphkdaciebgmaaDoorHexRefF
namespace Go.Proofs.YtbphkdaciebgmaaDoor
open Go.RowKit Go.BigFrame
set_option linter.unusedVariables false
set_option linter.unusedSimpArgs false
set_option linter.unusedSectionVars false
attribute [local go_sem ↓] sliced_cut run_min2 run_max2
attribute [local go_sem] cutA_zero

/-! ### Chunk -/
theorem crlf_reads (w : World) : Reads (w.alloc (.cells #[.int .u8 13, .int .u8 10] 5)) (w.heap.size + 1) (some ⟨w.heap.size, 0, none⟩) 2 (vbs [13, 10]) :=
  Reads.of_blk (Blk.new w 5 (vbs [13, 10])) 0 2 (by simp [vbs]) (Nat.lt_succ_self _)
theorem ref_step1 {w w1 w2 : World} {o : Obj} (h : Only [] w w1) (h2 : Only (rowT (some ⟨w1.heap.size, 0, none⟩)) (w1.alloc o) w2) : Only [] w w2 :=
  (h.alloc o).join h2 (fun k hk => .inr (by have := h.size; simp [rowT_some] at hk; omega))
theorem ref_step2 {w w1 w2 w3 : World} {o : Obj} {A2 : Option Addr} (h : Only [] w w1) (h2 : Only (rowT (some ⟨w1.heap.size, 0, none⟩)) (w1.alloc o) w2) (k2 : ∀ k, k ∈ rowT A2 → k ∈ rowT (some ⟨w1.heap.size, 0, none⟩) ∨ (w1.alloc o).heap.size ≤ k) (h3 : Only (rowT A2) w2 w3) : Only [] w w3 :=
  (ref_step1 h h2).join h3 (fun k hk => .inr (by have := h.size; rcases k2 k hk with h1 | h1 <;> simp [rowT_some] at h1 <;> omega))
section
variable {w w1 w2 w3 w4 : World} {o o' : Obj} {A2 A3 A4 : Option Addr} (h : Only [] w w1) (h2 : Only (rowT (some ⟨w1.heap.size, 0, none⟩)) (w1.alloc o) w2) (k2 : ∀ k, k ∈ rowT A2 → k ∈ rowT (some ⟨w1.heap.size, 0, none⟩) ∨ (w1.alloc o).heap.size ≤ k)
  (h3 : Only (rowT A2) w2 w3) (k3 : ∀ k, k ∈ rowT A3 → k ∈ rowT A2 ∨ w2.heap.size ≤ k) (h4 : Only (rowT A3) (w3.alloc o') w4) (k4 : ∀ k, k ∈ rowT A4 → k ∈ rowT A3 ∨ (w3.alloc o').heap.size ≤ k)
include h h2 k2 h3 k3
theorem ref_row3 : ∀ k, k ∈ rowT A3 → w.heap.size ≤ k := by
  intro k hk
  have s1 := h.size
  have s2 := (ref_step1 h h2).size
  rcases k3 k hk with h1 | h1
  · rcases k2 k h1 with h1 | h1 <;> simp [rowT_some] at h1 <;> omega
  · omega
include h4
theorem ref_only : Only [] w w4 := ((ref_step2 h h2 k2 h3).alloc o').join h4 (fun k hk => .inr (ref_row3 h h2 k2 h3 k3 k hk))
include k4
theorem ref_blocks : ∀ k, k ∈ rowT A4 → w.heap.size ≤ k := by
  intro k hk
  have s3 := (ref_step2 h h2 k2 h3).size
  rcases k4 k hk with h1 | h1
  · exact ref_row3 h h2 k2 h3 k3 k h1
  · simp at h1; omega
end
set_option maxHeartbeats 1600000 in
theorem refChunk_c {w : World} {B : Nat} {X : Option Addr} {m d : Nat} {b : List UInt8} (hb : Reads w B X m (vbs b)) (hB : B ≤ w.heap.size) (hm : m ≤ 65536) :
    Calls Tryd.prog 22 #[.slice X m d] w fun e w' => ∃ A c, e = .returned (.slice A (chunkOf b).length c) ∧ RowAt w' 5 A (chunkOf b).length c (vbs (chunkOf b)) ∧ (∀ k, k ∈ rowT A → w.heap.size ≤ k) ∧ Only [] w w' := by
  have hbl : b.length = m := by have := hb.1; rwa [vbs_length] at this
  have HC := Lib.hid (refFormat_c (w := w) hm)
  have HB := Lib.hid hb
  have HBL := Lib.hid hbl
  have HBB := Lib.hid hB
  obtain ⟨i0, hi, hz0, hz1, hz2⟩ := info_parts info_byte
  have hl6 : (hexLine m).length ≤ 7 := by rw [hexLine_length]; have := hexOf_le hm; omega
  clear hb hbl hB
  go_enter Tryd.func22, Tryd.ntmps22
  go_wp2_with fail
  refine HC.out.mono ?_
  rintro e w1 ⟨A1, c1, rfl, ho1, hO1⟩
  have HO1 := Lib.hid hO1
  have HW1 := Lib.hid ho1
  have hrow := Lib.hid (RowAt.of_blk (Blk.new w1 5 []) (by simp))
  have hsrc := Lib.hid (ho1.2.2.2.only' ((Only.refl [] w1).alloc (.cells #[] 5)) (Nat.le_refl _) (by simp))
  obtain ⟨L, hL⟩ : ∃ L, L = (hexLine m).length := ⟨_, rfl⟩
  rw [← hL] at hl6
  have HL := Lib.hid hL
  have hb1 := Lib.hid (show 0 + L ≤ maxLen by unfold maxLen; omega)
  have hb2 := Lib.hid (show (0 + L) * 1 ≤ 140737488355328 by omega)
  have hb3 := Lib.hid (show L + m ≤ maxLen by unfold maxLen; omega)
  have hb4 := Lib.hid (show (L + m) * 1 ≤ 140737488355328 by omega)
  have hb5 := Lib.hid (show L + m + 2 ≤ maxLen by unfold maxLen; omega)
  have hb6 := Lib.hid (show (L + m + 2) * 1 ≤ 140737488355328 by omega)
  rw [← hL] at hsrc ⊢
  clear ho1 hO1 hL
  go_wp2_with (first | ((with_reducible refine wp_rowAppend rfl (.tmp 12) (.tmp 13) 26 rfl 5 i0 _ 1 Tryd.underlying26 hi hz0 hz1 hz2 rfl _ 0 0 [] rfl hrow.out w1.heap.size A1 L c1 (vbs (hexLine m)) rfl hsrc.out (vbs_one _) hb1.out hb2.out L (Nat.zero_add L).symm ?_); intro A2 c2 w2 HR2 hO2 HK2; have HO2 := Lib.hid (ref_step1 HO1.out hO2); have HX := Lib.hid (HB.out.only' HO2.out HBB.out (by simp))) | ((with_reducible refine wp_rowAppend rfl (.tmp 14) (.tmp 15) 26 rfl 5 i0 _ 1 Tryd.underlying26 hi hz0 hz1 hz2 rfl A2 L c2 _ rfl HR2.out B X m d (vbs b) rfl HX.out (vbs_one _) hb3.out hb4.out (L + m) rfl ?_); intro A3 c3 w3 HR3 hO3 HK3; have HCR := Lib.hid (crlf_reads w3); have HR3' := Lib.hid (HR3.out.alloc (.cells #[.int .u8 13, .int .u8 10] 5))) | ((with_reducible refine wp_rowAppend rfl (.tmp 17) (.tmp 18) 26 rfl 5 i0 _ 1 Tryd.underlying26 hi hz0 hz1 hz2 rfl A3 (L + m) c3 _ rfl HR3'.out (w3.heap.size + 1) (some ⟨w3.heap.size, 0, none⟩) 2 2 (vbs [13, 10]) rfl HCR.out (vbs_one _) hb5.out hb6.out (L + m + 2) rfl ?_); intro A4 c4 w4 HR4 hO4 HK4))
  go_ret
  have hlen : L + m + 2 = (chunkOf b).length := by rw [chunkOf, List.length_append, List.length_append, HBL.out, ← HL.out]; rfl
  have hvb : [] ++ vbs (hexLine m) ++ vbs b ++ vbs [13, 10] = vbs (chunkOf b) := by rw [chunkOf, HBL.out, vbs_append, vbs_append]; rfl
  have h4 := HR4.out
  rw [hvb] at h4
  rw [← hlen]
  refine ⟨A4, c4, rfl, h4, ?_, ?_⟩
  · exact ref_blocks HO1.out hO2 HK2.out hO3 HK3.out hO4 HK4.out
  · exact ref_only HO1.out hO2 HK2.out hO3 HK3.out hO4

/-! ### Start, Finish, Advance -/
/-- What the reference's test reads. -/
theorem Fr.busy_cells {t : TypeId} {w : World} {T : List Nat} {r : Nat} {s : FSt} (h : Fr t r s w T) : ∃ A c n, n = s.pend.length ∧ w.cell? ⟨r, 1, none⟩ = some (.slice A n c) ∧ w.cell? ⟨r, 2, none⟩ = some (.bool s.fin) ∧ w.cell? ⟨r, 0, none⟩ = some (.int .i64 s.most) := by
  obtain ⟨A, c, h⟩ := h
  exact ⟨A, c, _, rfl, h.head.cell 1, h.head.cell 2, h.head.cell 0⟩
theorem not_busy {s : FSt} (h : ¬ s.busy) : s.pend.length = 0 ∧ s.fin = false := by
  unfold FSt.busy at h
  refine ⟨by omega, ?_⟩
  cases hf : s.fin
  · rfl
  · exact absurd (.inr hf) h
set_option maxHeartbeats 800000 in
theorem refStart_busy {w : World} {T : List Nat} {r : Nat} {s : FSt} (h : Fr 38 r s w T) (hb : s.busy) (x : Value) :
    Calls Tryd.prog 17 #[.pointer (some ⟨r, 0, none⟩), x] w fun e w' => e = .returned (.int .i64 4) ∧ w = w' := by
  obtain ⟨A, c, n, hn, c1, c2, c0⟩ := h.busy_cells
  clear h c0
  by_cases h0 : 0 < n
  · have h1 : (0 : Int) < (n : Int) := by omega
    clear h0 hb hn
    go_enter Tryd.func17, Tryd.ntmps17
    go_wp2
    go_ret
    exact ⟨rfl, rfl⟩
  · obtain rfl : n = 0 := by omega
    have hf : s.fin = true := hb.elim (fun h => by omega) id
    rw [hf] at c2
    clear hb hn hf h0
    go_enter Tryd.func17, Tryd.ntmps17
    go_wp2
    go_ret
    exact ⟨rfl, rfl⟩
set_option maxHeartbeats 800000 in
theorem refStart_c {w : World} {T : List Nat} {r : Nat} {s : FSt} (h : Fr 38 r s w T) {B : Nat} {X : Option Addr} {m d : Nat} {b : List UInt8} (hb : Reads w B X m (vbs b)) (hB : B ≤ w.heap.size) (hmd : m ≤ d) (hdm : d ≤ maxLen)
    (e : Nat) (s' : FSt) (hs : startS s b = (e, s')) :
    Calls Tryd.prog 17 #[.pointer (some ⟨r, 0, none⟩), .slice X m d] w fun e' w' => e' = .returned (.int .i64 e) ∧ Turned (Fr 38 r s') w T w' := by
  have hbl : b.length = m := by have := hb.1; rwa [vbs_length] at this
  unfold startS at hs
  by_cases hbusy : s.busy
  · rw [if_pos hbusy] at hs
    obtain ⟨rfl, rfl⟩ := Prod.mk.inj hs
    refine (refStart_busy h hbusy _).mono ?_
    rintro e w' ⟨rfl, rfl⟩
    exact ⟨rfl, Turned.refl h⟩
  · rw [if_neg hbusy] at hs
    obtain ⟨hp0, hf0⟩ := not_busy hbusy
    obtain ⟨A, c, n, hn, c1, c2, c0⟩ := h.busy_cells
    obtain rfl : n = 0 := by omega
    rw [hf0] at c2
    by_cases h0 : m = 0
    · rw [if_pos (.inl (by omega))] at hs
      obtain ⟨rfl, rfl⟩ := Prod.mk.inj hs
      have HR := Lib.hid (Turned.refl h)
      subst h0
      clear h hb hs hbusy hp0 hf0 hn
      go_enter Tryd.func17, Tryd.ntmps17
      go_wp2
      go_ret
      exact ⟨rfl, HR.out⟩
    · have hm0 : ¬ (m : Int) = 0 := by omega
      by_cases h1 : s.most < m
      · rw [if_pos (.inr (by omega))] at hs
        obtain ⟨rfl, rfl⟩ := Prod.mk.inj hs
        have HR := Lib.hid (Turned.refl h)
        have h2 : (s.most : Int) < (m : Int) := by omega
        clear h hb hs hbusy hbl hp0 hf0 hn
        go_enter Tryd.func17, Tryd.ntmps17
        go_wp2
        go_ret
        exact ⟨rfl, HR.out⟩
      · rw [if_neg (by omega)] at hs
        obtain ⟨rfl, rfl⟩ := Prod.mk.inj hs
        have h2 : ¬ (s.most : Int) < (m : Int) := by omega
        have H := Lib.hid h
        obtain ⟨A, c, hA⟩ := h
        have hm : m ≤ 65536 := by have := hA.most.2; omega
        have HC := Lib.hid (refChunk_c (d := d) hb hB hm)
        have hl5 : Hid ((chunkOf b).length ≤ 65545) := Lib.hid (by have h1 := chunkOf_le (p := b) (by omega); omega)
        have HA := Lib.hid hA
        clear hA hb hs hbusy hbl hm hp0 hf0 hn
        go_enter Tryd.func17, Tryd.ntmps17
        go_wp2_with (go_at_call 22; refine HC.out.mono ?_; rintro e w2 ⟨A2, d2, rfl, hR2, hk2, hO2⟩; have HR2 := Lib.hid hR2; have HK2 := Lib.hid hk2; have HO2 := Lib.hid hO2; have hfz := (HA.out.head.only hO2 (by simp)).free 1; have hce : w2.cell? ⟨r, 1, none⟩ = some (.slice A s.pend.length c) := (HA.out.head.only hO2 (by simp)).cell 1; clear hR2 hk2 hO2)
        go_ret
        exact ⟨rfl, turned_pend HA.out HO2.out HR2.out rfl (fun k hk => .inr (HK2.out k hk)) hl5.out⟩
set_option maxHeartbeats 800000 in
theorem refFinish_c {w : World} {T : List Nat} {r : Nat} {s : FSt} (h : Fr 38 r s w T) (e : Nat) (s' : FSt) (hs : finishS s = (e, s')) :
    Calls Tryd.prog 18 #[.pointer (some ⟨r, 0, none⟩)] w fun e' w' => e' = .returned (.int .i64 e) ∧ Turned (Fr 38 r s') w T w' := by
  unfold finishS at hs
  by_cases hbusy : s.busy
  · rw [if_pos hbusy] at hs
    obtain ⟨rfl, rfl⟩ := Prod.mk.inj hs
    have HR := Lib.hid (Turned.refl h)
    obtain ⟨A, c, n, hn, c1, c2, c0⟩ := h.busy_cells
    clear h c0 hs
    by_cases h0 : 0 < n
    · have h1 : (0 : Int) < (n : Int) := by omega
      clear h0 hbusy hn
      go_enter Tryd.func18, Tryd.ntmps18
      go_wp2
      go_ret
      exact ⟨rfl, HR.out⟩
    · obtain rfl : n = 0 := by omega
      have hf : s.fin = true := hbusy.elim (fun h => by omega) id
      rw [hf] at c2
      clear hbusy hn hf h0
      go_enter Tryd.func18, Tryd.ntmps18
      go_wp2
      go_ret
      exact ⟨rfl, HR.out⟩
  · rw [if_neg hbusy] at hs
    obtain ⟨rfl, rfl⟩ := Prod.mk.inj hs
    obtain ⟨hp0, hf0⟩ := not_busy hbusy
    obtain ⟨A, c, n, hn, c1, c2, c0⟩ := h.busy_cells
    obtain rfl : n = 0 := by omega
    rw [hf0] at c2
    obtain ⟨A, c, hA⟩ := h
    have HC := Lib.hid (refChunk_c (w := w) (B := 0) (X := none) (m := 0) (d := 0) (b := []) (by simpa [vbs] using Reads.none_) (Nat.zero_le _) (by omega))
    have hl5 : Hid ((chunkOf []).length ≤ 65545) := Lib.hid (by rw [chunkOf_nil]; simp)
    have HA := Lib.hid hA
    clear hA hs hbusy hp0 hf0 hn
    go_enter Tryd.func18, Tryd.ntmps18
    go_wp2_with (go_at_call 22; refine HC.out.mono ?_; rintro e w2 ⟨A2, d2, rfl, hR2, hk2, hO2⟩; have HR2 := Lib.hid hR2; have HK2 := Lib.hid hk2; have HO2 := Lib.hid hO2; have hb2 := HA.out.head.only hO2 (by simp); have hfz := hb2.free 1; have hfy := hb2.free 2; have hce : w2.cell? ⟨r, 1, none⟩ = some (.slice A s.pend.length c) := hb2.cell 1; have hcf : w2.cell? ⟨r, 2, none⟩ = some (.bool s.fin) := hb2.cell 2; clear hR2 hk2 hO2 hb2)
    go_ret
    exact ⟨rfl, (turned_pend HA.out HO2.out HR2.out rfl (fun k hk => .inr (HK2.out k hk)) hl5.out).trans fun T' h' => turned_fin h'⟩
set_option maxHeartbeats 800000 in
theorem refAdvance_c {w : World} {T : List Nat} {r : Nat} {s : FSt} (h : Fr 38 r s w T) (n : Int) (e : Nat) (s' : FSt) (hs : advS s n = (e, s')) :
    Calls Tryd.prog 19 #[.pointer (some ⟨r, 0, none⟩), .int .i64 n] w fun e' w' => e' = .returned (.int .i64 e) ∧ Turned (Fr 38 r s') w T w' := by
  obtain ⟨A, c, h⟩ := h
  have c1 := h.head.cell 1
  have f1 := h.head.free 1
  have hle := h.row.le
  have hcm := h.row.max
  unfold advS at hs
  by_cases h0 : n < 0
  · rw [if_pos (.inl h0)] at hs
    obtain ⟨rfl, rfl⟩ := Prod.mk.inj hs
    have HR := Lib.hid (Turned.refl (P := Fr 38 r s) ⟨A, c, h⟩)
    generalize s.pend.length = m at *
    clear h hs
    go_enter Tryd.func19, Tryd.ntmps19
    go_wp2
    go_ret
    exact ⟨rfl, HR.out⟩
  · by_cases h1 : (s.pend.length : Int) < n
    · rw [if_pos (.inr h1)] at hs
      obtain ⟨rfl, rfl⟩ := Prod.mk.inj hs
      have HR := Lib.hid (Turned.refl (P := Fr 38 r s) ⟨A, c, h⟩)
      generalize s.pend.length = m at *
      clear h hs
      go_enter Tryd.func19, Tryd.ntmps19
      go_wp2
      go_ret
      exact ⟨rfl, HR.out⟩
    · rw [if_neg (by omega)] at hs
      obtain ⟨rfl, rfl⟩ := Prod.mk.inj hs
      obtain ⟨k, rfl⟩ : ∃ k : Nat, n = (k : Int) := ⟨n.toNat, by omega⟩
      have hk : k ≤ s.pend.length := by omega
      have HR := Lib.hid (turned_adv h k hk)
      generalize s.pend.length = m at *
      unfold maxLen at hcm
      have h2 : ¬ (m : Int) < (k : Int) := by omega
      clear h hs h1
      go_enter Tryd.func19, Tryd.ntmps19
      go_wp2
      go_ret
      exact ⟨rfl, HR.out⟩

/-! ### Encode -/
set_option maxHeartbeats 800000 in
theorem refEncode_bad (w : World) {n : Int} (h : n < 1 ∨ 65536 < n) (x : Value) :
    Calls Tryd.prog 21 #[x, .int .i64 n] w fun e w' => e = .returned (.tuple #[.slice none 0 0, .int .i64 3]) ∧ w = w' := by
  by_cases h1 : n < 1
  · clear h
    go_enter Tryd.func21, Tryd.ntmps21
    go_wp2
    go_ret2
    exact ⟨rfl, rfl⟩
  · have h2 : 65536 < n := by omega
    clear h
    go_enter Tryd.func21, Tryd.ntmps21
    go_wp2
    go_ret2
    exact ⟨rfl, rfl⟩
end Go.Proofs.YtbphkdaciebgmaaDoor
