/-
  Contracts of the decoder's accept, decode and Feed.
-/
import Derived.Test.YtfchkaoifbcgkaaDoorDec2
import Derived.Test.YtfchkaoifbcgkaaDoorHexParse
import Derived.LoopTactic
namespace Go.Proofs.YtfchkaoifbcgkaaDoor
open Go.RowKit Go.BigFrame
set_option linter.unusedVariables false
set_option linter.unusedSimpArgs false
attribute [local go_sem ↓] sliced_cut run_min2 run_max2
attribute [local go_sem] cutA_zero

/-- None of the tables is among the blocks T. -/
def TabFar (T : List Nat) : Prop := ∀ k, k ∈ T → k ≠ 2 ∧ k ≠ 3 ∧ k ≠ 5
theorem TabFar.new {w : World} {T : List Nat} {B : Nat} (hT : Tabs w) (hB : w.heap.size ≤ B) (h : ∀ k, k ∈ T → B ≤ k) : TabFar T := fun k hk => by
  have h1 := hT.lt
  have h2 := h k hk
  exact ⟨by omega, by omega, by omega⟩
theorem TabFar.grown {w : World} {T T' : List Nat} (hT : Tabs w) (h : TabFar T) (hk : ∀ k, k ∈ T' → k ∈ T ∨ w.heap.size ≤ k) : TabFar T' := fun k hk' => by
  rcases hk k hk' with h1 | h1
  · exact h k h1
  · have h2 := hT.lt
    exact ⟨by omega, by omega, by omega⟩

theorem dec_kept {w w1 w2 w3 : World} {T : List Nat} {r : Nat} {s : DSt} {o e : Nat} {A : Option Addr} {a : Nat} {S : Option Addr} {z : Nat} {Y : Option Addr} {y : Nat} (h : DecAt w T r s o e A a S z Y y) (hO1 : Only [] w w1) (hO2 : Only (rowT A) w1 w2)
    (hR : RowAt w2 5 A s.line.length a (vbs s.line)) (hO3 : Only [] w2 w3) : DecAt w3 T r s o e A a S z Y y ∧ Only T w w3 := by
  have hO : Only (rowT A) w w3 := ((hO1.more (by simp)).trans hO2).trans (hO3.more (by simp))
  exact ⟨⟨h.head.only hO h.neA, hR.only hO3 (by simp), h.sizes.only hO (fun k hk hk' => h.neAS k hk' hk), h.pay.only hO (fun k hk hk' => h.apart k hk' hk), h.apart, h.inR, h.inA, h.inS, h.inY, fun k hk => Nat.lt_of_lt_of_le (h.lt k hk) hO.size⟩, hO.more h.inA⟩

/-! ### acceptLine -/
set_option maxRecDepth 100000 in
set_option maxHeartbeats 3200000 in
theorem line_c {w : World} {T : List Nat} {r : Nat} {s s' : DSt} {o e : Nat} (h : Dc r s o e w T) (hT : Tabs w) (hf : TabFar T) (hl : s.line.length ≤ 6) (hz : s.sizes.length ≤ 1000000) (hp : s.place ≤ 1) (c : UInt8) (b : Bool)
    (hacc : (acc s c = some s' ∧ b = true) ∨ (acc s c = none ∧ b = false ∧ s' = s)) :
    Calls Tryd.prog 36 #[.pointer (some ⟨r, 0, none⟩), .int .u8 (c.toNat : Int)] w fun e' w' => e' = .returned (.bool b) ∧ Turned (Dc r s' o e) w T w' := by
  obtain ⟨A, a, S, z, Y, y, h⟩ := h
  obtain ⟨i0, hi, hz0, hz1, hz2⟩ := info_parts info_byte
  have c1 := h.head.cell 1
  have H := Lib.hid h
  have HT := Lib.hid hT
  have HF := Lib.hid hf
  have hrow := Lib.hid (h.line.alloc (.cells #[.int .u8 (c.toNat : Int)] 5))
  have hsrc := Lib.hid (one_reads w 5 (.int .u8 (c.toNat : Int)))
  obtain ⟨n, hn⟩ : ∃ n, n = s.line.length := ⟨_, rfl⟩
  rw [← hn] at hl
  simp only [List.getElem?_cons_succ, List.getElem?_cons_zero] at c1
  rw [← hn] at c1 hrow
  have HN := Lib.hid hn
  have hb1 := Lib.hid (show n + 1 ≤ maxLen by unfold maxLen; omega)
  have hb2 := Lib.hid (show (n + 1) * 1 ≤ 140737488355328 by omega)
  have hO0 : Hid (Only [] w (w.alloc (.cells #[.int .u8 (c.toNat : Int)] 5))) := Lib.hid ((Only.refl [] w).alloc _)
  have h1u := Lib.hid (one_int .u8 (c.toNat : Int))
  have HZ := Lib.hid hz
  have HACC := Lib.hid hacc
  have HP := Lib.hid hp
  clear h hn hacc hT hf hz hp
  have hcl : (∃ v k : Nat, parseOf (s.line ++ [c]) = (v, k, 0) ∧ b = true ∧ s' = s.begin v) ∨ (parseOf (s.line ++ [c]) = (0, 0, 7) ∧ b = true ∧ s' = ⟨1, s.line ++ [c], s.miss, s.sizes, s.pay⟩) ∨ (parseOf (s.line ++ [c]) = (0, 0, 5) ∧ b = false ∧ s = s') := by
    have h1 := HACC.out
    unfold acc at h1
    rw [if_pos HP.out] at h1
    rcases parse_class (s.line ++ [c]) with ⟨v, k, h2, _, _⟩ | h2 | h2
    · rw [h2] at h1
      simp only [if_true] at h1
      rcases h1 with ⟨h1, h3⟩ | ⟨h1, _⟩
      · injection h1 with h1
        exact .inl ⟨v, k, h2, h3, h1.symm⟩
      · cases h1
    · rw [h2] at h1
      simp at h1
      exact .inr (.inl ⟨h2, h1.2, h1.1.symm⟩)
    · rw [h2] at h1
      simp at h1
      exact .inr (.inr ⟨h2, h1.1, h1.2.symm⟩)
  clear HACC
  rcases hcl with ⟨v, k, hpo, rfl, rfl⟩ | ⟨hpo, rfl, rfl⟩ | ⟨hpo, rfl, rfl⟩
  case' inl =>
    have HBG := Lib.hid (fun (w3 : World) (h3 : Dc r s o e w3 T) => begin_ch h3 v HZ.out _ rfl)
  all_goals
    have HPO := Lib.hid hpo
    clear hpo
    go_enter Tryd.func36, Tryd.ntmps36
    go_wp2_with (first | (with_reducible refine wp_rowAppend_kept rfl (.tmp 12) (.tmp 14) 26 rfl 5 i0 _ 1 Tryd.underlying26 hi hz0 hz1 hz2 rfl A n a (vbs s.line) rfl hrow.out (w.heap.size + 1) (some ⟨w.heap.size, 0, none⟩) 1 1 [.int .u8 (c.toNat : Int)] rfl hsrc.out h1u.out hb1.out hb2.out (n + 1) rfl ?_; intro A2 a2 w2 HR2 hO2 HK2 HKP; have HO2 := Lib.hid hO2; clear hO2))
    have hRv : RowAt w2 5 A2 (n + 1) a2 (vbs (s.line ++ [c])) := by rw [vbs_append]; exact HR2.out
    have hOw : Only T w w2 := (hO0.out.more (by simp)).trans (HO2.out.more H.out.inA)
    have HPC := Lib.hid (parse_c (HT.out.only' hOw HF.out) hRv.reads (Nat.le_refl _) hRv.le hRv.max)
    have HRV := Lib.hid hRv
    clear hRv hOw
    rw [HPO.out] at HPC
    unfold ansV at HPC
    simp only at HPC
  · go_wp2_with (first | (go_at_call 42; refine HPC.out.mono ?_; rintro e3 w3 ⟨rfl, hO3⟩; have HO3 := Lib.hid hO3; clear hO3; have HBW := Lib.hid (HBG.out w3 ⟨_, _, _, _, _, _, (dec_kept H.out hO0.out HO2.out (by rw [← HN.out]; exact HKP.out) HO3.out).1⟩)) | (go_at_call 43; (with_reducible refine HBW.out.mono ?_); rintro e4 w4 ⟨rfl, hT4⟩; have HT4 := Lib.hid hT4; clear hT4))
    go_ret
    refine ⟨rfl, ?_⟩
    obtain ⟨h3, hO3⟩ := dec_kept H.out hO0.out HO2.out (by rw [← HN.out]; exact HKP.out) HO3.out
    obtain ⟨T4, hD4, hk4, hO4⟩ := HT4.out
    exact ⟨T4, hD4, fun k hk => (hk4 k hk).imp id (fun h => Nat.le_trans hO3.size h), hO3.trans hO4⟩
  · go_wp2_with (first | (go_at_call 42; refine HPC.out.mono ?_; rintro e3 w3 ⟨rfl, hO3⟩; have HO3 := Lib.hid hO3; have HB3 := Lib.hid (((H.out.head.only hO0.out (by simp)).only HO2.out H.out.neA).only hO3 (by simp)); clear hO3; have d0 := HB3.out.cell 0; have f0 := HB3.out.free 0; have d1 := HB3.out.cell 1; have f1 := HB3.out.free 1; simp only [List.getElem?_cons_succ, List.getElem?_cons_zero] at d0 d1))
    go_ret
    refine ⟨rfl, dec_line H.out hO0.out (HO2.out.trans (HO3.out.more (by simp))) (((Only.refl [r] w3).setCell (.inl (by simp)) _).setCell (.inl (by simp)) _) (HRV.out.only HO3.out (by simp)) HK2.out rfl rfl ?_⟩
    have := (HB3.out.set_ 0 (.int .i64 1)).set_ 1 (.slice A2 (n + 1) a2)
    simpa using this
  · go_wp2_with (first | (go_at_call 42; refine HPC.out.mono ?_; rintro e3 w3 ⟨rfl, hO3⟩; have HO3 := Lib.hid hO3; clear hO3))
    go_ret
    obtain ⟨h3, hO3⟩ := dec_kept H.out hO0.out HO2.out (by rw [← HN.out]; exact HKP.out) HO3.out
    exact ⟨rfl, T, ⟨_, _, _, _, _, _, h3⟩, fun k hk => .inl hk, hO3⟩
end Go.Proofs.YtfchkaoifbcgkaaDoor
