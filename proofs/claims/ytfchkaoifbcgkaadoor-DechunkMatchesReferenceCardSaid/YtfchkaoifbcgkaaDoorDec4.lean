/-
  Contracts of the decoder's accept, decode and Feed, continued.
-/
import Derived.Test.YtfchkaoifbcgkaaDoorDec3
namespace Go.Proofs.YtfchkaoifbcgkaaDoor
open Go.RowKit Go.BigFrame
set_option linter.unusedVariables false
set_option linter.unusedSimpArgs false
attribute [local go_sem ↓] sliced_cut run_min2 run_max2
attribute [local go_sem] cutA_zero

/-- What a byte does, as an answer and the state behind it. -/
def accB (s : DSt) (c : UInt8) (b : Bool) (s' : DSt) : Prop := (acc s c = some s' ∧ b = true) ∨ (acc s c = none ∧ b = false ∧ s' = s)
theorem accB_two {s s' : DSt} {c : UInt8} {b : Bool} (h : accB s c b s') (hp : s.place = 2) : b = true ∧ s' = ⟨if s.miss - 1 = 0 then 3 else 2, s.line, s.miss - 1, s.sizes, s.pay ++ [c]⟩ := by
  unfold accB acc at h
  rw [if_neg (by omega), if_pos hp] at h
  rcases h with ⟨h1, h2⟩ | ⟨h1, _⟩
  · injection h1 with h1; exact ⟨h2, h1.symm⟩
  · cases h1
theorem accB_three {s s' : DSt} {c : UInt8} {b : Bool} (h : accB s c b s') (hp : s.place = 3) : (c = 13 ∧ b = true ∧ s' = ⟨4, s.line, s.miss, s.sizes, s.pay⟩) ∨ (c ≠ 13 ∧ b = false ∧ s' = s) := by
  unfold accB acc at h
  rw [if_neg (by omega), if_neg (by omega), if_pos hp] at h
  by_cases hc : c = 13
  · rw [if_pos hc] at h
    rcases h with ⟨h1, h2⟩ | ⟨h1, _⟩
    · injection h1 with h1; exact .inl ⟨hc, h2, h1.symm⟩
    · cases h1
  · rw [if_neg hc] at h
    rcases h with ⟨h1, h2⟩ | ⟨_, h1⟩
    · cases h1
    · exact .inr ⟨hc, h1⟩
theorem accB_four {s s' : DSt} {c : UInt8} {b : Bool} (h : accB s c b s') (hp : s.place = 4) : (c = 10 ∧ b = true ∧ s' = ⟨if s.sizes.getLast? = some 0 then 5 else 0, s.line, s.miss, s.sizes, s.pay⟩) ∨ (c ≠ 10 ∧ b = false ∧ s' = s) := by
  unfold accB acc at h
  rw [if_neg (by omega), if_neg (by omega), if_neg (by omega), if_pos hp] at h
  by_cases hc : c = 10
  · rw [if_pos hc] at h
    rcases h with ⟨h1, h2⟩ | ⟨h1, _⟩
    · injection h1 with h1; exact .inl ⟨hc, h2, h1.symm⟩
    · cases h1
  · rw [if_neg hc] at h
    rcases h with ⟨h1, h2⟩ | ⟨_, h1⟩
    · cases h1
    · exact .inr ⟨hc, h1⟩
theorem accB_five {s s' : DSt} {c : UInt8} {b : Bool} (h : accB s c b s') (hp : s.place = 5) : b = false ∧ s' = s := by
  unfold accB acc at h
  rw [if_neg (by omega), if_neg (by omega), if_neg (by omega), if_neg (by omega)] at h
  rcases h with ⟨h1, _⟩ | ⟨_, h1⟩
  · cases h1
  · exact h1

/-! ### accept -/
set_option maxRecDepth 100000 in
set_option maxHeartbeats 3200000 in
theorem accept_c {w : World} {T : List Nat} {r : Nat} {s s' : DSt} {o e : Nat} (h : Dc r s o e w T) (hT : Tabs w) (hf : TabFar T) (hG : Good s o) (ho : o ≤ 1000000) (c : UInt8) (b : Bool) (hacc : accB s c b s') :
    Calls Tryd.prog 31 #[.pointer (some ⟨r, 0, none⟩), .int .u8 (c.toNat : Int)] w fun e' w' => e' = .returned (.bool b) ∧ Turned (Dc r s' o e) w T w' := by
  have c0 : w.cell? ⟨r, 0, none⟩ = some (.int .i64 s.place) := by obtain ⟨A, a, S, z, Y, y, h⟩ := h.head; exact h.cell 0
  have hp5 := hG.place
  have hz : s.sizes.length ≤ 1000000 := Nat.le_trans hG.count ho
  have hy : s.pay.length ≤ 1000000 := Nat.le_trans hG.bytes ho
  have hpl : s.place = 0 ∨ s.place = 1 ∨ s.place = 2 ∨ s.place = 3 ∨ s.place = 4 ∨ s.place = 5 := by omega
  rcases hpl with hp | hp | hp | hp | hp | hp
  · have HL := Lib.hid (line_c h hT hf hG.lineLe hz (by omega) c b hacc)
    rw [hp] at c0
    clear h hT hf hG ho hacc hp5 hz hy hp
    go_enter Tryd.func31, Tryd.ntmps31
    go_wp2_with (go_at_call 36; refine HL.out.mono ?_; rintro e1 w1 ⟨rfl, hT1⟩; have HT1 := Lib.hid hT1; clear hT1)
    go_ret
    exact ⟨rfl, HT1.out⟩
  · have HL := Lib.hid (line_c h hT hf hG.lineLe hz (by omega) c b hacc)
    rw [hp] at c0
    clear h hT hf hG ho hacc hp5 hz hy hp
    go_enter Tryd.func31, Tryd.ntmps31
    go_wp2_with (go_at_call 36; refine HL.out.mono ?_; rintro e1 w1 ⟨rfl, hT1⟩; have HT1 := Lib.hid hT1; clear hT1)
    go_ret
    exact ⟨rfl, HT1.out⟩
  · obtain ⟨rfl, rfl⟩ := accB_two hacc hp
    have HL := Lib.hid (payload_c h c (hG.pos hp) hG.miss hy hp _ _ rfl rfl)
    rw [hp] at c0
    clear h hT hf hG ho hacc hp5 hz hy hp
    generalize s.miss - 1 = m1 at *
    generalize (if m1 = 0 then 3 else 2) = q at *
    go_enter Tryd.func31, Tryd.ntmps31
    go_wp2_with (go_at_call 37; refine HL.out.mono ?_; rintro e1 w1 ⟨rfl, hT1⟩; have HT1 := Lib.hid hT1; clear hT1)
    go_ret
    exact ⟨rfl, HT1.out⟩
  · rcases accB_three hacc hp with ⟨rfl, rfl, rfl⟩ | ⟨hc, rfl, hs⟩
    · have HL := Lib.hid (only_same h 13 4)
      rw [hp] at c0
      clear h hT hf hG ho hacc hp5 hz hy hp
      go_enter Tryd.func31, Tryd.ntmps31
      go_wp2_with (go_at_call 38; refine HL.out.mono ?_; rintro e1 w1 ⟨rfl, hT1⟩; have HT1 := Lib.hid hT1; clear hT1)
      go_ret
      exact ⟨rfl, HT1.out⟩
    · have hs2 := hs.symm
      subst hs2
      have HL := Lib.hid (fun q => only_other w (.pointer (some ⟨r, 0, none⟩)) q (Ne.symm hc))
      have HR := Lib.hid (Turned.refl h)
      rw [hp] at c0
      clear h hT hf hG ho hacc hp5 hz hy hp hc
      go_enter Tryd.func31, Tryd.ntmps31
      go_wp2_with (go_at_call 38; refine (HL.out _).mono ?_; rintro e1 w1 ⟨rfl, rfl⟩)
      go_ret
      exact ⟨rfl, HR.out⟩
  · have HA := Lib.hid (after_c h (hG.sizes (by omega)) hz _ rfl)
    generalize hq : (if s.sizes.getLast? = some 0 then 5 else 0) = q at HA
    rcases accB_four hacc hp with ⟨rfl, rfl, rfl⟩ | ⟨hc, rfl, hs⟩
    · rw [hq]
      have HL := Lib.hid (fun w1 (h1 : Only [] w w1) => only_same ((dc_thing _ _ _ _).only h h1 (by simp)) 10 q)
      rw [hp] at c0
      clear h hT hf hG ho hacc hp5 hz hy hp hq
      go_enter Tryd.func31, Tryd.ntmps31
      go_wp2_with (first | (go_at_call 39; refine HA.out.mono ?_; rintro e1 w1 ⟨rfl, hO1⟩; have HO1 := Lib.hid hO1; clear hO1) | (go_at_call 38; refine (HL.out w1 HO1.out).mono ?_; rintro e2 w2 ⟨rfl, hT2⟩; have HT2 := Lib.hid hT2; clear hT2))
      go_ret
      obtain ⟨T2, hD, hk, hO⟩ := HT2.out
      exact ⟨rfl, T2, hD, fun k h => (hk k h).imp id (fun h => Nat.le_trans HO1.out.size h), (HO1.out.more (by simp)).trans hO⟩
    · have hs2 := hs.symm
      subst hs2
      have HL := Lib.hid (fun w1 q => only_other w1 (.pointer (some ⟨r, 0, none⟩)) q (Ne.symm hc))
      have HR := Lib.hid h
      rw [hp] at c0
      clear h hT hf hG ho hacc hp5 hz hy hp hc hq
      go_enter Tryd.func31, Tryd.ntmps31
      go_wp2_with (first | (go_at_call 39; refine HA.out.mono ?_; rintro e1 w1 ⟨rfl, hO1⟩; have HO1 := Lib.hid hO1; clear hO1) | (go_at_call 38; refine (HL.out w1 _).mono ?_; rintro e2 w2 ⟨rfl, rfl⟩))
      go_ret
      exact ⟨rfl, T, (dc_thing _ _ _ _).only HR.out HO1.out (by simp), fun k hk => .inl hk, HO1.out.more (by simp)⟩
  · obtain ⟨rfl, hs⟩ := accB_five hacc hp
    have hs2 := hs.symm
    subst hs2
    have HR := Lib.hid (Turned.refl h)
    rw [hp] at c0
    clear h hT hf hG ho hacc hp5 hz hy hp
    go_enter Tryd.func31, Tryd.ntmps31
    go_wp2
    go_ret
    exact ⟨rfl, HR.out⟩
end Go.Proofs.YtfchkaoifbcgkaaDoor
