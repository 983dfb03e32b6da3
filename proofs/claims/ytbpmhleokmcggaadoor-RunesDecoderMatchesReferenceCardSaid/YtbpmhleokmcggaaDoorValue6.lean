/-
  Contract of the reference's value of layer 6.
-/
import Derived.Test.YtbpmhleokmcggaaDoorFirst
import Derived.Laws.Bits
namespace Go.Proofs.YtbpmhleokmcggaaDoor
open Go.RowKit Go.BigFrame
set_option linter.unusedVariables false
set_option linter.unusedSimpArgs false

/-- The bytes of a valid encoding of k bytes. -/
def Rng (k b0 b1 b2 b3 : Nat) : Prop :=
  (k = 1 ∧ b0 < 128) ∨ (k = 2 ∧ 194 ≤ b0 ∧ b0 < 224 ∧ 128 ≤ b1 ∧ b1 ≤ 191) ∨ (k = 3 ∧ 224 ≤ b0 ∧ b0 < 240 ∧ 128 ≤ b1 ∧ b1 ≤ 191 ∧ 128 ≤ b2 ∧ b2 ≤ 191) ∨
  (k = 4 ∧ 240 ≤ b0 ∧ b0 ≤ 244 ∧ 128 ≤ b1 ∧ b1 ≤ 191 ∧ 128 ≤ b2 ∧ b2 ≤ 191 ∧ 128 ≤ b3 ∧ b3 ≤ 191)
theorem firstC_rng {n b1 b2 b3 z lo hi : Nat} (h : (firstC n b1 b2 b3 z lo hi).1 ≠ 0) (k2 : 2 ≤ z) (k4 : z ≤ 4) (hlo : 128 ≤ lo) (hhi : hi ≤ 191) :
    (firstC n b1 b2 b3 z lo hi).1 = z ∧ 128 ≤ b1 ∧ b1 ≤ 191 ∧ (3 ≤ z → 128 ≤ b2 ∧ b2 ≤ 191) ∧ (4 ≤ z → 128 ≤ b3 ∧ b3 ≤ 191) := by
  revert h
  unfold firstC
  repeat' split
  all_goals intro h
  all_goals first | exact absurd rfl h | (refine ⟨?_, ?_, ?_, fun _ => ⟨?_, ?_⟩, fun _ => ⟨?_, ?_⟩⟩ <;> omega)
theorem fst_rng {l : List UInt8} (h : (fst l).1 ≠ 0) : Rng (fst l).1 (bt l 0) (bt l 1) (bt l 2) (bt l 3) := by
  revert h
  unfold fst
  split
  · intro h; exact absurd rfl h
  unfold firstN
  split
  · rename_i h0
    intro _
    exact .inl ⟨rfl, h0⟩
  split
  · intro h; exact absurd rfl h
  rename_i h1 h2
  intro h
  have l0 := bt_lt l 0
  generalize bt l 0 = b0 at *
  have hz : (szT b0 = 2 ∧ 194 ≤ b0 ∧ b0 < 224) ∨ (szT b0 = 3 ∧ 224 ≤ b0 ∧ b0 < 240) ∨ (szT b0 = 4 ∧ 240 ≤ b0 ∧ b0 ≤ 244) := by
    revert h2
    unfold szT
    repeat' split
    all_goals omega
  have hr := firstC_rng h (by omega) (by omega) (loT_ge b0).1 (hiT_le b0).1
  rw [hr.1]
  obtain ⟨-, r1, r2, r3, r4⟩ := hr
  rcases hz with ⟨e, q1, q2⟩ | ⟨e, q1, q2⟩ | ⟨e, q1, q2⟩
  · rw [e]; exact .inr (.inl ⟨rfl, q1, q2, r1, r2⟩)
  · rw [e]; exact .inr (.inr (.inl ⟨rfl, q1, q2, r1, r2, (r3 (by omega)).1, (r3 (by omega)).2⟩))
  · rw [e]; exact .inr (.inr (.inr ⟨rfl, q1, q2, r1, r2, (r3 (by omega)).1, (r3 (by omega)).2, (r4 (by omega)).1, (r4 (by omega)).2⟩))
set_option maxRecDepth 100000 in
set_option maxHeartbeats 1600000 in
theorem value_c {w : World} (t : ByteArray) (k : Nat) (hk : t.size = k) (hr : Rng k (bt t.data.toList 0) (bt t.data.toList 1) (bt t.data.toList 2) (bt t.data.toList 3)) :
    Calls Tryd.prog 24 #[.string t] w fun e w' => e = .returned (.int .i32 (val k t.data.toList : Nat)) ∧ ∃ n, w' = w.drewN n := by
  have e0 : ∀ h : 0 < t.size, (t[0]'h).toNat = bt t.data.toList 0 := fun h => sl_at t 0 h
  have e1 : ∀ h : 1 < t.size, (t[1]'h).toNat = bt t.data.toList 1 := fun h => sl_at t 1 h
  have e2 : ∀ h : 2 < t.size, (t[2]'h).toNat = bt t.data.toList 2 := fun h => sl_at t 2 h
  have e3 : ∀ h : 3 < t.size, (t[3]'h).toNat = bt t.data.toList 3 := fun h => sl_at t 3 h
  unfold val
  generalize bt t.data.toList 0 = b0 at *
  generalize bt t.data.toList 1 = b1 at *
  generalize bt t.data.toList 2 = b2 at *
  generalize bt t.data.toList 3 = b3 at *
  rcases hr with ⟨rfl, q0⟩ | ⟨rfl, q0, q1, q2, q3⟩ | ⟨rfl, q0, q1, q2, q3, q4, q5⟩ | ⟨rfl, q0, q1, q2, q3, q4, q5, q6, q7⟩
  · have e0' := e0 (by omega)
    have hki : (t.size : Int) = 1 := by omega
    clear e0 e1 e2 e3
    go_enter Tryd.func24, Tryd.ntmps24
    go_wp2
    go_ret
    exact ⟨rfl, 0, rfl⟩
  · have e0' := e0 (by omega)
    have e1' := e1 (by omega)
    have hki : (t.size : Int) = 2 := by omega
    have hv : ((valueN 2 b0 b1 b2 b3 : Nat) : Int) = ((b0 : Int) - 192) * 64 + ((b1 : Int) - 128) := by
      simp only [valueN, if_neg (show ¬ (2 = 1) by decide),  if_true]
      omega
    have HV := Lib.hid hv
    clear hv
    clear e0 e1 e2 e3
    go_enter Tryd.func24, Tryd.ntmps24
    go_wp2
    go_quiet (fail)
    go_wp2
    go_ret
    refine ⟨?_, _, rfl⟩
    rw [HV.out]
    rfl
  · have e0' := e0 (by omega)
    have e1' := e1 (by omega)
    have e2' := e2 (by omega)
    have hki : (t.size : Int) = 3 := by omega
    have hv : ((valueN 3 b0 b1 b2 b3 : Nat) : Int) = ((b0 : Int) - 224) * 4096 + ((b1 : Int) - 128) * 64 + ((b2 : Int) - 128) := by
      simp only [valueN, if_neg (show ¬ (3 = 1) by decide), if_neg (show ¬ (3 = 2) by decide),  if_true]
      omega
    have HV := Lib.hid hv
    clear hv
    clear e0 e1 e2 e3
    go_enter Tryd.func24, Tryd.ntmps24
    go_wp2
    go_quiet (fail)
    go_wp2
    go_ret
    refine ⟨?_, _, rfl⟩
    rw [HV.out]
    rfl
  · have e0' := e0 (by omega)
    have e1' := e1 (by omega)
    have e2' := e2 (by omega)
    have e3' := e3 (by omega)
    have hki1 : ¬ ((t.size : Int) = 1) := by omega
    have hki2 : ¬ ((t.size : Int) = 2) := by omega
    have hki3 : ¬ ((t.size : Int) = 3) := by omega
    have hn0 : (0 : Int) < (t.size : Int) := by omega
    have hn1 : (1 : Int) < (t.size : Int) := by omega
    have hn2 : (2 : Int) < (t.size : Int) := by omega
    have hn3 : (3 : Int) < (t.size : Int) := by omega
    have hv : ((valueN 4 b0 b1 b2 b3 : Nat) : Int) = ((b0 : Int) - 240) * 262144 + ((b1 : Int) - 128) * 4096 + ((b2 : Int) - 128) * 64 + ((b3 : Int) - 128) := by
      simp only [valueN, if_neg (show ¬ (4 = 1) by decide), if_neg (show ¬ (4 = 2) by decide), if_neg (show ¬ (4 = 3) by decide)]
      omega
    have HV := Lib.hid hv
    clear hv
    clear e0 e1 e2 e3
    go_enter Tryd.func24, Tryd.ntmps24
    go_wp2
    go_quiet (fail)
    go_wp2
    go_ret
    refine ⟨?_, _, rfl⟩
    rw [HV.out]
    rfl
end Go.Proofs.YtbpmhleokmcggaaDoor
