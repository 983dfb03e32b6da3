/-
  Contract of utf8.FullRuneInString.
-/
import Derived.Test.YtbpmhleokmcggaaDoorTab6
namespace Go.Proofs.YtbpmhleokmcggaaDoor
open Go.RowKit Go.BigFrame
set_option linter.unusedVariables false
set_option linter.unusedSimpArgs false

set_option maxRecDepth 100000 in
set_option maxHeartbeats 1600000 in
theorem full_c {w : World} (hT : Tabs w) (s : ByteArray) :
    Calls Tryd.prog 30 #[.string s] w fun e w' => e = .returned (.bool (fullL s.data.toList)) ∧ Only [] w w' := by
  by_cases h0 : s.size = 0
  · have hr : fullL s.data.toList = false := by rw [sl_nil h0]; rfl
    have hz : (s.size : Int) = 0 := by omega
    rw [hr]
    go_enter Tryd.func30, Tryd.ntmps30
    go_wp2
    go_ret
    exact ⟨rfl, Only.refl _ _⟩
  have hpos : 0 < s.size := by omega
  have hz : ¬ ((s.size : Int) = 0) := by omega
  have hz1 : (0 : Int) < (s.size : Int) := by omega
  have hfl : fullL s.data.toList = !(firstN s.size (bt s.data.toList 0) (bt s.data.toList 1) (bt s.data.toList 2) (bt s.data.toList 3)).2 := by
    unfold fullL
    rw [if_neg (sl_ne h0), fst_str h0]
  have hs0 : (s[0]'hpos).toNat = bt s.data.toList 0 := sl_at s 0 hpos
  have hc0 := hT.1 (bt s.data.toList 0) (bt_lt _ _)
  have l0 := bt_lt s.data.toList 0
  have l1 := bt_lt s.data.toList 1
  have l2 := bt_lt s.data.toList 2
  have hs1 : ∀ h : 1 < s.size, (s[1]'h).toNat = bt s.data.toList 1 := fun h => sl_at s 1 h
  have hs2 : ∀ h : 2 < s.size, (s[2]'h).toNat = bt s.data.toList 2 := fun h => sl_at s 2 h
  rw [hfl]
  clear hfl
  generalize bt s.data.toList 0 = b0 at *
  generalize bt s.data.toList 1 = b1 at *
  generalize bt s.data.toList 2 = b2 at *
  generalize bt s.data.toList 3 = b3 at *
  rcases first_class l0 with ⟨hX, hb⟩ | ⟨hX, hb, hsz⟩ | ⟨i, hi, hX, k2, k4, hlo, hhi, hb⟩
  · rw [hX] at hc0
    have hr : (firstN s.size b0 b1 b2 b3).2 = false := by simp [firstN, hb]
    rw [hr]
    clear hT hs1 hs2
    go_enter Tryd.func30, Tryd.ntmps30
    go_wp2
    go_ret
    exact ⟨rfl, Only.refl _ _⟩
  · rw [hX] at hc0
    have hr : (firstN s.size b0 b1 b2 b3).2 = false := by simp [firstN, hsz]; split <;> rfl
    rw [hr]
    have h1 : (1 : Int) ≤ (s.size : Int) := by omega
    clear hT hs1 hs2
    go_enter Tryd.func30, Tryd.ntmps30
    go_wp2
    go_ret
    exact ⟨rfl, Only.refl _ _⟩
  · have ha0 := (hT.2 i hi).1
    have ha1 := (hT.2 i hi).2
    rw [Nat.mul_comm 2 i] at ha0 ha1
    rw [hlo] at ha0
    rw [hhi] at ha1
    have hF : firstN s.size b0 b1 b2 b3 = firstC s.size b1 b2 b3 (szT b0) (loT b0) (hiT b0) := by
      unfold firstN
      rw [if_neg (by omega), if_neg (by omega)]
    rw [hF]
    rw [hX] at hc0
    clear hF hX hlo hhi
    generalize szT b0 = z at *
    have hlo2 := (loT_ge b0).1
    generalize loT b0 = lo at *
    generalize hiT b0 = hj at *
    obtain ⟨X, hX⟩ : ∃ X : Nat, X = 16 * i + z := ⟨_, rfl⟩
    rw [← hX] at hc0
    have hx0 : X < 256 := by omega
    have hmod : (X : Int) % 8 = (z : Int) := by omega
    have hshr : (X : Int) / 16 = (i : Int) := by omega
    clear hX
    clear hT
    by_cases hn : z ≤ s.size
    · have hr : (firstC s.size b1 b2 b3 z lo hj).2 = false := firstC_done hn k2 k4
      rw [hr]
      have hni : (z : Int) ≤ (s.size : Int) := by omega
      clear hs1 hs2 ha0 ha1
      go_enter Tryd.func30, Tryd.ntmps30
      go_wp2
      go_ret
      exact ⟨rfl, Only.refl _ _⟩
    have hni : ¬ ((z : Int) ≤ (s.size : Int)) := by omega
    by_cases g1 : s.size = 1
    · have hr : (firstC s.size b1 b2 b3 z lo hj).2 = true := by simp [firstC, g1]
      rw [hr]
      have g1i : ¬ ((1 : Int) < (s.size : Int)) := by omega
      have g2i : ¬ ((2 : Int) < (s.size : Int)) := by omega
      clear hs1 hs2
      go_enter Tryd.func30, Tryd.ntmps30
      go_wp2
      go_quiet (fail)
      go_wp2
      go_ret
      exact ⟨rfl, ((Only.refl _ _).alloc _).drewN _⟩
    have g1i : (1 : Int) < (s.size : Int) := by omega
    have hs1' := hs1 (by omega)
    by_cases g2 : b1 < lo ∨ hj < b1
    · have hr : (firstC s.size b1 b2 b3 z lo hj).2 = false := by simp [firstC, g2]; split <;> simp <;> omega
      rw [hr]
      clear hs1 hs2
      by_cases g3 : b1 < lo
      · have g3i : (b1 : Int) < (lo : Int) := by omega
        go_enter Tryd.func30, Tryd.ntmps30
        go_wp2
        go_quiet (fail)
        go_wp2
        go_ret
        exact ⟨rfl, ((Only.refl _ _).alloc _).drewN _⟩
      · have g3i : ¬ ((b1 : Int) < (lo : Int)) := by omega
        have g4i : (hj : Int) < (b1 : Int) := by omega
        go_enter Tryd.func30, Tryd.ntmps30
        go_wp2
        go_quiet (fail)
        go_wp2
        go_ret
        exact ⟨rfl, ((Only.refl _ _).alloc _).drewN _⟩
    have g3n : ¬ b1 < lo := by omega
    have g4n : ¬ hj < b1 := by omega
    have g3i : ¬ ((b1 : Int) < (lo : Int)) := by omega
    have g4i : ¬ ((hj : Int) < (b1 : Int)) := by omega
    by_cases g5 : s.size ≤ 2
    · have hr : (firstC s.size b1 b2 b3 z lo hj).2 = true := by
        unfold firstC
        rw [if_neg (by omega), if_neg g2, if_neg (by omega), if_pos g5]
      rw [hr]
      have g2i : ¬ ((2 : Int) < (s.size : Int)) := by omega
      clear hs1 hs2
      go_enter Tryd.func30, Tryd.ntmps30
      go_wp2
      go_quiet (fail)
      go_wp2
      go_ret
      exact ⟨rfl, ((Only.refl _ _).alloc _).drewN _⟩
    have g2i : (2 : Int) < (s.size : Int) := by omega
    have hs2' := hs2 (by omega)
    by_cases g6 : b2 < 128
    · have hr : (firstC s.size b1 b2 b3 z lo hj).2 = false := by
        unfold firstC
        rw [if_neg (by omega), if_neg g2, if_neg (by omega), if_neg g5, if_pos (by omega)]
      rw [hr]
      have g6i : (b2 : Int) < 128 := by omega
      clear hs1 hs2
      go_enter Tryd.func30, Tryd.ntmps30
      go_wp2
      go_quiet (fail)
      go_wp2
      go_ret
      exact ⟨rfl, ((Only.refl _ _).alloc _).drewN _⟩
    by_cases g7 : 191 < b2
    · have hr : (firstC s.size b1 b2 b3 z lo hj).2 = false := by
        unfold firstC
        rw [if_neg (by omega), if_neg g2, if_neg (by omega), if_neg g5, if_pos (by omega)]
      rw [hr]
      have g6i : ¬ ((b2 : Int) < 128) := by omega
      have g7i : 191 < (b2 : Int) := by omega
      clear hs1 hs2
      go_enter Tryd.func30, Tryd.ntmps30
      go_wp2
      go_quiet (fail)
      go_wp2
      go_ret
      exact ⟨rfl, ((Only.refl _ _).alloc _).drewN _⟩
    have hr : (firstC s.size b1 b2 b3 z lo hj).2 = true := by
      unfold firstC
      rw [if_neg (by omega), if_neg g2, if_neg (by omega), if_neg (by omega), if_neg (by omega), if_neg (by omega), if_pos (by omega)]
    rw [hr]
    have g6i : ¬ ((b2 : Int) < 128) := by omega
    have g7i : ¬ (191 < (b2 : Int)) := by omega
    clear hs1 hs2
    go_enter Tryd.func30, Tryd.ntmps30
    go_wp2
    go_quiet (fail)
    go_wp2
    go_ret
    exact ⟨rfl, ((Only.refl _ _).alloc _).drewN _⟩
end Go.Proofs.YtbpmhleokmcggaaDoor
