/-
  The law FramerEncodeLength, walked.
-/
import Derived.Test.YtbphkdaciebgmaaDoorFramerLaw
namespace Go.Proofs.YtbphkdaciebgmaaDoor
open Go.RowKit Go.BigFrame
set_option linter.unusedVariables false
set_option linter.unusedSimpArgs false
attribute [local go_sem ↓] sliced_cut run_min2 run_max2
attribute [local go_sem] cutA_zero

/-- What the size lines and line ends of the chunks of n bytes take. -/
def costOf (k n : Nat) : Nat := if h : n = 0 ∨ k = 0 then 0 else (hexOf (min n k)).length + 4 + costOf k (n - k)
termination_by n
decreasing_by omega
theorem costOf_zero (k : Nat) : costOf k 0 = 0 := by rw [costOf]; simp
theorem costOf_pos {k n : Nat} (hk : 0 < k) (hn : 0 < n) : costOf k n = (hexOf (min n k)).length + 4 + costOf k (n - k) := by
  rw [costOf, dif_neg (by omega)]
theorem costOf_le {k : Nat} (hk : k ≤ 65536) : ∀ n, costOf k n ≤ 9 * n := by
  intro n
  induction n using Nat.strongRecOn with
  | ind n ih =>
    rw [costOf]
    split
    · omega
    · have := hexOf_le (n := min n k) (by omega)
      have := ih (n - k) (by omega)
      omega
theorem chunksOf_length {k : Nat} (hk : 0 < k) : ∀ (n : Nat) (l : List UInt8), l.length ≤ n → (chunksOf k l).length = l.length + costOf k l.length := by
  intro n
  induction n with
  | zero =>
    intro l hn
    have : l = [] := List.eq_nil_of_length_eq_zero (by omega)
    rw [this, chunksOf_nil]; simp [costOf_zero]
  | succ n ih =>
    intro l hn
    rcases Nat.eq_zero_or_pos l.length with h0 | h0
    · have : l = [] := List.eq_nil_of_length_eq_zero h0
      rw [this, chunksOf_nil]; simp [costOf_zero]
    · rw [chunksOf_pos hk h0, List.length_append, ih (l.drop k) (by simp; omega), costOf_pos hk h0, chunkOf_length, List.length_take, List.length_drop, Nat.min_comm k l.length]
      omega
theorem bodyOf_length {k : Nat} (hk : 0 < k) (l : List UInt8) : (bodyOf k l).length = l.length + 5 + costOf k l.length := by
  rw [bodyOf, List.length_append, chunksOf_length hk _ l (Nat.le_refl _), chunkOf_nil]
  simp; omega

/-! ### digits -/
theorem hexOf_step {u : Nat} (h : 0 < u) : (hexOf u).length = if u / 16 = 0 then 1 else (hexOf (u / 16)).length + 1 := by
  by_cases h1 : u < 16
  · rw [hexOf_small h1, if_pos (by omega)]; rfl
  · rw [hexOf_big (by omega), if_neg (by omega)]; simp
/-- How many digits are still to come. -/
def digs (u : Nat) : Nat := if u = 0 then 0 else (hexOf u).length
set_option maxHeartbeats 800000 in
theorem digits_c (w : World) {n : Nat} (hn : n ≤ 65536) :
    Calls Tryd.prog 23 #[.int .i64 n] w fun e w' => e = .returned (.int .i64 (digs n : Nat)) ∧ w = w' := by
  go_enter Tryd.func23, Tryd.ntmps23
  go_wp2
  go_loop [0, 3] (fun s0 s3 => ∃ (u d : Nat), s0 = .int .i64 u ∧ s3 = .int .i64 d ∧ u ≤ 65536 ∧ d ≤ 65536 ∧ Hid (d + digs u = digs n) ∧ Hid (d + u ≤ 65536)) (fun s0 _ => (intOf s0).toNat)
  case atStart => exact ⟨n, 0, rfl, rfl, hn, by omega, Lib.hid (by simp), Lib.hid (by omega)⟩
  case round =>
    obtain ⟨u, d, rfl, rfl, hu, hd, hs, hb⟩ := hrel
    by_cases h0 : 0 < u
    · have hp : (0 : Int) < (u : Int) := by omega
      have HS : Hid (d + 1 + digs (u / 16) = digs n) := Lib.hid (by
        have h1 := hs.out
        unfold digs at h1 ⊢
        rw [if_neg (by omega), hexOf_step h0] at h1
        split
        · rename_i h2; rw [if_pos h2] at h1; omega
        · rename_i h2; rw [if_neg h2] at h1; omega)
      have HB : Hid (d + 1 + u / 16 ≤ 65536) := Lib.hid (by have := hb.out; omega)
      clear hs
      go_wp2
      go_round
      case rel => exact ⟨u / 16, d + 1, by simp, by go_num, by omega, by have := HB.out; omega, HS, HB⟩
      case measure => simp [intOf]; omega
    · obtain rfl : u = 0 := by omega
      go_wp2
      go_ret
      have h1 := hs.out
      unfold digs at h1
      rw [if_pos rfl] at h1
      refine ⟨?_, rfl⟩
      rw [show digs n = d by unfold digs; omega]
      rfl
/-! ### The walk -/
set_option maxHeartbeats 2000000 in
theorem length_walk (A : Option Addr) (n c : Nat) (l : List UInt8) (k : Int) (w : World) (hT : Tz w) (h : l.length = n ∧ n ≤ c ∧ c ≤ maxLen ∧ Reads w w.heap.size A n (vbs l)) (_ : (Lit.int .i64 k).wf = true) :
    Calls Tryd.prog 7 #[.slice A n c, .int .i64 k] w fun e w' => e = .returned (.bool true) ∧ Below w.heap.size w w' := by
  obtain ⟨hl, hnc, hcm, hr⟩ := h
  have HT := Lib.hid hT
  have HR := Lib.hid hr
  have HL := Lib.hid hl
  clear hT hr hl
  by_cases hbad : k < 1 ∨ 65536 < k ∨ 100000 < n
  · have h3 : k < 1 ∨ (1 ≤ k ∧ 65536 < k) ∨ (1 ≤ k ∧ k ≤ 65536 ∧ (100000 : Int) < (n : Int)) := by omega
    clear hbad
    rcases h3 with h1 | ⟨h1, h2⟩ | ⟨h1, h2, h4⟩
    all_goals
      go_enter Tryd.func7, Tryd.ntmps7
      go_wp2_with (go_at_call 14; refine (alive_c HT.out).mono ?_; rintro e w3 ⟨rfl, hO3⟩)
      go_ret
      exact ⟨rfl, only_nil_trans hO3⟩
  · obtain ⟨k, rfl⟩ : ∃ m : Nat, k = (m : Int) := ⟨k.toNat, by omega⟩
    have hk1 : 1 ≤ k := by omega
    have hk2 : k ≤ 65536 := by omega
    have hn : n ≤ 100000 := by omega
    have g1 : ¬ (k : Int) < 1 := by omega
    have g2 : ¬ (65536 : Int) < (k : Int) := by omega
    have g3 : ¬ (100000 : Int) < (n : Int) := by omega
    have HE := Lib.hid (encode_c HT.out HR.out hnc hcm (by omega) hk1 hk2)
    have HLEN : Hid ((bodyOf k l).length = n + 5 + costOf k n) := Lib.hid (by rw [bodyOf_length hk1, HL.out])
    have HCO := Lib.hid (costOf_le hk2 n)
    clear hbad
    generalize bodyOf k l = L at HE HLEN
    go_enter Tryd.func7, Tryd.ntmps7
    go_wp2_with (go_at_call 20; refine HE.out.mono ?_; rintro e w1 ⟨A1, c1, rfl, hR1, hk1', hO1⟩; have HO1 := Lib.hid hO1; clear hR1 hk1' hO1)
    go_loopw [7, 8] (fun s7 s8 wr => ∃ (wa : Nat) (le : Int), s7 = .int .i64 wa ∧ s8 = .int .i64 le ∧ wa ≤ 2000000 ∧ -65536 ≤ le ∧ le ≤ 100000 ∧ Hid (wa + costOf k le.toNat = n + 5 + costOf k n) ∧ w1 = wr) (fun _ s8 _ => (intOf s8).toNat)
    case atStart => exact ⟨n + 5, n, by simp, rfl, by omega, by omega, by omega, Lib.hid (by simp), rfl⟩
    case round =>
      obtain ⟨wa, le, rfl, rfl, hwa, hle1, hle2, hs, rfl⟩ := hrel
      by_cases hpos : 0 < le
      · obtain ⟨le, rfl⟩ : ∃ m : Nat, le = (m : Int) := ⟨le.toNat, by omega⟩
        have hmin : imin (le : Int) (k : Int) = ((min le k : Nat) : Int) := by have := imin_spec (le : Int) (k : Int); omega
        obtain ⟨q, hq⟩ : ∃ q, q = min le k := ⟨_, rfl⟩
        rw [← hq] at hmin
        have hcost := costOf_pos hk1 (show 0 < le by omega)
        have hd : digs q = (hexOf (min le k)).length := by unfold digs; rw [if_neg (by omega), hq]
        have h5 : digs q ≤ 5 := by rw [hd]; exact hexOf_le (by omega)
        have hq65 : q ≤ 65536 := by omega
        have HD := Lib.hid hd
        have hsum : wa + (digs q + 4) + costOf k (le - k) = n + 5 + costOf k n := by
          have h1 := hs.out
          rw [Int.toNat_natCast, hcost, ← hd] at h1
          omega
        have HSUM := Lib.hid hsum
        have hb : wa + (digs q + 4) ≤ 2000000 := by have := HCO.out; omega
        clear hs hcost hd hsum hq
        have HDG := Lib.hid (fun w => digits_c w hq65)
        generalize digs q = dq at *
        go_wp2_with (go_at_call 23; refine (HDG.out _).mono ?_; rintro e w2 ⟨rfl, rfl⟩)
        go_roundw
        case rel =>
          refine ⟨wa + (dq + 4), (le : Int) - (k : Int), by simp, rfl, hb, by omega, by omega, Lib.hid ?_, trivial⟩
          rw [show ((le : Int) - (k : Int)).toNat = le - k by omega]
          exact HSUM.out
        case measure => simp [intOf]; omega
      · have hw : wa = n + 5 + costOf k n := by
          have h1 := hs.out
          rw [show le.toNat = 0 by omega, costOf_zero] at h1
          exact h1
        have hLw : (L.length : Int) = (wa : Int) := by have := HLEN.out; omega
        have hT1 := HT.out.only HO1.out
        have HT1 := Lib.hid hT1
        have HLW := Lib.hid (show L.length = wa by have := HLEN.out; omega)
        clear hs hw hT1 hLw
        go_wp2_with (go_at_call 14; refine (alive_c HT1.out).mono ?_; rintro e w3 ⟨rfl, hO3⟩)
        go_ret
        refine ⟨?_, only_nil_trans (HO1.out.trans hO3)⟩
        simp [HLW.out]
end Go.Proofs.YtbphkdaciebgmaaDoor
