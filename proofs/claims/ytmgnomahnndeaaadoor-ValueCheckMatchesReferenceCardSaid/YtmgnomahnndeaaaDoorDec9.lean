/-
  Contract: the reference's Decimal.
-/
import Derived.Test.YtmgnomahnndeaaaDoorSplit
import Derived.Lib.ItoaMem
namespace Go.Proofs.YtmgnomahnndeaaaDoor
open Go.RowKit Go.BigFrame
set_option linter.unusedVariables false
set_option linter.unusedSimpArgs false

theorem oneStr (W : World) (d : UInt8) : (convert 52 9 (.slice (some ⟨W.heap.size, 0, none⟩) 1 1)).run Tryd.prog (W.alloc (.cells #[.int .u8 (d.toNat : Int)] 5)) = .ok (.string ⟨#[d]⟩) (W.alloc (.cells #[.int .u8 (d.toNat : Int)] 5)) :=
  run_string_of (l := [d]) Tryd.underlying52 Tryd.underlying5 Tryd.underlying9 (Reads.of_blk (Blk.new W 5 (vbs [d])) 0 1 (by simp [vbs]) (Nat.lt_succ_self _)) 1
theorem strCons (d : UInt8) (l : List UInt8) : (⟨#[d]⟩ : ByteArray) ++ ⟨l.toArray⟩ = ⟨(d :: l).toArray⟩ := by
  apply ByteArray.ext
  rw [ByteArray.data_append]
  apply Array.ext'
  simp
theorem digStr (W : World) (r : Nat) (h : r < 10) : (convert 52 9 (.slice (some ⟨W.heap.size, 0, none⟩) 1 1)).run Tryd.prog (W.alloc (.cells #[.int .u8 (48 + (r : Int))] 5)) = .ok (.string ⟨#[UInt8.ofNat (48 + r)]⟩) (W.alloc (.cells #[.int .u8 (48 + (r : Int))] 5)) := by
  have e : ((UInt8.ofNat (48 + r)).toNat : Int) = 48 + (r : Int) := by
    rw [UInt8.toNat_ofNat_of_lt' (show 48 + r < UInt8.size by simp [UInt8.size]; omega)]
    omega
  have := oneStr W (UInt8.ofNat (48 + r))
  rw [e] at this
  exact this
theorem dec_last {u : Nat} (h : u < 10) : Lib.decDigits u = [UInt8.ofNat (48 + u % 10)] := by rw [Lib.decDigits, dif_pos h, Nat.mod_eq_of_lt h]
theorem dec_more {u : Nat} (h : ¬ u < 10) : Lib.decDigits u = Lib.decDigits (u / 10) ++ [UInt8.ofNat (48 + u % 10)] := by
  conv => lhs; rw [Lib.decDigits, dif_neg h]

theorem dec_len : ∀ (k u : Nat), u < 10 ^ (k + 1) → (Lib.decDigits u).length ≤ k + 1 := by
  intro k
  induction k with
  | zero => intro u hu; rw [dec_last (by omega)]; simp
  | succ k ih =>
    intro u hu
    by_cases h : u < 10
    · rw [dec_last h]; simp
    · rw [dec_more h, List.length_append]
      have := ih (u / 10) (by rw [Nat.pow_succ] at hu; omega)
      simp only [List.length_singleton]
      omega
theorem dec_len19 {u : Nat} (h : u ≤ 9223372036854775808) : (Lib.decDigits u).length ≤ 19 := dec_len 18 u (by omega)
theorem dig_add (u : Nat) : (48 : UInt8) + UInt8.ofNat (u % 10) = UInt8.ofNat (48 + u % 10) := by simp [UInt8.ofNat_add]

set_option maxRecDepth 100000 in
set_option maxHeartbeats 1600000 in
theorem decimal_pos (n : Nat) (hn : n ≤ 9223372036854775807) (w : World) :
    Calls Tryd.prog 34 #[.int .i64 n] w fun e w' => e = .returned (.string ⟨(Lib.decDigits n).toArray⟩) ∧ Bel w w' := by
  have HDG := Lib.hid digStr
  go_enter Tryd.func34, Tryd.ntmps34
  go_wp2_with fail
  go_loopw [3, 4] (fun s3 s4 wr => ∃ (u : Nat) (l : List UInt8), u ≤ n ∧ s4 = .int .i64 u ∧ s3 = .string ⟨l.toArray⟩ ∧ Hid (Lib.decDigits n = Lib.decDigits u ++ l) ∧ Hid (Bel w wr)) (fun _ s4 _ => (intOf s4).toNat)
  case atStart => exact ⟨n, [], Nat.le_refl _, rfl, rfl, Lib.hid (by simp), Lib.hid (Bel.refl _)⟩
  case round =>
    obtain ⟨u, l, hu, rfl, rfl, HD, HB⟩ := hrel
    have hr0 : u % 10 < 10 := Nat.mod_lt _ (by decide)
    have hll : l.length ≤ 19 := by
      have h1 := dec_len19 (u := n) (by omega)
      rw [HD.out, List.length_append] at h1
      omega
    have HM : Hid (¬ u < 10 → Lib.decDigits n = Lib.decDigits (u / 10) ++ (UInt8.ofNat (48 + u % 10) :: l)) := Lib.hid (fun h => by rw [HD.out, dec_more h]; simp)
    have HL : Hid (u < 10 → Lib.decDigits n = UInt8.ofNat (48 + u % 10) :: l) := Lib.hid (fun h => by rw [HD.out, dec_last h]; simp)
    have hcv := HDG.out wr (u % 10) hr0
    have e9 : ((u % 10 : Nat) : Int) = (u : Int) % 10 := by omega
    rw [e9] at hcv
    clear e9
    go_wp2_with fail
    · have h9 : (u : Int) < 10 := by assumption
      have HR := Lib.hid (HL.out (by omega))
      go_ret
      exact ⟨by rw [HR.out, ← strCons, ← dig_add]; rfl, HB.out.trans (Bel.alloc _ _)⟩
    · have h9 : (10 : Int) ≤ (u : Int) := by assumption
      have HR := Lib.hid (HM.out (by omega))
      go_roundw
      case rel => exact ⟨u / 10, UInt8.ofNat (48 + u % 10) :: l, by omega, by go_num, by rw [dig_add, strCons], HR, Lib.hid (HB.out.trans (Bel.alloc _ _))⟩
      case measure => simp [intOf]; omega

theorem minus_app (l : List UInt8) : (⟨#[45]⟩ : ByteArray) ++ ⟨l.toArray⟩ = ⟨(45 :: l).toArray⟩ := strCons 45 l
set_option maxRecDepth 100000 in
set_option maxHeartbeats 1600000 in
theorem decimal_neg (n : Nat) (h1 : 1 ≤ n) (hn : n ≤ 9223372036854775808) (w : World) :
    Calls Tryd.prog 34 #[.int .i64 (-(n : Int))] w fun e w' => e = .returned (.string ⟨(45 :: Lib.decDigits n).toArray⟩) ∧ Bel w w' := by
  have HDG := Lib.hid digStr
  go_enter Tryd.func34, Tryd.ntmps34
  go_wp2_with fail
  go_loopw [3, 4] (fun s3 s4 wr => ∃ (u : Nat) (l : List UInt8), u ≤ n ∧ s4 = .int .i64 (-(u : Int)) ∧ s3 = .string ⟨l.toArray⟩ ∧ Hid (Lib.decDigits n = Lib.decDigits u ++ l) ∧ Hid (Bel w wr)) (fun _ s4 _ => (-(intOf s4)).toNat)
  case atStart => exact ⟨n, [], Nat.le_refl _, rfl, rfl, Lib.hid (by simp), Lib.hid (Bel.refl _)⟩
  case round =>
    obtain ⟨u, l, hu, rfl, rfl, HD, HB⟩ := hrel
    have hr0 : u % 10 < 10 := Nat.mod_lt _ (by decide)
    have hll : l.length ≤ 19 := by
      have h1 := dec_len19 (u := n) (by omega)
      rw [HD.out, List.length_append] at h1
      omega
    have HM : Hid (¬ u < 10 → Lib.decDigits n = Lib.decDigits (u / 10) ++ (UInt8.ofNat (48 + u % 10) :: l)) := Lib.hid (fun h => by rw [HD.out, dec_more h]; simp)
    have HL : Hid (u < 10 → Lib.decDigits n = UInt8.ofNat (48 + u % 10) :: l) := Lib.hid (fun h => by rw [HD.out, dec_last h]; simp)
    by_cases hz : u % 10 = 0
    · have hz' : (u : Int) % 10 = 0 := by omega
      have hcv := HDG.out wr 0 (by omega)
      have HZ := Lib.hid hz
      clear hz
      simp only [Int.natCast_zero, Int.add_zero, Nat.add_zero] at hcv
      go_wp2_with fail
      · have h9 : (u : Int) < 10 := by assumption
        have HR := Lib.hid (HL.out (by omega))
        go_ret
        exact ⟨by rw [HR.out, HZ.out, ← minus_app, ← strCons]; rfl, HB.out.trans (Bel.alloc _ _)⟩
      · have h9 : ¬ (u : Int) < 10 := by assumption
        have HR := Lib.hid (HM.out (by omega))
        go_roundw
        case rel => exact ⟨u / 10, UInt8.ofNat (48 + u % 10) :: l, by omega, by go_num, by rw [HZ.out, ← strCons]; rfl, HR, Lib.hid (HB.out.trans (Bel.alloc _ _))⟩
        case measure => simp [intOf]; omega
    · have hz' : 0 < (u : Int) % 10 := by omega
      have hcv := HDG.out wr (u % 10) hr0
      have e9 : ((u % 10 : Nat) : Int) = (u : Int) % 10 := by omega
      rw [e9] at hcv
      clear e9 hz
      go_wp2_with fail
      · have h9 : (u : Int) < 10 := by assumption
        have HR := Lib.hid (HL.out (by omega))
        go_ret
        exact ⟨by rw [HR.out, ← minus_app, ← strCons, ← dig_add]; rfl, HB.out.trans (Bel.alloc _ _)⟩
      · have h9 : ¬ (u : Int) < 10 := by assumption
        have HR := Lib.hid (HM.out (by omega))
        go_roundw
        case rel => exact ⟨u / 10, UInt8.ofNat (48 + u % 10) :: l, by omega, by go_num, by rw [dig_add, strCons], HR, Lib.hid (HB.out.trans (Bel.alloc _ _))⟩
        case measure => simp [intOf]; omega
theorem decimal_c (n : Int) (h0 : -9223372036854775808 ≤ n) (h1 : n ≤ 9223372036854775807) (w : World) :
    Calls Tryd.prog 34 #[.int .i64 n] w fun e w' => e = .returned (.string ⟨(Lib.itoa n).toArray⟩) ∧ Bel w w' := by
  rcases Int.lt_or_le n 0 with h | h
  · obtain ⟨u, rfl⟩ : ∃ u : Nat, n = -(u : Int) := ⟨n.natAbs, by omega⟩
    rw [Lib.itoa_neg u (by omega)]
    exact decimal_neg u (by omega) (by omega) w
  · obtain ⟨u, rfl⟩ : ∃ u : Nat, n = (u : Int) := ⟨n.toNat, by omega⟩
    rw [Lib.itoa_nonneg]
    exact decimal_pos u (by omega) w
end Go.Proofs.YtmgnomahnndeaaaDoor
