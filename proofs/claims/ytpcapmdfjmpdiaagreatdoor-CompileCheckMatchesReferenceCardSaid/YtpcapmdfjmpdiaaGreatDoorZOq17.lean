/-
  The reference of layer 17: one, further opcodes.
-/
import Derived.Test.YtpcapmdfjmpdiaaGreatDoorZOn17
namespace Go.Proofs.YtpcapmdfjmpdiaaGreatDoor
open Go.RowKit Go.BigFrame NT
set_option linter.unusedVariables false
set_option linter.unusedSimpArgs false
set_option maxRecDepth 100000

set_option maxHeartbeats 12800000 in
theorem one_7 (s p : ByteArray) (h : Bool) (e t : Int) (i n : Nat) (w : World) (hp : p.size ≤ 2000000) : OnC ⟨7, s, p, h, e, t⟩ i n w := by
  unfold OnC
  dsimp only
  obtain ⟨l, ks, hks, hsp⟩ := ref_split2 p hp
  have HSP := Lib.hid hsp
  obtain ⟨R, hR⟩ : ∃ R, R = oneC ⟨7, s, p, h, e, t⟩ i n := ⟨_, rfl⟩
  rw [← hR]
  unfold oneC at hR
  simp only [shapeX, hasP, hasT, str_zero, ne_eq] at hR
  have HR := Lib.hid hR
  have HB0 := Lib.hid (Bel.alloc w (.cells #[.int .i64 7, .string s, .string p, .bool h, .int .i64 e, .int .i64 t] 31))
  have HN := Lib.hid (Blk.new w 31 [.int .i64 7, .string s, .string p, .bool h, .int .i64 e, .int .i64 t])
  have HKS := Lib.hid hks
  clear hR hp hsp hks
  go_enter Tryz.func25, Tryz.ntmps25
  go_wp2_with (go_at_call 50; ((with_reducible refine (HSP.out _).mono ?_); rintro y w2 ⟨hb, A2, c2, rfl⟩; have HB2 := Lib.hid ((Bel.alloc w _).trans hb); have HN2 := Lib.hid ((Blk.new w 31 _).bel hb); clear hb; obtain ⟨c0', c1', c2', c3', c4', c5'⟩ := cells6_17 HN2.out))
  all_goals go_ret
  all_goals
    refine ⟨?_, by first | exact HB2.out | exact Bel.alloc _ _⟩
    have hR := HR.out
    have hks := HKS.out
    by_cases hn : (pathOf p).isNone = true
    all_goals
      first
        | (rw [if_pos hn] at hks; subst hks)
        | (rw [if_neg hn] at hks; subst hks)
      simp_all (config := { decide := true })
    all_goals try (split <;> first | rfl | (exfalso; omega) | omega)
set_option maxHeartbeats 12800000 in
theorem one_8 (s p : ByteArray) (h : Bool) (e t : Int) (i n : Nat) (w : World) (hp : p.size ≤ 2000000) : OnC ⟨8, s, p, h, e, t⟩ i n w := by
  unfold OnC
  dsimp only
  obtain ⟨l, ks, hks, hsp⟩ := ref_split2 p hp
  have HSP := Lib.hid hsp
  obtain ⟨R, hR⟩ : ∃ R, R = oneC ⟨8, s, p, h, e, t⟩ i n := ⟨_, rfl⟩
  rw [← hR]
  unfold oneC at hR
  simp only [shapeX, hasP, hasT, str_zero, ne_eq] at hR
  have HR := Lib.hid hR
  have HB0 := Lib.hid (Bel.alloc w (.cells #[.int .i64 8, .string s, .string p, .bool h, .int .i64 e, .int .i64 t] 31))
  have HN := Lib.hid (Blk.new w 31 [.int .i64 8, .string s, .string p, .bool h, .int .i64 e, .int .i64 t])
  have HKS := Lib.hid hks
  clear hR hp hsp hks
  go_enter Tryz.func25, Tryz.ntmps25
  go_wp2_with (go_at_call 50; ((with_reducible refine (HSP.out _).mono ?_); rintro y w2 ⟨hb, A2, c2, rfl⟩; have HB2 := Lib.hid ((Bel.alloc w _).trans hb); have HN2 := Lib.hid ((Blk.new w 31 _).bel hb); clear hb; obtain ⟨c0', c1', c2', c3', c4', c5'⟩ := cells6_17 HN2.out))
  all_goals go_ret
  all_goals
    refine ⟨?_, by first | exact HB2.out | exact Bel.alloc _ _⟩
    have hR := HR.out
    have hks := HKS.out
    by_cases hn : (pathOf p).isNone = true
    all_goals
      first
        | (rw [if_pos hn] at hks; subst hks)
        | (rw [if_neg hn] at hks; subst hks)
      simp_all (config := { decide := true })
    all_goals try (split <;> first | rfl | (exfalso; omega) | omega)
set_option maxHeartbeats 12800000 in
theorem one_9 (s p : ByteArray) (h : Bool) (e t : Int) (i n : Nat) (w : World) (hp : p.size ≤ 2000000) : OnC ⟨9, s, p, h, e, t⟩ i n w := by
  unfold OnC
  dsimp only
  obtain ⟨l, ks, hks, hsp⟩ := ref_split2 p hp
  have HSP := Lib.hid hsp
  obtain ⟨R, hR⟩ : ∃ R, R = oneC ⟨9, s, p, h, e, t⟩ i n := ⟨_, rfl⟩
  rw [← hR]
  unfold oneC at hR
  simp only [shapeX, hasP, hasT, str_zero, ne_eq] at hR
  have HR := Lib.hid hR
  have HB0 := Lib.hid (Bel.alloc w (.cells #[.int .i64 9, .string s, .string p, .bool h, .int .i64 e, .int .i64 t] 31))
  have HN := Lib.hid (Blk.new w 31 [.int .i64 9, .string s, .string p, .bool h, .int .i64 e, .int .i64 t])
  have HKS := Lib.hid hks
  clear hR hp hsp hks
  go_enter Tryz.func25, Tryz.ntmps25
  go_wp2_with (go_at_call 50; ((with_reducible refine (HSP.out _).mono ?_); rintro y w2 ⟨hb, A2, c2, rfl⟩; have HB2 := Lib.hid ((Bel.alloc w _).trans hb); have HN2 := Lib.hid ((Blk.new w 31 _).bel hb); clear hb; obtain ⟨c0', c1', c2', c3', c4', c5'⟩ := cells6_17 HN2.out))
  all_goals go_ret
  all_goals
    refine ⟨?_, by first | exact HB2.out | exact Bel.alloc _ _⟩
    have hR := HR.out
    have hks := HKS.out
    by_cases hn : (pathOf p).isNone = true
    all_goals
      first
        | (rw [if_pos hn] at hks; subst hks)
        | (rw [if_neg hn] at hks; subst hks)
      simp_all (config := { decide := true })
    all_goals try (split <;> first | rfl | (exfalso; omega) | omega)
end Go.Proofs.YtpcapmdfjmpdiaaGreatDoor
