/-
  The reference of layer 17: one.
-/
import Derived.Test.YtpcapmdfjmpdiaaGreatDoorZMp14
namespace Go.Proofs.YtpcapmdfjmpdiaaGreatDoor
open Go.RowKit Go.BigFrame NT
set_option linter.unusedVariables false
set_option linter.unusedSimpArgs false
set_option maxRecDepth 100000

theorem str_zero (s : ByteArray) : (s.size = 0) = (s.toList = []) := by
  rw [ByteArray.toList_eq]
  show (s.data.size = 0) = (s.data.toList = [])
  rw [Array.toList_eq_nil_iff, Array.size_eq_zero_iff]
theorem cells6_17 {w : World} {g : Nat} {T : TypeId} {a0 a1 a2 a3 a4 a5 : Value} (h : Blk w g T [a0, a1, a2, a3, a4, a5]) :
    w.cell? ⟨g, 0, none⟩ = some a0 ∧ w.cell? ⟨g, 1, none⟩ = some a1 ∧ w.cell? ⟨g, 2, none⟩ = some a2 ∧ w.cell? ⟨g, 3, none⟩ = some a3 ∧ w.cell? ⟨g, 4, none⟩ = some a4 ∧ w.cell? ⟨g, 5, none⟩ = some a5 := ⟨h.cell 0, h.cell 1, h.cell 2, h.cell 3, h.cell 4, h.cell 5⟩
abbrev OnC (x : XI) (i n : Nat) (w : World) : Prop := Calls Tryz.prog 25 #[.agg #[.int .i64 x.o, .string x.s, .string x.p, .bool x.h, .int .i64 x.e, .int .i64 x.t], .int .i64 (i : Nat), .int .i64 (n : Nat)] w fun y w' => y = .returned (.int .i64 (oneC x i n : Nat)) ∧ Bel w w'
theorem ref_split2 (p : ByteArray) (hp : p.size ≤ 2000000) : ∃ (l : Nat) (k : Int), (k = if (pathOf p).isNone = true then 11 else 0) ∧ ∀ W, Calls Tryz.prog 50 #[.string p] W fun e w' => Bel W w' ∧ ∃ A c, e = .returned (.tuple #[.slice A l c, .int .i64 k]) := by
  cases hq : pathOf p with
  | none =>
    refine ⟨0, 11, rfl, fun W => (refSplit_c p W hp).mono ?_⟩
    rintro e w' ⟨hb, hm⟩
    rw [hq] at hm
    exact ⟨hb, none, 0, hm⟩
  | some l =>
    refine ⟨l.length, 0, rfl, fun W => (refSplit_c p W hp).mono ?_⟩
    rintro e w' ⟨hb, hm⟩
    rw [hq] at hm
    obtain ⟨A, c, he, _⟩ := hm
    exact ⟨hb, A, c, he⟩
set_option maxHeartbeats 12800000 in
theorem one_0 (s p : ByteArray) (h : Bool) (e t : Int) (i n : Nat) (w : World) (hp : p.size ≤ 2000000) : OnC ⟨0, s, p, h, e, t⟩ i n w := by
  unfold OnC
  dsimp only
  obtain ⟨l, ks, hks, hsp⟩ := ref_split2 p hp
  have HSP := Lib.hid hsp
  obtain ⟨R, hR⟩ : ∃ R, R = oneC ⟨0, s, p, h, e, t⟩ i n := ⟨_, rfl⟩
  rw [← hR]
  unfold oneC at hR
  simp only [shapeX, hasP, hasT, str_zero, ne_eq] at hR
  have HR := Lib.hid hR
  have HB0 := Lib.hid (Bel.alloc w (.cells #[.int .i64 0, .string s, .string p, .bool h, .int .i64 e, .int .i64 t] 31))
  have HN := Lib.hid (Blk.new w 31 [.int .i64 0, .string s, .string p, .bool h, .int .i64 e, .int .i64 t])
  have HKS := Lib.hid hks
  clear hR hp hsp hks
  go_enter Tryz.func25, Tryz.ntmps25
  go_wp2_with (go_at_call 50; ((with_reducible refine (HSP.out _).mono ?_); rintro y w2 ⟨hb, A2, c2, rfl⟩; have HB2 := Lib.hid ((Bel.alloc w _).trans hb); have HN2 := Lib.hid ((Blk.new w 31 _).bel hb); clear hb; obtain ⟨c0', c1', c2', c3', c4', c5'⟩ := cells6_17 HN2.out))
  all_goals go_ret
  all_goals
    refine ⟨?_, by first | exact HB2.out | exact Bel.alloc _ _⟩
    have hR := HR.out
    have hks := HKS.out
    by_cases hn : (pathOf p).isNone = true
    all_goals
      first
        | (rw [if_pos hn] at hks; subst hks)
        | (rw [if_neg hn] at hks; subst hks)
      simp_all (config := { decide := true })
    all_goals try (split <;> first | rfl | (exfalso; omega) | omega)
set_option maxHeartbeats 12800000 in
theorem one_1 (s p : ByteArray) (h : Bool) (e t : Int) (i n : Nat) (w : World) (hp : p.size ≤ 2000000) : OnC ⟨1, s, p, h, e, t⟩ i n w := by
  unfold OnC
  dsimp only
  obtain ⟨l, ks, hks, hsp⟩ := ref_split2 p hp
  have HSP := Lib.hid hsp
  obtain ⟨R, hR⟩ : ∃ R, R = oneC ⟨1, s, p, h, e, t⟩ i n := ⟨_, rfl⟩
  rw [← hR]
  unfold oneC at hR
  simp only [shapeX, hasP, hasT, str_zero, ne_eq] at hR
  have HR := Lib.hid hR
  have HB0 := Lib.hid (Bel.alloc w (.cells #[.int .i64 1, .string s, .string p, .bool h, .int .i64 e, .int .i64 t] 31))
  have HN := Lib.hid (Blk.new w 31 [.int .i64 1, .string s, .string p, .bool h, .int .i64 e, .int .i64 t])
  have HKS := Lib.hid hks
  clear hR hp hsp hks
  go_enter Tryz.func25, Tryz.ntmps25
  go_wp2_with (go_at_call 50; ((with_reducible refine (HSP.out _).mono ?_); rintro y w2 ⟨hb, A2, c2, rfl⟩; have HB2 := Lib.hid ((Bel.alloc w _).trans hb); have HN2 := Lib.hid ((Blk.new w 31 _).bel hb); clear hb; obtain ⟨c0', c1', c2', c3', c4', c5'⟩ := cells6_17 HN2.out))
  all_goals go_ret
  all_goals
    refine ⟨?_, by first | exact HB2.out | exact Bel.alloc _ _⟩
    have hR := HR.out
    have hks := HKS.out
    by_cases hn : (pathOf p).isNone = true
    all_goals
      first
        | (rw [if_pos hn] at hks; subst hks)
        | (rw [if_neg hn] at hks; subst hks)
      simp_all (config := { decide := true })
    all_goals try (split <;> first | rfl | (exfalso; omega) | omega)
set_option maxHeartbeats 12800000 in
theorem one_2 (s p : ByteArray) (h : Bool) (e t : Int) (i n : Nat) (w : World) (hp : p.size ≤ 2000000) : OnC ⟨2, s, p, h, e, t⟩ i n w := by
  unfold OnC
  dsimp only
  obtain ⟨l, ks, hks, hsp⟩ := ref_split2 p hp
  have HSP := Lib.hid hsp
  obtain ⟨R, hR⟩ : ∃ R, R = oneC ⟨2, s, p, h, e, t⟩ i n := ⟨_, rfl⟩
  rw [← hR]
  unfold oneC at hR
  simp only [shapeX, hasP, hasT, str_zero, ne_eq] at hR
  have HR := Lib.hid hR
  have HB0 := Lib.hid (Bel.alloc w (.cells #[.int .i64 2, .string s, .string p, .bool h, .int .i64 e, .int .i64 t] 31))
  have HN := Lib.hid (Blk.new w 31 [.int .i64 2, .string s, .string p, .bool h, .int .i64 e, .int .i64 t])
  have HKS := Lib.hid hks
  clear hR hp hsp hks
  go_enter Tryz.func25, Tryz.ntmps25
  go_wp2_with (go_at_call 50; ((with_reducible refine (HSP.out _).mono ?_); rintro y w2 ⟨hb, A2, c2, rfl⟩; have HB2 := Lib.hid ((Bel.alloc w _).trans hb); have HN2 := Lib.hid ((Blk.new w 31 _).bel hb); clear hb; obtain ⟨c0', c1', c2', c3', c4', c5'⟩ := cells6_17 HN2.out))
  all_goals go_ret
  all_goals
    refine ⟨?_, by first | exact HB2.out | exact Bel.alloc _ _⟩
    have hR := HR.out
    have hks := HKS.out
    by_cases hn : (pathOf p).isNone = true
    all_goals
      first
        | (rw [if_pos hn] at hks; subst hks)
        | (rw [if_neg hn] at hks; subst hks)
      simp_all (config := { decide := true })
    all_goals try (split <;> first | rfl | (exfalso; omega) | omega)
end Go.Proofs.YtpcapmdfjmpdiaaGreatDoor
