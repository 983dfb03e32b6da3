/-
  Contract: the laws' own examples hold.
-/
import Derived.Test.YtmgnomahnndeaaaDoorAlive9
namespace Go.Proofs.YtmgnomahnndeaaaDoor
open Go.RowKit Go.BigFrame
set_option linter.unusedVariables false
set_option linter.unusedSimpArgs false

theorem path_ab : pathOf ⟨#[97, 46, 98]⟩ = some [⟨#[97]⟩, ⟨#[98]⟩] := by decide
theorem path_abc : pathOf ⟨#[97, 46, 98, 46, 99]⟩ = some [⟨#[97]⟩, ⟨#[98]⟩, ⟨#[99]⟩] := by decide
theorem look_ab (h : Nat) : (exA h).look [⟨#[97]⟩, ⟨#[98]⟩] = .ok five := rfl
theorem look_abc (h : Nat) : (exA h).look [⟨#[97]⟩, ⟨#[98]⟩, ⟨#[99]⟩] = .error 18 := rfl
set_option maxHeartbeats 1000000 in
theorem alive_c (w : World) (hT : MX w) : Calls Tryd.prog 9 #[] w fun e w' => e = .returned (.bool true) ∧ Bel w w' := by
  have HT := Lib.hid hT
  clear hT
  have HL1 := Lib.hid (fun (h : Nat) (W : World) (hM : MX W) (hI : (exA h).In W (· < W.heap.size)) => show Calls Tryd.prog 22 #[(exA h).val, .string ⟨#[97, 46, 98]⟩] W fun e w' => e = .returned (.tuple #[.agg #[.int .i64 1, .string ByteArray.empty, .int .i64 5, .bool false, .slice none 0 0, .slice none 0 0], .int .i64 0]) ∧ Bel W w' from
    (lookup_c (exA h) ⟨#[97, 46, 98]⟩ W hM (by decide) hI).mono fun e w' hP => by
      unfold LookPost at hP
      rw [path_ab] at hP
      simp only [look_ab] at hP
      exact ⟨hP.2, hP.1⟩)
  have HL2 := Lib.hid (fun (h : Nat) (W : World) (hM : MX W) (hI : (exA h).In W (· < W.heap.size)) => show Calls Tryd.prog 22 #[(exA h).val, .string ⟨#[97, 46, 98, 46, 99]⟩] W fun e w' => e = .returned (.tuple #[.agg #[.int .i64 0, .string ByteArray.empty, .int .i64 0, .bool false, .slice none 0 0, .slice none 0 0], .int .i64 18]) ∧ Bel W w' from
    (lookup_c (exA h) ⟨#[97, 46, 98, 46, 99]⟩ W hM (by decide) hI).mono fun e w' hP => by
      unfold LookPost at hP
      rw [path_abc] at hP
      simp only [look_abc] at hP
      exact ⟨hP.2, hP.1⟩)
  go_enter Tryd.func9, Tryd.ntmps9
  go_wp2_with (first | (go_at_call 27; (with_reducible refine (example_c w).mono ?_); rintro e w1 ⟨h1, rfl, hI1, hb1⟩; have HI1 := Lib.hid hI1; have HB1 := Lib.hid hb1; clear hI1 hb1) | (go_at_call 22; (with_reducible refine (HL1.out h1 w1 (HT.out.bel HB1.out) HI1.out).mono ?_); rintro e w2 ⟨rfl, hb2⟩; have HB2 := Lib.hid (HB1.out.trans hb2); clear hb2) | (go_at_call 27; (refine (example_c _).mono ?_); rintro e w3 ⟨h3, rfl, hI3, hb3⟩; have HI3 := Lib.hid hI3; have HB3 := Lib.hid (HB2.out.trans ((Bel.alloc _ _).trans hb3)); have HK3 := Lib.hid ((Blk.new w2 34 five.cs).below hb3 (by simp)); clear hI3 hb3) | (go_at_call 22; (with_reducible refine (HL2.out h3 w3 (HT.out.bel HB3.out) HI3.out).mono ?_); rintro e w4 ⟨rfl, hb4⟩; have HB4 := Lib.hid (HB3.out.trans hb4); have hk4 : w4.cell? ⟨w2.heap.size, 2, none⟩ = some (.int .i64 5) := (HK3.out.below hb4 HK3.out.lt).cell 2; have hlt4 : w2.heap.size < w4.heap.size := (HK3.out.below hb4 HK3.out.lt).lt; clear hb4))
  go_ret
  exact ⟨rfl, HB4.out.trans (Bel.alloc _ _)⟩
end Go.Proofs.YtmgnomahnndeaaaDoor
