/-
  Contract of alive of layer 6: the examples of the chapter.
-/
import Derived.Test.YtbpmhleokmcggaaDoorRunes8
namespace Go.Proofs.YtbpmhleokmcggaaDoor
open Go.RowKit Go.BigFrame
set_option linter.unusedVariables false
set_option linter.unusedSimpArgs false
attribute [local go_sem ↓] sliced_cut run_min2 run_max2
attribute [local go_sem] cutA_zero

theorem ex_dec : decL [97, 255, 98] = [97, 65533, 98] := by
  rw [decL_step (by simp), show dk [97, 255, 98] = (97, 1) by decide +kernel]
  show 97 :: decL [255, 98] = _
  rw [decL_step (by simp), show dk [255, 98] = (65533, 1) by decide +kernel]
  show 97 :: 65533 :: decL [98] = _
  rw [decL_step (by simp), show dk [98] = (98, 1) by decide +kernel]
  show 97 :: 65533 :: 98 :: decL [] = _
  rw [decL_nil]
theorem ex_cut1 : cutL [195] = 0 := cutL_more (by decide +kernel)
theorem ex_cut2 : cutL [195, 164] = 2 := by
  rw [cutL_step (by simp) (by decide +kernel), show dk [195, 164] = (228, 2) by decide +kernel]
  show 2 + cutL [] = 2
  rw [cutL_nil]
theorem ex_dec2 : decL [195, 164] = [228] := by
  rw [decL_step (by simp), show dk [195, 164] = (228, 2) by decide +kernel]
  show 228 :: decL [] = _
  rw [decL_nil]
theorem ex_out1 : wout ([] ++ [195]) = [] ∧ wheld ([] ++ [195]) = [195] := by
  unfold wout wheld
  rw [List.nil_append, ex_cut1]
  exact ⟨decL_nil, rfl⟩
theorem ex_out2 : wout ([195] ++ [164]) = [228] ∧ wheld ([195] ++ [164]) = [] := by
  unfold wout wheld
  rw [show [195] ++ [164] = [(195 : UInt8), 164] from rfl, ex_cut2]
  exact ⟨ex_dec2, rfl⟩
theorem one_row {w : World} (b : UInt8) : Reads (w.alloc (.cells #[.int .u8 (b.toNat : Int)] 5)) (w.heap.size + 1) (some ⟨w.heap.size, 0, none⟩) 1 (vbs [b]) :=
  Reads.of_blk (Blk.new w 5 (vbs [b])) 0 1 (by simp [vbs]) (Nat.lt_succ_self _)
theorem row_cell {w : World} {e : TypeId} {A : Option Addr} {n c : Nat} {xs : List Value} (h : RowAt w e A n c xs) (hn : 0 < n) : ∃ g o, A = some ⟨g, o, none⟩ ∧ ∀ j u, xs[j]? = some u → w.cell? ⟨g, o + j, none⟩ = some u := by
  obtain ⟨g, o, e1, _, hc⟩ := h.reads.plain hn
  exact ⟨g, o, e1, fun j u hu => hc j u hu⟩
set_option maxRecDepth 100000 in
set_option maxHeartbeats 3200000 in
theorem alive_c {w : World} (hT : Tabs w) :
    Calls Tryd.prog 9 #[] w fun e w' => e = .returned (.bool true) ∧ Only [] w w' := by
  have HT := Lib.hid hT
  have HD := Lib.hid (fun w1 : World => by
    have := decode_c (w := w1) (str [97, 255, 98]) (by decide)
    rw [str_list, ex_dec] at this
    exact this)
  have HW1 := Lib.hid (fun (w1 : World) (r B c : Nat) (A : Option Addr) (h : Hd r [] w1) (hT1 : Tabs w1) (hB : Reads w1 B A 1 (vbs [195])) => by
    have := write_c h hT1 hB (by simp) (by omega) (c := c)
    rw [ex_out1.1, ex_out1.2] at this
    exact this)
  have HW2 := Lib.hid (fun (w1 : World) (r B c : Nat) (A : Option Addr) (h : Hd r [195] w1) (hT1 : Tabs w1) (hB : Reads w1 B A 1 (vbs [164])) => by
    have := write_c h hT1 hB (by simp) (by omega) (c := c)
    rw [ex_out2.1, ex_out2.2] at this
    exact this)
  clear hT
  go_enter Tryd.func9, Tryd.ntmps9
  go_wp2_with (first | (go_at_call 11; refine (HD.out _).mono ?_; rintro e w1 ⟨A1, c1, rfl, hrow, hk, hO⟩; obtain ⟨g1, o1, rfl, hcell⟩ := row_cell hrow (by decide); have HO1 := Lib.hid hO; have HC1 := Lib.hid hcell; clear hrow hk hO hcell) | (go_at_call 20; refine (new_c).mono ?_; rintro e w2 ⟨rfl, hH, hO⟩; have d0 := cell_only (HC1.out 0 (.int .i32 97) rfl) hO (by simp); rw [Nat.add_zero] at d0; have d1 := cell_only (HC1.out 1 (.int .i32 65533) rfl) hO (by simp); have d2 := cell_only (HC1.out 2 (.int .i32 98) rfl) hO (by simp); have HOA := Lib.hid (HO1.out.trans hO); have HWA := Lib.hid (HW1.out (w2.alloc (.cells #[.int .u8 195] 5)) w1.heap.size _ 1 _ (Blk.alloc hH _) (HT.out.only (HOA.out.alloc _)) (one_row 195)); clear hH hO) | (go_at_call 17; (with_reducible refine HWA.out.mono ?_); rintro e w4 ⟨⟨A4, c4, rfl, hrow4, hk4⟩, hH4, hO4⟩; have HO4 := Lib.hid ((HOA.out.alloc (.cells #[.int .u8 195] 5)).join hO4 (fun k hk => .inr (by have := HO1.out.size; simp at hk; omega))); have HL1 := Lib.hid (held_c hH4); have HWB := Lib.hid (HW2.out (w4.alloc (.cells #[.int .u8 164] 5)) w1.heap.size _ 1 _ (Blk.alloc hH4 _) (HT.out.only (HO4.out.alloc _)) (one_row 164)); clear hH4 hO4 hrow4 hk4) | (go_at_call 19; (with_reducible refine HL1.out.mono ?_); rintro e w5 ⟨rfl, rfl⟩) | (go_at_call 17; (with_reducible refine HWB.out.mono ?_); rintro e w6 ⟨⟨A6, c6, rfl, hrow6, hk6⟩, hH6, hO6⟩; obtain ⟨g6, o6, rfl, hcell6⟩ := row_cell hrow6 (by decide); have y0 := hcell6 0 (.int .i32 228) rfl; rw [Nat.add_zero] at y0; have HO6 := Lib.hid ((HO4.out.alloc (.cells #[.int .u8 164] 5)).join hO6 (fun k hk => .inr (by have := HO1.out.size; simp at hk; omega))); have HL2 := Lib.hid (held_c hH6); clear hH6 hO6 hrow6 hk6 hcell6) | (go_at_call 19; (with_reducible refine HL2.out.mono ?_); rintro e w7 ⟨rfl, rfl⟩))
  go_ret
  exact ⟨rfl, HO6.out⟩
end Go.Proofs.YtbpmhleokmcggaaDoor
