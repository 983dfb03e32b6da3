/-
  The walks of RunesDecodeMatchesReference and RunesEncodeMatchesReference.
-/
import Derived.Test.YtbpmhleokmcggaaDoorAlive6
import Derived.Test.YtbpmhleokmcggaaDoorRef6
import Derived.Test.YtbpmhleokmcggaaDoorFrame
namespace Go.Proofs.YtbpmhleokmcggaaDoor
open Go.RowKit Go.BigFrame
set_option linter.unusedVariables false
set_option linter.unusedSimpArgs false
attribute [local go_sem ↓] sliced_cut run_min2 run_max2
attribute [local go_sem] cutA_zero

set_option maxRecDepth 100000 in
set_option maxHeartbeats 3200000 in
theorem decodeLaw (s : ByteArray) (w : World) (hT : Tabs w) (hs : s.size ≤ maxLen) :
    Calls Tryd.prog 3 #[.string s] w fun e w' => e = .returned (.bool true) ∧ Below w.heap.size w w' := by
  have HA := Lib.hid (alive_c hT)
  by_cases hbig : 3000 < s.size
  · have hi : (3000 : Int) < (s.size : Int) := by omega
    clear hT hs
    go_enter Tryd.func3, Tryd.ntmps3
    go_wp2_with (go_at_call 9; refine (HA.out).mono ?_; rintro e w1 ⟨rfl, hO⟩)
    go_ret
    exact ⟨rfl, only_nil_below hO⟩
  have hi : ¬ ((3000 : Int) < (s.size : Int)) := by omega
  have HT := Lib.hid hT
  have HLE := Lib.hid (show s.size ≤ 1000000 by omega)
  have HN := Lib.hid (show (decL s.data.toList).length ≤ 1000000 by have := decL_length s.data.toList; rw [sl_size] at this; omega)
  have HD := Lib.hid (fun w1 : World => decode_c (w := w1) s HLE.out)
  have HR := Lib.hid (fun w1 : World => refDecode_c (w := w1) s HLE.out)
  have HV := Lib.hid (fun (w1 : World) (hO : Only [] w w1) => valid_c (HT.out.only hO) s)
  have HRV := Lib.hid (fun w1 : World => refValid_c (w := w1) s)
  generalize decL s.data.toList = L at *
  generalize valL s.data.toList = V at *
  clear hT hs
  go_enter Tryd.func3, Tryd.ntmps3
  go_wp2_with (first | (go_at_call 9; refine (HA.out).mono ?_; rintro e w1 ⟨rfl, hO⟩; have HO1 := Lib.hid hO; clear hO) | (go_at_call 11; refine (HD.out _).mono ?_; rintro e w2 ⟨A2, c2, rfl, hrow, _, hO⟩; have HO2 := Lib.hid (HO1.out.trans hO); have HR2 := Lib.hid hrow; clear hrow hO) | (go_at_call 12; refine (HR.out _).mono ?_; rintro e w3 ⟨⟨A3, c3, rfl, hrow, _⟩, hO⟩; have HO3 := Lib.hid (HO2.out.trans hO); have HE := Lib.hid (equalr_c (HR2.out.only hO (by simp)).reads hrow.reads c2 c3 HN.out HN.out); clear hrow hO) | (go_at_call 10; refine (HE.out).mono ?_; rintro e w4 ⟨rfl, hO⟩; rw [beq_self_eq_true]; have HO4 := Lib.hid (HO3.out.trans hO); clear hO) | (go_at_call 13; refine (HV.out _ HO4.out).mono ?_; rintro e w5 ⟨rfl, hO⟩; have HO5 := Lib.hid (HO4.out.trans hO); clear hO) | (go_at_call 14; refine (HRV.out _).mono ?_; rintro e w6 ⟨rfl, rfl⟩))
  go_ret
  refine ⟨?_, only_nil_below HO5.out⟩
  cases V <;> rfl
set_option maxRecDepth 100000 in
set_option maxHeartbeats 3200000 in
theorem encodeLaw (A : Option Addr) (n c : Nat) (zs : List Int) (w : World) (hT : Tabs w) (h : zs.length = n ∧ n ≤ c ∧ c ≤ maxLen ∧ Reads w w.heap.size A n (zs.map (Value.int .i32)) ∧ ∀ z ∈ zs, (Lit.int .i32 z).wf = true) :
    Calls Tryd.prog 4 #[.slice A n c] w fun e w' => e = .returned (.bool true) ∧ Below w.heap.size w w' := by
  have HA := Lib.hid (alive_c hT)
  obtain ⟨hl, hnc, hcm, hr, _⟩ := h
  by_cases hbig : 1000 < n
  · have hi : (1000 : Int) < (n : Int) := by omega
    clear hT hl hnc hcm hr
    go_enter Tryd.func4, Tryd.ntmps4
    go_wp2_with (go_at_call 9; refine (HA.out).mono ?_; rintro e w1 ⟨rfl, hO⟩)
    go_ret
    exact ⟨rfl, only_nil_below hO⟩
  have hi : ¬ ((1000 : Int) < (n : Int)) := by omega
  have HRD := Lib.hid (show Reads w w.heap.size A n (vrs zs) from hr)
  have HN := Lib.hid (show n ≤ 1000000 by omega)
  clear hT hl hnc hcm hr
  go_enter Tryd.func4, Tryd.ntmps4
  go_wp2_with (first | (go_at_call 9; refine (HA.out).mono ?_; rintro e w1 ⟨rfl, hO⟩; have HO1 := Lib.hid hO; have HR1 := Lib.hid (HRD.out.only' hO (Nat.le_refl _) (by simp)); clear hO) | (go_at_call 15; refine (encode_c HR1.out).mono ?_; rintro e w2 ⟨rfl, rfl⟩) | (go_at_call 16; refine (refEncode_c HR1.out HO1.out.size HN.out).mono ?_; rintro e w3 ⟨rfl, hO⟩; have HO3 := Lib.hid (HO1.out.trans hO); clear hO))
  go_ret
  refine ⟨?_, only_nil_below HO3.out⟩
  have he : (encL zs == (str (encL zs)).toList) = true := by rw [ByteArray.toList_eq, str_list, beq_self_eq_true]
  show Ending.returned (.bool (encL zs == (str (encL zs)).toList)) = _
  rw [he]
end Go.Proofs.YtbpmhleokmcggaaDoor
