/-
  Contracts: the program of layer 15: bytes, names, Go's library, small states.
-/
import Derived.Test.YtpcapmdfjmpdiaaGreatDoorZHt15
import Derived.Test.YtpcapmdfjmpdiaaGreatDoorZRegion2
import Derived.Lib.Bytealg
namespace Go.Proofs.YtpcapmdfjmpdiaaGreatDoor
open Go.RowKit Go.BigFrame
set_option linter.unusedVariables false
set_option linter.unusedSimpArgs false
set_option maxRecDepth 100000

set_option maxHeartbeats 1000000 in
set_option maxRecDepth 100000 in
theorem liteIndex_c (s : ByteArray) (c : Int) (w : World) :
    Calls Tryz.prog 99 #[.string s, .int .u8 c] w fun e w' => e = .returned (.int .i64 (Lib.indexByte s.data.toList c.toNat.toUInt8)) ∧ w' = w := by
  go_enter Tryz.func99, Tryz.ntmps99
  go_wp2
  rw [run_callFunc_extern Tryz.func115 (by kernel_rfl) (by kernel_rfl) (by kernel_rfl) (e := Extern.BytealgIndexByte.indexByte) (by kernel_rfl), Lib.run_indexByteString]
  simp only [Result.andThen]
  rw [Oper.upon_value]
  go_wp2
  go_ret
  exact ⟨rfl, rfl⟩
theorem indexByte_c (l : List UInt8) (w : World) :
    Calls Tryz.prog 104 #[.string (ofL l), .int .u8 60] w fun e w' => e = .returned (.int .i64 (Lib.indexByte l 60)) ∧ w' = w := by
  have HI := Lib.hid (liteIndex_c (ofL l) 60 w)
  go_enter Tryz.func104, Tryz.ntmps104
  go_wp2_with (go_at_call 99; ((with_reducible refine HI.out.mono ?_); rintro e w' ⟨rfl, hw⟩; rw [hw]))
  go_ret
  exact ⟨rfl, rfl⟩
/-- Does a list begin so? -/
def preB (s p : List UInt8) : Bool := decide (s.take p.length = p)
theorem litePre_c (s p : List UInt8) (w : World) (hs : s.length ≤ 100000) (hp : p.length ≤ 100000) :
    Calls Tryz.prog 161 #[.string (ofL s), .string (ofL p)] w fun e w' => e = .returned (.bool (preB s p)) ∧ w' = w := by
  have hz : (ofL s).size = s.length := rfl
  have hy : (ofL p).size = p.length := rfl
  have he := ext_take s p.length
  go_enter Tryz.func161, Tryz.ntmps161
  go_wp2_with fail
  · go_ret
    refine ⟨ret_bool ?_, rfl⟩
    unfold preB
    rw [Bool.eq_iff_iff, decide_eq_true_iff]
    simp [he, ofL_list]
  · go_ret
    refine ⟨ret_bool ?_, rfl⟩
    unfold preB
    symm
    rw [decide_eq_false_iff_not]
    intro h
    have := congrArg List.length h
    rw [List.length_take] at this
    omega
theorem hasPre_c (s p : List UInt8) (w : World) (hs : s.length ≤ 100000) (hp : p.length ≤ 100000) :
    Calls Tryz.prog 153 #[.string (ofL s), .string (ofL p)] w fun e w' => e = .returned (.bool (preB s p)) ∧ w' = w := by
  have HI := Lib.hid (litePre_c s p w hs hp)
  go_enter Tryz.func153, Tryz.ntmps153
  go_wp2_with (go_at_call 161; ((with_reducible refine HI.out.mono ?_); rintro e w' ⟨rfl, hw⟩; rw [hw]))
  go_ret
  exact ⟨rfl, rfl⟩
theorem plower_c (c : UInt8) (w : World) :
    Calls Tryz.prog 154 #[.int .u8 c.toNat] w fun e w' => e = .returned (.int .u8 (lowB c).toNat) ∧ w' = w := by
  have hlt := c.toNat_lt
  go_enter Tryz.func154, Tryz.ntmps154
  go_wp2_with fail
  all_goals (go_ret; exact ⟨ret_u8 (by rw [lowB_nat]; split <;> omega), rfl⟩)
theorem pletter_c (c : UInt8) (w : World) :
    Calls Tryz.prog 148 #[.int .u8 c.toNat] w fun e w' => e = .returned (.bool (ltrB c)) ∧ w' = w := by
  have hlt := c.toNat_lt
  have HL := Lib.hid (plower_c c w)
  go_enter Tryz.func148, Tryz.ntmps148
  go_wp2_with (go_at_call 154; ((with_reducible refine HL.out.mono ?_); rintro e w' ⟨rfl, hw⟩; rw [hw]))
  all_goals (go_ret; refine ⟨ret_bool ?_, rfl⟩; rw [ltrB_eq]; simp; try omega)
theorem pspace_c (c : UInt8) (w : World) :
    Calls Tryz.prog 150 #[.int .u8 c.toNat] w fun e w' => e = .returned (.bool (spcB c)) ∧ w' = w := by
  have hlt := c.toNat_lt
  go_enter Tryz.func150, Tryz.ntmps150
  go_wp2_with fail
  all_goals (go_ret; refine ⟨ret_bool ?_, rfl⟩; rw [Bool.eq_iff_iff, spcB_iff]; simp; try omega)
theorem padd_c (s : List UInt8) (c : UInt8) (w : World) (hs : s.length ≤ 100000) :
    Calls Tryz.prog 149 #[.string (ofL s), .int .u8 c.toNat] w fun e w' => e = .returned (.string (ofL (addL s c))) ∧ Bel w w' := by
  have HL := Lib.hid (plower_c c w)
  have HO := Lib.hid (one_str (lowB c) w)
  have hz : (ofL s).size = s.length := rfl
  have ho := HO.out
  go_enter Tryz.func149, Tryz.ntmps149
  go_wp2_with (go_at_call 154; ((with_reducible refine HL.out.mono ?_); rintro e w' ⟨rfl, rfl⟩))
  · go_ret
    exact ⟨by unfold addL; rw [if_pos (by omega)]; rfl, Bel.refl _⟩
  · go_ret
    exact ⟨by unfold addL; rw [if_neg (by omega), ← ofL_snoc]; rfl, Bel.alloc _ _⟩
/-- 'urlA' and 'rawA' in the words of a walk. -/
theorem urlA_w (a : List UInt8) : (urlA a = true) ↔ (((ofL a).toList == [104, 114, 101, 102]) = true ∨ ((ofL a).toList == [115, 114, 99]) = true ∨ ((ofL a).toList == [97, 99, 116, 105, 111, 110]) = true ∨ ((ofL a).toList == [102, 111, 114, 109, 97, 99, 116, 105, 111, 110]) = true) := by
  simp only [ofL_list, beq_iff_eq (a := a)]
  unfold urlA
  simp only [Bool.or_eq_true, decide_eq_true_eq]
theorem rawA_w (a : List UInt8) : (rawA a = true) ↔ (((ofL a).toList == [115, 116, 121, 108, 101]) = true ∨ ((ofL a).toList == [115, 114, 99, 100, 111, 99]) = true ∨ preB a [111, 110] = true) := by
  simp only [ofL_list, beq_iff_eq (a := a)]
  unfold rawA preB
  simp only [Bool.or_eq_true, decide_eq_true_eq]
  rfl
set_option maxRecDepth 100000 in
set_option maxHeartbeats 3200000 in
theorem pquoted_c (a : List UInt8) (u r v : Int) (w : World) (ha : a.length ≤ 100000) :
    Calls Tryz.prog 152 #[.string (ofL a), .int .i64 u, .int .i64 r, .int .i64 v] w fun e w' => e = .returned (.int .i64 (if urlA a = true then u else if rawA a = true then r else v)) ∧ w' = w := by
  have HP : Hid (Calls Tryz.prog 153 #[.string (ofL a), .string ⟨#[111, 110]⟩] w fun e w' => e = .returned (.bool (preB a [111, 110])) ∧ w' = w) := Lib.hid (hasPre_c a [111, 110] w ha (by decide))
  obtain ⟨R, hR⟩ : ∃ R, R = if urlA a = true then u else if rawA a = true then r else v := ⟨_, rfl⟩
  rw [← hR]
  simp only [urlA_w, rawA_w] at hR
  have HR := Lib.hid hR
  clear hR
  go_enter Tryz.func152, Tryz.ntmps152
  go_wp2_with (go_at_call 153; ((with_reducible refine HP.out.mono ?_); rintro e w' ⟨rfl, hw⟩; rw [hw]))
  all_goals go_ret
  all_goals refine ⟨?_, rfl⟩
  all_goals rw [HR.out]
  all_goals first
    | (exfalso; simp_all; done)
    | (simp only [*, if_true, if_false, Bool.false_eq_true, true_or, or_true, or_self]; first | done | rfl)
    | trace_state
/-- The end: the result lies in the newest block. -/
theorem pst_new {f : Func} {k g : Nat} {tmps : Array Value} {w w1 : World} {v0 v1 v2 v3 : Value} {v : Value} (hf : f.results = #[.cell k 74]) (hp : tmps.getD k undef = .pointer (some ⟨g, 0, none⟩)) (hg : g = w1.heap.size)
    (he : Value.agg #[v0, v1, v2, v3] = v) (hb : Bel w (w1.alloc (.cells #[v0, v1, v2, v3] 74))) : bodyPost Tryz.prog f (SvV v w) .ret { tmps := tmps, defers := [] } (w1.alloc (.cells #[v0, v1, v2, v3] 74)) := by
  subst hg
  refine bodyPost_ret (results_cell_row hf _ _ w1.heap.size _ _ (0, 0) _ hp (Blk.new w1 74 [v0, v1, v2, v3]) Tryz.underlying74 rfl (by kernel_rfl)) rfl ?_
  exact ⟨by rw [← he], hb⟩
/-- The end: the result's cells are written one by one. -/
theorem pst_set {f : Func} {k g : Nat} {tmps : Array Value} {w w1 : World} {a0 a1 a2 a3 v0 v1 v2 v3 : Value} {v : Value} (hf : f.results = #[.cell k 74]) (hp : tmps.getD k undef = .pointer (some ⟨g, 0, none⟩))
    (he : Value.agg #[v0, v1, v2, v3] = v) (hB : Blk w1 g 74 [a0, a1, a2, a3]) (hb : Bel w w1) (hg : w.heap.size ≤ g) :
    bodyPost Tryz.prog f (SvV v w) .ret { tmps := tmps, defers := [] } ((((w1.setCell ⟨g, 0, none⟩ v0).setCell ⟨g, 1, none⟩ v1).setCell ⟨g, 2, none⟩ v2).setCell ⟨g, 3, none⟩ v3) := by
  have h1 := (((hB.set_ 0 v0).set_ 1 v1).set_ 2 v2).set_ 3 v3
  simp only [List.set_cons_succ, List.set_cons_zero] at h1
  refine bodyPost_ret (results_cell_row hf _ _ g _ _ (0, 0) _ hp h1 Tryz.underlying74 rfl (by kernel_rfl)) rfl ?_
  exact ⟨by rw [← he], bel_on1 hb (((((Only.refl [g] w1).setCell (.inl (by simp)) _).setCell (.inl (by simp)) _).setCell (.inl (by simp)) _).setCell (.inl (by simp)) _) hg⟩
theorem ptag_c (k : Int) (n a p : ByteArray) (w : World) : Calls Tryz.prog 121 #[stV k n a p] w (SvV (stV 1 n ⟨#[]⟩ ⟨#[]⟩) w) := by
  unfold stV
  go_enter Tryz.func121, Tryz.ntmps121
  go_wp2_with fail
  exact pst_new rfl rfl (by simp) rfl ((Bel.alloc _ _).trans (Bel.alloc _ _))
theorem pattr_c (k j : Int) (n a p b : ByteArray) (w : World) : Calls Tryz.prog 151 #[stV k n a p, .int .i64 j, .string b] w (SvV (stV j n b ⟨#[]⟩) w) := by
  unfold stV
  go_enter Tryz.func151, Tryz.ntmps151
  go_wp2_with fail
  exact pst_new rfl rfl (by simp) rfl ((Bel.alloc _ _).trans (Bel.alloc _ _))
set_option maxRecDepth 100000 in
theorem popen_c (k : Int) (n : List UInt8) (a p : ByteArray) (w : World) : Calls Tryz.prog 132 #[stV k (ofL n) a p] w (SvP (openS n) w) := by
  unfold stV
  go_enter Tryz.func132, Tryz.ntmps132
  go_wp2_with fail
  all_goals refine pst_new rfl rfl (by simp) ?_ ((Bel.alloc _ _).trans (Bel.alloc _ _))
  all_goals simp_all [str_eq', openS, scriptL, styleL, HS.val, stV, s0, ofL]
set_option maxRecDepth 100000 in
theorem pstay_c (k j : Int) (n a p m b q : ByteArray) (c d : UInt8) (w : World) : Calls Tryz.prog 118 #[stV k n a p, .int .u8 c.toNat, .int .u8 d.toNat, stV j m b q] w (SvV (if c = d then stV j m b q else stV k n a p) w) := by
  rw [show (if c = d then stV j m b q else stV k n a p) = if ((c.toNat : Int) == (d.toNat : Int)) = true then stV j m b q else stV k n a p from by simp only [beq_iff_eq, ← u8_iff]]
  unfold stV
  go_enter Tryz.func118, Tryz.ntmps118
  go_wp2_with fail
  all_goals refine pst_new rfl rfl (by simp) ?_ (((Bel.alloc _ _).trans (Bel.alloc _ _)).trans (Bel.alloc _ _))
  all_goals simp only [*, if_true, if_false, Bool.false_eq_true]
end Go.Proofs.YtpcapmdfjmpdiaaGreatDoor
