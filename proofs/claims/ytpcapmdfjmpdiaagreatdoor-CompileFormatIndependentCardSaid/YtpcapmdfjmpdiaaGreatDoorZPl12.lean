/-
  Contracts: Run and Escaper of the program of layer 15.
  The reference of layer 16: values, comparing states, what its functions answer.
  The program of layer 16: the analysis as it lies in memory, what its functions answer; comparing states.
  Contract: the program's list, out of its node.
  Contracts: what the program's Parse defers, where it panicked and where it did not.
-/
import Derived.Test.YtpcapmdfjmpdiaaGreatDoorZHw15
import Derived.Test.YtpcapmdfjmpdiaaGreatDoorZPs15
import Derived.Test.YtpcapmdfjmpdiaaGreatDoorZPb17
import Derived.Test.YtpcapmdfjmpdiaaGreatDoorZRegion2
import Derived.Test.YtpcapmdfjmpdiaaGreatDoorZIq16
import Derived.Test.YtpcapmdfjmpdiaaGreatDoorZCt12
import Derived.Laws.StructEq
import Derived.Test.YtpcapmdfjmpdiaaGreatDoorZPd12
import Derived.Test.YtpcapmdfjmpdiaaGreatDoorZPure12
namespace Go.Proofs.YtpcapmdfjmpdiaaGreatDoor
open Go.RowKit Go.BigFrame
set_option linter.unusedVariables false
set_option linter.unusedSimpArgs false
set_option maxRecDepth 100000

theorem indexAny_c (t : ByteArray) (w : World) :
    Calls Tryz.prog 104 #[.string t, .int .u8 60] w fun e w' => e = .returned (.int .i64 (Lib.indexByte (toL t) 60)) ∧ w' = w := by
  obtain ⟨l, rfl⟩ : ∃ l, t = ofL l := ⟨toL t, (ofL_toL t).symm⟩
  rw [toL_ofL]
  exact indexByte_c l w
theorem toL_dropx (l : List UInt8) (i : Nat) : toL ((ofL l).extract i l.length) = l.drop i := by
  unfold toL ofL
  rw [ByteArray.data_extract]
  simp only [Array.toList_extract, List.extract_eq_take_drop]
  exact List.take_of_length_le (by simp)
theorem index_cases (l : List UInt8) : (Lib.indexByte l 60 = -1 ∧ ∀ b, b ∈ l → b ≠ 60) ∨ ∃ j : Nat, Lib.indexByte l 60 = j ∧ l[j]? = some 60 ∧ ∀ b, b ∈ l.take j → b ≠ 60 := by
  induction l with
  | nil => exact .inl ⟨rfl, fun b h => by cases h⟩
  | cons d l ih =>
    unfold Lib.indexByte
    by_cases hd : d = 60
    · refine .inr ⟨0, by rw [if_pos (by simp [hd])]; rfl, by rw [hd]; rfl, fun b h => by simp at h⟩
    · rw [if_neg (by simpa using hd)]
      rcases ih with ⟨h1, h2⟩ | ⟨j, h1, h2, h3⟩
      · refine .inl ⟨by rw [h1]; rfl, fun b hb => ?_⟩
        rcases List.mem_cons.1 hb with rfl | hb
        · exact hd
        · exact h2 b hb
      · refine .inr ⟨j + 1, ?_, by simpa using h2, fun b hb => ?_⟩
        · rw [h1, if_neg (by rw [beq_iff_eq]; omega)]; omega
        · rw [List.take_succ_cons] at hb
          rcases List.mem_cons.1 hb with rfl | hb
          · exact hd
          · exact h3 b hb
theorem run_text (t : List UInt8) (h : ∀ b, b ∈ t → b ≠ 60) : runS (s0 0) t = s0 0 := by
  induction t with
  | nil => rfl
  | cons d t ih =>
    rw [runS_cons, show stepS (s0 0) d = s0 0 from by
      have hd : ¬ d = 60 := h d (by simp)
      show (if d = 60 then _ else s0 0) = _
      rw [if_neg hd]]
    exact ih fun b hb => h b (by simp [hb])
/-- What is skipped in text. -/
theorem run_skip {s : HS} {l : List UInt8} {i j : Nat} (hs : runS s (l.take i) = s0 0) (hj : ∀ b, b ∈ (l.drop i).take j → b ≠ 60) : runS s (l.take (i + j)) = s0 0 := by
  rw [List.take_add, runS_append, hs]
  exact run_text _ hj
set_option maxRecDepth 100000 in
set_option maxHeartbeats 6400000 in
theorem prunB_c (s : HS) (hi : Inv s) (t : ByteArray) (ht : t.size ≤ 140737488351232) (w : World) : Calls Tryz.prog 83 #[s.val, .string t] w (SvP (runS s (toL t)) w) := by
  obtain ⟨l, rfl⟩ : ∃ l, t = ofL l := ⟨toL t, (ofL_toL t).symm⟩
  rw [toL_ofL]
  have hz : (ofL l).size = l.length := rfl
  have hl : l.length ≤ 140737488351232 := by omega
  have HI := Lib.hid hi
  obtain ⟨R, hR⟩ : ∃ R, R = runS s l := ⟨_, rfl⟩
  rw [← hR]
  have HR := Lib.hid hR
  clear hR hi ht
  unfold SvP HS.val stV
  go_enter Tryz.func83, Tryz.ntmps83
  go_wp2_with fail
  go_loopw [5] (fun s5 wr => ∃ (i : Nat) (S : HS), i ≤ l.length ∧ s5 = .int .i64 i ∧ Hid (S = runS s (l.take i)) ∧ Hid (Bel w wr) ∧ Hid (Blk wr w.heap.size 74 [.int .i64 (S.c : Nat), .string (ofL S.n), .string (ofL S.a), .string (ofL S.p)]) ∧ Hid (Blk wr (w.heap.size + 1) 74 [.int .i64 0, .string ⟨#[]⟩, .string ⟨#[]⟩, .string ⟨#[]⟩])) (fun s5 _ => l.length - (intOf s5).toNat)
  case atStart => exact ⟨0, s, Nat.zero_le _, rfl, Lib.hid rfl, Lib.hid ((Bel.alloc _ _).trans (Bel.alloc _ _)), Lib.hid ((Blk.new w 74 [.int .i64 (s.c : Nat), .string (ofL s.n), .string (ofL s.a), .string (ofL s.p)]).alloc _), Lib.hid (blk_at1h w _ 74 [.int .i64 0, .string ⟨#[]⟩, .string ⟨#[]⟩, .string ⟨#[]⟩])⟩
  case round =>
    obtain ⟨i, S, hil, rfl, HS, HB, HK, HM⟩ := hrel
    have hgd := st_guard
    by_cases hlt : i < l.length
    · by_cases hS0 : S = s0 0
      · subst hS0
        replace HK : Hid (Blk wr w.heap.size 74 [.int .i64 0, .string ⟨#[]⟩, .string ⟨#[]⟩, .string ⟨#[]⟩]) := HK
        have heq : ∀ W, (binOp .eql 74 (.agg #[.int .i64 0, .string ⟨#[]⟩, .string ⟨#[]⟩, .string ⟨#[]⟩]) (.agg #[.int .i64 0, .string ⟨#[]⟩, .string ⟨#[]⟩, .string ⟨#[]⟩])).run Tryz.prog W = .ok (.bool true) W := fun W => (st_eql (s0 0) (s0 0) W).trans (by rw [(stB_iff _ _).2 rfl])
        have hIX := fun W => indexAny_c ((ofL l).extract i l.length) W
        rw [toL_dropx] at hIX
        rcases index_cases (l.drop i) with ⟨hJ, hno⟩ | ⟨j, hJ, hc, hno⟩
        · rw [hJ] at hIX
          have HIX := Lib.hid hIX
          have hRS : R = s0 0 := by
            have h := run_skip (j := l.length) HS.out.symm fun b hb => hno b (List.mem_of_mem_take hb)
            rw [List.take_of_length_le (by omega)] at h
            rw [HR.out, h]
          subst hRS
          clear hIX hJ hno
          obtain ⟨k0, k1, k2, k3⟩ := cells4 HK.out
          obtain ⟨m0, m1, m2, m3⟩ := cells4 HM.out
          obtain ⟨y0, y1, y2, y3⟩ := frees4 HM.out
          go_wp2_with (go_at_call 104; ((with_reducible refine (HIX.out _).mono ?_); rintro e w' ⟨rfl, hw⟩; rw [hw]; clear hw w'))
          (with_reducible apply pst_set (k := 4) (g := w.heap.size + 1))
          case hf => rfl
          case hp => rfl
          case hB => exact HM.out
          case hb => exact HB.out
          case hg => omega
          rfl
        · rw [hJ] at hIX
          have HIX := Lib.hid hIX
          have hcm : l[i + j]? = some 60 := by rw [List.getElem?_drop] at hc; exact hc
          have hml : i + j < l.length := (List.getElem?_eq_some_iff.1 hcm).1
          obtain ⟨T, hT⟩ : ∃ T, T = stepS (s0 0) 60 := ⟨_, rfl⟩
          have HT := Lib.hid (show T = runS s (l.take (i + j + 1)) by rw [runS_take hcm, run_skip HS.out.symm hno]; exact hT)
          have HPS : Hid (∀ W, Calls Tryz.prog 105 #[.agg #[.int .i64 0, .string ⟨#[]⟩, .string ⟨#[]⟩, .string ⟨#[]⟩], .int .u8 60] W (SvV (.agg #[.int .i64 (T.c : Nat), .string (ofL T.n), .string (ofL T.a), .string (ofL T.p)]) W)) := Lib.hid (fun W => by have h := pstep_c (s0 0) Inv.init 60 W; rw [← hT] at h; exact h)
          have f5 : ∀ W, (Instr.index 9 (.string (ofL l)) (.int .i64 ((i : Int) + (j : Int)))).run Tryz.prog W = .ok (.int .u8 60) W := fun W => by have h := run_index_ofL l (i + j) 60 hcm W; rw [Int.natCast_add] at h; exact h
          clear hIX hJ hno hc hcm hT
          obtain ⟨k0, k1, k2, k3⟩ := cells4 HK.out
          go_wp2_with (go_at_call 104; ((with_reducible refine (HIX.out _).mono ?_); rintro e w' ⟨rfl, hw⟩; rw [hw]; clear hw w'))
          clear k0 k1 k2 k3
          refine region_begin (T := [w.heap.size]) (by kernel_rfl) ?_
          have HBd := Lib.hid (HB.out.trans (Bel.drew _))
          have HKd := Lib.hid HK.out.drew
          have HMd := Lib.hid HM.out.drew
          generalize wr.drew = W at HBd HKd HMd ⊢
          refine region_seg [false, true, true, true] 3 (by kernel_rfl) (by kernel_rfl) (by kernel_rfl) rfl (fun _ _ d _ _ h => by cases d <;> exact h) ?_
          repeat (first | with_reducible refine wpMask_pass ?_ | (refine wpMask_want (by rfl) (fun K hK => ?_); go_big_quiet_op; refine hK _ ?_; clear hK K))
          with_reducible refine wpMask_nil ?_
          obtain ⟨k0, k1, k2, k3⟩ := cells4 HKd.out
          refine region_make 0 (v := .agg #[.int .i64 0, .string ⟨#[]⟩, .string ⟨#[]⟩, .string ⟨#[]⟩]) (w1 := W) (by kernel_rfl) rfl (by rfl) (by go_simp) (Only.refl _ _) ?_
          simp only [List.getElem_toArray, List.getElem_cons_zero, List.getElem_cons_succ, Act.put, List.setIfInBounds_toArray, List.set_cons_zero, List.set_cons_succ]
          refine region_call 4 (by kernel_rfl) rfl (by rfl) (by go_simp; exact ⟨rfl, rfl⟩) ?_
          (with_reducible refine (HPS.out _).mono ?_); rintro e w2 ⟨rfl, hb⟩; refine ⟨_, rfl, (Only.refl _ W).join (bel_only hb) (by simp), ?_⟩
          simp only [List.getElem_toArray, List.getElem_cons_zero, List.getElem_cons_succ, Act.put, List.setIfInBounds_toArray, List.set_cons_zero, List.set_cons_succ]
          have HB2 := Lib.hid (HBd.out.trans hb)
          have HK2 := Lib.hid (HKd.out.belh hb)
          have HM2 := Lib.hid (HMd.out.belh hb)
          clear hb k0 k1 k2 k3
          obtain ⟨k0, k1, k2, k3⟩ := cells4 HK2.out
          obtain ⟨y0, y1, y2, y3⟩ := frees4 HK2.out
          have hP : Only [w.heap.size] w2 ((((w2.setCell ⟨w.heap.size, 0, none⟩ (.int .i64 (T.c : Nat))).setCell ⟨w.heap.size, 1, none⟩ (.string (ofL T.n))).setCell ⟨w.heap.size, 2, none⟩ (.string (ofL T.a))).setCell ⟨w.heap.size, 3, none⟩ (.string (ofL T.p))) := ((((Only.refl [w.heap.size] w2).setCell (.inl (by simp)) _).setCell (.inl (by simp)) _).setCell (.inl (by simp)) _).setCell (.inl (by simp)) _
          have hK4 := (((HK2.out.set_ 0 (.int .i64 (T.c : Nat))).set_ 1 (.string (ofL T.n))).set_ 2 (.string (ofL T.a))).set_ 3 (.string (ofL T.p))
          simp only [List.set_cons_succ, List.set_cons_zero] at hK4
          have HK4 := Lib.hid hK4
          have HM4 := Lib.hid (HM2.out.only hP (by simp))
          have HB4 := Lib.hid (show Bel w _ from hP.below HB2.out (by have := HB2.out.size; omega) (by simp))
          refine region_store 5 (w1 := ((((w2.setCell ⟨w.heap.size, 0, none⟩ (.int .i64 (T.c : Nat))).setCell ⟨w.heap.size, 1, none⟩ (.string (ofL T.n))).setCell ⟨w.heap.size, 2, none⟩ (.string (ofL T.a))).setCell ⟨w.heap.size, 3, none⟩ (.string (ofL T.p)))) (by kernel_rfl) rfl (by rfl) (by go_simp) hP ?_
          simp only [List.getElem_toArray, List.getElem_cons_zero, List.getElem_cons_succ, Act.put, List.setIfInBounds_toArray, List.set_cons_zero, List.set_cons_succ]
          refine region_end (by kernel_rfl) ?_
          clear k0 k1 k2 k3 y0 y1 y2 y3 hP hK4
          generalize ((((w2.setCell ⟨w.heap.size, 0, none⟩ (.int .i64 (T.c : Nat))).setCell ⟨w.heap.size, 1, none⟩ (.string (ofL T.n))).setCell ⟨w.heap.size, 2, none⟩ (.string (ofL T.a))).setCell ⟨w.heap.size, 3, none⟩ (.string (ofL T.p))) = w4 at HK4 HM4 HB4 ⊢
          go_wp2_with fail
          go_roundw
          case rel => exact ⟨(i + j) + 1, T, by omega, by go_num, HT, HB4, HK4, HM4⟩
          case measure => simp [intOf]; omega
      · have hI : Inv S := by rw [HS.out]; exact inv_run HI.out _
        have heq : ∀ W, (binOp .eql 74 (.agg #[.int .i64 (S.c : Nat), .string (ofL S.n), .string (ofL S.a), .string (ofL S.p)]) (.agg #[.int .i64 0, .string ⟨#[]⟩, .string ⟨#[]⟩, .string ⟨#[]⟩])).run Tryz.prog W = .ok (.bool false) W := fun W => (st_eql S (s0 0) W).trans (by rw [show stB S (s0 0) = false from by rw [← Bool.not_eq_true, stB_iff]; exact hS0])
        obtain ⟨c, hc⟩ : ∃ c, l[i]? = some c := ⟨_, List.getElem?_eq_getElem hlt⟩
        have f5 := fun W => run_index_ofL l i c hc W
        obtain ⟨T, hT⟩ : ∃ T, T = stepS S c := ⟨_, rfl⟩
        have HT := Lib.hid (show T = runS s (l.take (i + 1)) by rw [runS_take hc, ← HS.out]; exact hT)
        have HPS : Hid (∀ W, Calls Tryz.prog 105 #[.agg #[.int .i64 (S.c : Nat), .string (ofL S.n), .string (ofL S.a), .string (ofL S.p)], .int .u8 c.toNat] W (SvV (.agg #[.int .i64 (T.c : Nat), .string (ofL T.n), .string (ofL T.a), .string (ofL T.p)]) W)) := Lib.hid (fun W => by have h := pstep_c S hI c W; rw [← hT] at h; exact h)
        clear hc hI hT hS0
        obtain ⟨k0, k1, k2, k3⟩ := cells4 HK.out
        go_wp2_with fail
        clear k0 k1 k2 k3
        refine region_begin (T := [w.heap.size]) (by kernel_rfl) ?_
        have HBd := Lib.hid (HB.out.trans (Bel.drew _))
        have HKd := Lib.hid HK.out.drew
        have HMd := Lib.hid HM.out.drew
        generalize wr.drew = W at HBd HKd HMd ⊢
        refine region_seg [false, true, true, true] 3 (by kernel_rfl) (by kernel_rfl) (by kernel_rfl) rfl (fun _ _ d _ _ h => by cases d <;> exact h) ?_
        repeat (first | with_reducible refine wpMask_pass ?_ | (refine wpMask_want (by rfl) (fun K hK => ?_); go_big_quiet_op; refine hK _ ?_; clear hK K))
        with_reducible refine wpMask_nil ?_
        obtain ⟨k0, k1, k2, k3⟩ := cells4 HKd.out
        refine region_make 0 (v := .agg #[.int .i64 (S.c : Nat), .string (ofL S.n), .string (ofL S.a), .string (ofL S.p)]) (w1 := W) (by kernel_rfl) rfl (by rfl) (by go_simp) (Only.refl _ _) ?_
        simp only [List.getElem_toArray, List.getElem_cons_zero, List.getElem_cons_succ, Act.put, List.setIfInBounds_toArray, List.set_cons_zero, List.set_cons_succ]
        refine region_call 4 (by kernel_rfl) rfl (by rfl) (by go_simp; exact ⟨rfl, rfl⟩) ?_
        (with_reducible refine (HPS.out _).mono ?_); rintro e w2 ⟨rfl, hb⟩; refine ⟨_, rfl, (Only.refl _ W).join (bel_only hb) (by simp), ?_⟩
        simp only [List.getElem_toArray, List.getElem_cons_zero, List.getElem_cons_succ, Act.put, List.setIfInBounds_toArray, List.set_cons_zero, List.set_cons_succ]
        have HB2 := Lib.hid (HBd.out.trans hb)
        have HK2 := Lib.hid (HKd.out.belh hb)
        have HM2 := Lib.hid (HMd.out.belh hb)
        clear hb k0 k1 k2 k3
        obtain ⟨k0, k1, k2, k3⟩ := cells4 HK2.out
        obtain ⟨y0, y1, y2, y3⟩ := frees4 HK2.out
        have hP : Only [w.heap.size] w2 ((((w2.setCell ⟨w.heap.size, 0, none⟩ (.int .i64 (T.c : Nat))).setCell ⟨w.heap.size, 1, none⟩ (.string (ofL T.n))).setCell ⟨w.heap.size, 2, none⟩ (.string (ofL T.a))).setCell ⟨w.heap.size, 3, none⟩ (.string (ofL T.p))) := ((((Only.refl [w.heap.size] w2).setCell (.inl (by simp)) _).setCell (.inl (by simp)) _).setCell (.inl (by simp)) _).setCell (.inl (by simp)) _
        have hK4 := (((HK2.out.set_ 0 (.int .i64 (T.c : Nat))).set_ 1 (.string (ofL T.n))).set_ 2 (.string (ofL T.a))).set_ 3 (.string (ofL T.p))
        simp only [List.set_cons_succ, List.set_cons_zero] at hK4
        have HK4 := Lib.hid hK4
        have HM4 := Lib.hid (HM2.out.only hP (by simp))
        have HB4 := Lib.hid (show Bel w _ from hP.below HB2.out (by have := HB2.out.size; omega) (by simp))
        refine region_store 5 (w1 := ((((w2.setCell ⟨w.heap.size, 0, none⟩ (.int .i64 (T.c : Nat))).setCell ⟨w.heap.size, 1, none⟩ (.string (ofL T.n))).setCell ⟨w.heap.size, 2, none⟩ (.string (ofL T.a))).setCell ⟨w.heap.size, 3, none⟩ (.string (ofL T.p)))) (by kernel_rfl) rfl (by rfl) (by go_simp) hP ?_
        simp only [List.getElem_toArray, List.getElem_cons_zero, List.getElem_cons_succ, Act.put, List.setIfInBounds_toArray, List.set_cons_zero, List.set_cons_succ]
        refine region_end (by kernel_rfl) ?_
        clear k0 k1 k2 k3 y0 y1 y2 y3 hP hK4
        generalize ((((w2.setCell ⟨w.heap.size, 0, none⟩ (.int .i64 (T.c : Nat))).setCell ⟨w.heap.size, 1, none⟩ (.string (ofL T.n))).setCell ⟨w.heap.size, 2, none⟩ (.string (ofL T.a))).setCell ⟨w.heap.size, 3, none⟩ (.string (ofL T.p))) = w4 at HK4 HM4 HB4 ⊢
        go_wp2_with fail
        go_roundw
        case rel => exact ⟨i + 1, T, by omega, by go_num, HT, HB4, HK4, HM4⟩
        case measure => simp [intOf]; omega
    · obtain rfl : i = l.length := by omega
      have hRS : S = R := by have h := HS.out; rw [List.take_length] at h; rw [h, HR.out]
      rw [hRS] at HK
      obtain ⟨k0, k1, k2, k3⟩ := cells4 HK.out
      obtain ⟨m0, m1, m2, m3⟩ := cells4 HM.out
      obtain ⟨y0, y1, y2, y3⟩ := frees4 HM.out
      go_wp2_with fail
      (with_reducible apply pst_set (k := 4) (g := w.heap.size + 1))
      case hf => rfl
      case hp => rfl
      case hB => exact HM.out
      case hb => exact HB.out
      case hg => omega
      rfl
set_option maxRecDepth 100000 in
set_option maxHeartbeats 3200000 in
theorem pesc_c (s : HS) (hi : Inv s) (w : World) : Calls Tryz.prog 106 #[s.val] w fun e w' => e = .returned (.tuple #[.int .i64 (escS s).1, .bool (escS s).2]) ∧ Bel w w' := by
  rw [escS_w]
  unfold HS.val
  obtain ⟨k, hk⟩ : ∃ q, q = (s.c : Int) := ⟨_, rfl⟩
  rw [← hk]
  generalize s.p = p
  generalize ofL s.n = n
  generalize ofL s.a = a
  clear hk
  unfold stV
  go_enter Tryz.func106, Tryz.ntmps106
  go_wp2_with fail
  all_goals go_ret2
  all_goals refine ⟨?_, Bel.alloc _ _⟩
  all_goals first
    | (simp only [*, if_true, if_false, Bool.false_eq_true, true_or, or_true, or_self]; rfl)
    | (exfalso; simp_all; done)
    | trace_state
end Go.Proofs.YtpcapmdfjmpdiaaGreatDoor

namespace Go.Proofs.YtpcapmdfjmpdiaaGreatDoor
open Go.RowKit Go.BigFrame NT
set_option linter.unusedVariables false
set_option linter.unusedSimpArgs false
set_option maxRecDepth 100000

/-! ### What the reference's functions answer -/
/-- A node as a value. -/
abbrev nV (t : NT) : Value := .agg #[.int .i64 t.k, .int .i64 t.a, .string t.s, .string t.p, .bool t.h, .bool t.e, .slice t.A t.b.length t.c, .slice t.B t.l.length t.d]
/-- The cells of a state. -/
abbrev sC (s : HS) : List Value := [.int .i64 (s.c : Nat), .string (ofL s.n), .string (ofL s.a), .string (ofL s.p)]
abbrev rsC (s : HS) (A : Option Addr) (n c : Nat) (a k : Int) : List Value := [.int .i64 (s.c : Nat), .string (ofL s.n), .string (ofL s.a), .string (ofL s.p), .slice A n c, .int .i64 a, .int .i64 k]
/-- Escapers as cells. -/
def vin (es : List Nat) : List Value := es.map fun k => .int .i64 (k : Nat)
theorem vin_append (a b : List Nat) : vin (a ++ b) = vin a ++ vin b := by simp [vin]
theorem vin_one (l : List Nat) : ∀ v ∈ vin l, v.oneCell' = true := by
  intro v hv
  simp only [vin, List.mem_map] at hv
  obtain ⟨c, _, rfl⟩ := hv
  rfl
/-- A row of escapers of one's own, made since w. -/
def Es (w w' : World) (A : Option Addr) (n c : Nat) (es : List Nat) : Prop := n = es.length ∧ RowAt w' 3 A n c (vin es) ∧ ∀ k, k ∈ rowT A → w.heap.size ≤ k
theorem Es.nil (w w' : World) : Es w w' none 0 0 [] := ⟨rfl, RowAt.nil _ _, by simp [rowT]⟩
theorem Es.only {w w1 w2 : World} {A : Option Addr} {n c : Nat} {es : List Nat} {S : List Nat} (h : Es w w1 A n c es) (ho : Only S w1 w2) (hS : ∀ k, k ∈ rowT A → k ∉ S) : Es w w2 A n c es := ⟨h.1, h.2.1.only ho hS, h.2.2⟩
theorem Es.later {w w1 w2 : World} {A : Option Addr} {n c : Nat} {es : List Nat} (h : Es w w1 A n c es) (hb : Bel w1 w2) : Es w w2 A n c es := h.only (bel_only hb) (by simp)
theorem Es.since {w0 w w1 : World} {A : Option Addr} {n c : Nat} {es : List Nat} (h : Es w w1 A n c es) (hw : w0.heap.size ≤ w.heap.size) : Es w0 w1 A n c es := ⟨h.1, h.2.1, fun k hk => Nat.le_trans hw (h.2.2 k hk)⟩
theorem Es.blk {w w1 : World} {A : Option Addr} {n c : Nat} {es : List Nat} {g : Nat} {t : TypeId} {cs : List Value} (h : Es w w1 A n c es) (hB : Blk w1 g t cs) (hne : t ≠ 3) : g ∉ rowT A := h.2.1.ne_blk hB hne
/-- What came of a node or a list: the state and the escapers, or the offset and the error. -/
def RsQ (r : IR) (a0 : Int) (w w' : World) (t : HS) (A : Option Addr) (n c : Nat) (a k : Int) : Prop := match r with
  | .ok s es => t = s ∧ a = a0 ∧ k = 0 ∧ Es w w' A n c es
  | .no a' k' => a = a' ∧ k = (k' : Nat) ∧ k' ≠ 0
theorem RsQ.later {r : IR} {a0 : Int} {w w1 w2 : World} {t : HS} {A : Option Addr} {n c : Nat} {a k : Int} (h : RsQ r a0 w w1 t A n c a k) (hb : Bel w1 w2) : RsQ r a0 w w2 t A n c a k := by
  cases r with
  | ok s es => exact ⟨h.1, h.2.1, h.2.2.1, h.2.2.2.later hb⟩
  | no a' k' => exact h
def IR.Fine0 : IR → Prop | .ok _ _ => True | .no _ k => k = 15 ∨ k = 16
theorem IR.Fine0.next {r : IR} {f : HS → List Nat → IR} (h : r.Fine0) (hf : ∀ s es, (f s es).Fine0) : (r.next f).Fine0 := by
  cases r with
  | no a e => exact h
  | ok s es => exact hf s es
/-- Errors are never 0. -/
theorem nodeI_err {s : HS} {x : NT} {a : Int} {k : Nat} (h : nodeI s x = .no a k) : k = 15 ∨ k = 16 := by
  have key : ∀ l : List NT, (∀ x, x ∈ l → ∀ s, (nodeI s x).Fine0) → ∀ s, (listI s l).Fine0 := by
    intro l
    induction l with
    | nil => intro _ s; rw [listI_nil]; exact trivial
    | cons x l ih =>
      intro h s
      rw [listI_cons]
      exact (h x (by simp) s).next fun s1 e1 => (ih (fun y hy => h y (by simp [hy])) s1).next fun s2 e2 => trivial
  have all : ∀ x s, (nodeI s x).Fine0 := fun x => NT.ind (M := fun t => ∀ s, (nodeI s t).Fine0) (fun t hb hl s => by
    rw [nodeI_eq]
    split
    · exact trivial
    split
    · split
      · exact trivial
      · exact .inl rfl
    split
    · exact (key t.b hb s).next fun s1 e1 => (key t.l hl s).next fun s2 e2 => by
        split
        · exact trivial
        · exact .inr rfl
    split
    · exact (key t.b hb s).next fun s1 e1 => by
        split
        · exact trivial
        · exact .inr rfl
    split
    · split
      · exact trivial
      · exact .inl rfl
    split
    · exact (key t.b hb (s0 0)).next fun s1 e1 => by
        split
        · exact trivial
        · exact .inr rfl
    · exact trivial) x
  have := all x s
  rw [h] at this
  exact this
theorem listI_err {s : HS} {l : List NT} {a : Int} {k : Nat} (h : listI s l = .no a k) : k = 15 ∨ k = 16 := by
  induction l generalizing s with
  | nil => rw [listI_nil] at h; cases h
  | cons x l ih =>
    rw [listI_cons] at h
    cases hx : nodeI s x with
    | no a' k' =>
      rw [hx] at h
      injection h with h1 h2
      subst h1 h2
      exact nodeI_err hx
    | ok s1 e1 =>
      rw [hx, IR.next_ok] at h
      cases hl : listI s1 l with
      | no a' k' =>
        rw [hl] at h
        injection h with h1 h2
        subst h1 h2
        exact ih hl
      | ok s2 e2 => rw [hl, IR.next_ok] at h; cases h
/-! ### The end of a function whose result is a Result -/
theorem info_int16 : ∃ i, Tryz.prog.info? 3 = some i ∧ i.zero = some (.int .i64 0) ∧ i.size = 1 ∧ i.bytes = 8 := by
  refine ⟨_, rfl, ?_, ?_, ?_⟩ <;> kernel_rfl
end Go.Proofs.YtpcapmdfjmpdiaaGreatDoor

namespace Go.Proofs.YtpcapmdfjmpdiaaGreatDoor
open Go.RowKit Go.BigFrame NT
set_option linter.unusedVariables false
set_option linter.unusedSimpArgs false
set_option maxRecDepth 100000

theorem pst_neq (s t : HS) (w : World) : (binOp .neq 74 (.agg #[.int .i64 (s.c : Nat), .string (ofL s.n), .string (ofL s.a), .string (ofL s.p)]) (.agg #[.int .i64 (t.c : Nat), .string (ofL t.n), .string (ofL t.a), .string (ofL t.p)])).run Tryz.prog w = .ok (.bool (!eqH s t)) w := by
  have u3 := Tryz.underlying3
  have a3 := Tryz.isAgg3
  have z3 := Tryz.sizeOf3
  have u9 := Tryz.underlying9
  have a9 := Tryz.isAgg9
  have z9 := Tryz.sizeOf9
  have hS : Tryz.prog.underlying 74 = some (.struct (Tryz.prog.fieldsOf 74)) := by kernel_rfl
  have hp : Tryz.prog.stoodInHeld 74 = false := by kernel_rfl
  rw [run_neq_struct, show (10000 : Nat) = 9999 + 1 from rfl, run_equalIn_agg w 9999 74 _ _ hS hp]
  simp only [Program.fieldsOf, Tryz.underlying74]
  go_simp
  unfold eqH
  simp only [ofL_list]
  have hc : ((s.c : Int) = (t.c : Int)) ↔ s.c = t.c := by omega
  by_cases h1 : s.c = t.c <;> by_cases h2 : s.n = t.n <;> by_cases h3 : s.a = t.a <;> by_cases h4 : s.p = t.p <;> simp [h1, h2, h3, h4, hc]
/-! ### The analysis: a cell that holds the row of the escapers so far -/
structure An (B rr : Nat) (w : World) (A : Option Addr) (n c : Nat) (es : List Nat) : Prop where
  blk : Blk w rr 72 [.slice A n c]
  len : n = es.length
  row : RowAt w 3 A n c (vin es)
  lo : B ≤ rr
  low : ∀ k, k ∈ rowT A → B ≤ k
theorem An.bel {B rr : Nat} {w w' : World} {A : Option Addr} {n c : Nat} {es : List Nat} (h : An B rr w A n c es) (hb : Bel w w') : An B rr w' A n c es := ⟨h.blk.belh hb, h.len, h.row.only (bel_only hb) (by simp), h.lo, h.low⟩
theorem An.size {B rr : Nat} {w : World} {A : Option Addr} {n c : Nat} {es : List Nat} (h : An B rr w A n c es) : B ≤ w.heap.size := by have := h.blk.lt; have := h.lo; omega
theorem An.ne {B rr : Nat} {w : World} {A : Option Addr} {n c : Nat} {es : List Nat} {g : Nat} {T : TypeId} {cs : List Value} (h : An B rr w A n c es) (hB : Blk w g T cs) (hT : T ≠ 72) : g ≠ rr := by
  rintro rfl
  have h1 := h.blk
  unfold Blk at h1 hB
  rw [hB] at h1
  simp only [Option.some.injEq, Obj.cells.injEq] at h1
  exact hT h1.2.1
theorem An.keep {B rr : Nat} {w w' : World} {A : Option Addr} {n c : Nat} {es : List Nat} {g : Nat} {T : TypeId} {cs : List Value} (h : An B rr w A n c es) (hO : Only (rr :: rowT A) w w') (hB : Blk w g T cs) (h1 : T ≠ 72) (h2 : T ≠ 3) : Blk w' g T cs :=
  hB.only hO (by rw [List.mem_cons, not_or]; exact ⟨h.ne hB h1, h.row.ne_blk hB h2⟩)
theorem An.own {B rr : Nat} {w w' : World} {A : Option Addr} {n c : Nat} {es : List Nat} {g : Nat} {T : TypeId} {cs : List Value} (h : An B rr w A n c es) (hO : Only [g] w w') (hB : Blk w g T cs) (h1 : T ≠ 72) (h2 : T ≠ 3) : An B rr w' A n c es :=
  ⟨h.blk.only hO (by rw [List.mem_singleton]; exact fun e => h.ne hB h1 e.symm), h.len, h.row.only hO (fun k hk hm => by rw [List.mem_singleton] at hm; subst hm; exact h.row.ne_blk hB h2 hk), h.lo, h.low⟩
/-- What became of an analysis since a world: nothing else was turned that was there then. -/
structure Ev (B rr : Nat) (w : World) (A0 : Option Addr) (W : World) (A : Option Addr) (n c : Nat) (es : List Nat) : Prop where
  an : An B rr W A n c es
  only : Only (rr :: rowT A0) w W
  sub : ∀ k, k ∈ rowT A → k ∈ rowT A0 ∨ w.heap.size ≤ k
theorem Ev.refl {B rr : Nat} {w : World} {A : Option Addr} {n c : Nat} {es : List Nat} (h : An B rr w A n c es) : Ev B rr w A w A n c es := ⟨h, Only.refl _ _, fun k hk => .inl hk⟩
theorem Ev.bel {B rr : Nat} {w W W' : World} {A0 A : Option Addr} {n c : Nat} {es : List Nat} (h : Ev B rr w A0 W A n c es) (hb : Bel W W') : Ev B rr w A0 W' A n c es := ⟨h.an.bel hb, h.only.join (bel_only hb) (by simp), h.sub⟩
theorem Ev.own {B rr : Nat} {w W W' : World} {A0 A : Option Addr} {n c : Nat} {es : List Nat} {g : Nat} {T : TypeId} {cs : List Value} (h : Ev B rr w A0 W A n c es) (hO : Only [g] W W') (hg : w.heap.size ≤ g) (hB : Blk W g T cs) (h1 : T ≠ 72) (h2 : T ≠ 3) : Ev B rr w A0 W' A n c es :=
  ⟨h.an.own hO hB h1 h2, h.only.join hO (fun i hi => by rw [List.mem_singleton] at hi; subst hi; exact .inr hg), h.sub⟩
theorem Ev.call {B rr : Nat} {w W W' : World} {A0 A A' : Option Addr} {n' c' : Nat} {es' : List Nat} (hO : Only (rr :: rowT A0) w W) (hs : ∀ k, k ∈ rowT A → k ∈ rowT A0 ∨ w.heap.size ≤ k) (h2 : Ev B rr W A W' A' n' c' es') : Ev B rr w A0 W' A' n' c' es' :=
  ⟨h2.an, hO.join h2.only (fun i hi => by
    rcases List.mem_cons.1 hi with rfl | hi
    · exact .inl (by simp)
    · exact (hs i hi).imp (fun h => List.mem_cons_of_mem _ h) id), fun k hk => by
    rcases h2.sub k hk with h | h
    · exact hs k h
    · exact .inr (Nat.le_trans hO.size h)⟩
theorem Ev.then {B rr : Nat} {w W W' : World} {A0 A A' : Option Addr} {n c n' c' : Nat} {es es' : List Nat} (h : Ev B rr w A0 W A n c es) (h2 : Ev B rr W A W' A' n' c' es') : Ev B rr w A0 W' A' n' c' es' := Ev.call h.only h.sub h2
/-- What lies below the base stays. -/
theorem Ev.below {B rr : Nat} {w W : World} {A0 A : Option Addr} {n0 c0 n c : Nat} {es0 es : List Nat} (h : Ev B rr w A0 W A n c es) (h0 : An B rr w A0 n0 c0 es0) : Below B w W := h.only.to_below h0.size (fun k hk => by
  rcases List.mem_cons.1 hk with rfl | hk
  · exact h0.lo
  · exact h0.low k hk)
/-! ### Nodes below a base -/
theorem NT.In.low {B : Nat} {w w' : World} {t : NT} (h : t.In w (· < B)) (hb : Below B w w') : t.In w' (· < B) := h.same (fun _ hg => hg) fun g p hg => Below.cell (p := ⟨g, p, none⟩) hb hg
theorem NT.Row.low {B : Nat} {w w' : World} {A : Option Addr} {c : Nat} {l : List NT} (h : Row w (· < B) A c l) (hb : Below B w w') : Row w' (· < B) A c l := h.same (fun _ hg => hg) fun g p hg => Below.cell (p := ⟨g, p, none⟩) hb hg
/-! ### What the program's functions answer -/
/-- The state, the offset, the error, and the escapers behind them. -/
def PQ (r : IR) (done : List Nat) (t : HS) (a k : Int) (es : List Nat) : Prop := match r with
  | .ok s e => t = s ∧ a = 0 ∧ k = 0 ∧ es = done ++ e
  | .no a' k' => t = s0 0 ∧ a = a' ∧ k = (k' : Nat) ∧ k' ≠ 0
def PP (r : IR) (done : List Nat) (B rr : Nat) (w : World) (A : Option Addr) (e : Ending) (w' : World) : Prop :=
  ∃ t a k A' n' c' es, e = .returned (.tuple #[.agg #[.int .i64 (t.c : Nat), .string (ofL t.n), .string (ofL t.a), .string (ofL t.p)], .int .i64 a, .int .i64 k]) ∧ Hid (Ev B rr w A w' A' n' c' es) ∧ Hid (PQ r done t a k es)
/-- The same of a function that has no analysis. -/
def PB (v : Value) (a k : Int) (w : World) (e : Ending) (w' : World) : Prop := e = .returned (.tuple #[v, .int .i64 a, .int .i64 k]) ∧ Bel w w'
theorem results_row_tmp2_16 {P : Program} {fn : Func} {p u v : Tmp} {ty : TypeId} (h : fn.results = #[.cell p ty, .tmp u, .tmp v]) (tmps : Array Value) (w : World) (g : Nat) (t : TypeId) (cs : Array Value) (fr : Nat × Nat) (d : TypeDesc)
    (hp : tmps.getD p undef = .pointer (some ⟨g, 0, none⟩)) (hg : w.heap[g]? = some (.cells cs t fr)) (hu : P.underlying ty = some d) (hd : (match d with | .struct _ | .array _ _ => true | _ => false) = true) (hi : (P.info? ty).map (·.size) = some cs.size) :
    (results fn tmps).run P w = .ok (.tuple #[.agg cs, tmps.getD u undef, tmps.getD v undef]) w := by
  have hp' : tmps[p]?.getD undef = .pointer (some ⟨g, 0, none⟩) := by simpa using hp
  simp [results, h, hp', asAddr, run_loadVar_row w g t ty cs fr d hg hu hd hi]
theorem only4p (W : World) (g : Nat) (a0 a1 a2 a3 : Value) : Only [g] W ((((W.setCell ⟨g, 0, none⟩ a0).setCell ⟨g, 1, none⟩ a1).setCell ⟨g, 2, none⟩ a2).setCell ⟨g, 3, none⟩ a3) :=
  (((((Only.refl [g] W).setCell (.inl (by simp)) _).setCell (.inl (by simp)) _).setCell (.inl (by simp)) _).setCell (.inl (by simp)) _)
theorem pp_set {f : Func} {p u v g : Nat} {tmps : Array Value} {w W : World} {r : IR} {done : List Nat} {B rr : Nat} {A : Option Addr} {a0 a1 a2 a3 v0 v1 v2 v3 : Value} {t : HS} {a k : Int} {A' : Option Addr} {n' c' : Nat} {es : List Nat}
    (hf : f.results = #[.cell p 74, .tmp u, .tmp v]) (hp : tmps.getD p undef = .pointer (some ⟨g, 0, none⟩)) (hu : tmps.getD u undef = .int .i64 a) (hv : tmps.getD v undef = .int .i64 k)
    (hB : Blk W g 74 [a0, a1, a2, a3]) (hg : w.heap.size ≤ g) (hE : Ev B rr w A W A' n' c' es) (he : Value.agg #[v0, v1, v2, v3] = .agg #[.int .i64 (t.c : Nat), .string (ofL t.n), .string (ofL t.a), .string (ofL t.p)]) (hq : PQ r done t a k es) :
    bodyPost Tryz.prog f (PP r done B rr w A) .ret { tmps := tmps, defers := [] } ((((W.setCell ⟨g, 0, none⟩ v0).setCell ⟨g, 1, none⟩ v1).setCell ⟨g, 2, none⟩ v2).setCell ⟨g, 3, none⟩ v3) := by
  have h1 := (((hB.set_ 0 v0).set_ 1 v1).set_ 2 v2).set_ 3 v3
  simp only [List.set_cons_succ, List.set_cons_zero] at h1
  refine bodyPost_ret (results_row_tmp2_16 hf _ _ g _ _ (0, 0) _ hp h1 Tryz.underlying74 rfl (by kernel_rfl)) rfl ?_
  exact ⟨t, a, k, A', n', c', es, by rw [← he, hu, hv], Lib.hid (hE.own (only4p W g v0 v1 v2 v3) hg hB (by decide) (by decide)), Lib.hid hq⟩
/-- The end where the result's cells are those of a block that is known. -/
theorem pb_blk {f : Func} {p u v g : Nat} {tmps : Array Value} {w W : World} {v0 v1 v2 v3 : Value} {x : Value} {a k : Int}
    (hf : f.results = #[.cell p 74, .tmp u, .tmp v]) (hp : tmps.getD p undef = .pointer (some ⟨g, 0, none⟩)) (hu : tmps.getD u undef = .int .i64 a) (hv : tmps.getD v undef = .int .i64 k)
    (hB : Blk W g 74 [v0, v1, v2, v3]) (hb : Bel w W) (he : Value.agg #[v0, v1, v2, v3] = x) :
    bodyPost Tryz.prog f (PB x a k w) .ret { tmps := tmps, defers := [] } W := by
  refine bodyPost_ret (results_row_tmp2_16 hf _ _ g _ _ (0, 0) _ hp hB Tryz.underlying74 rfl (by kernel_rfl)) rfl ?_
  exact ⟨by rw [← he, hu, hv], hb⟩
end Go.Proofs.YtpcapmdfjmpdiaaGreatDoor

namespace Go.Proofs.YtpcapmdfjmpdiaaGreatDoor
open Go.RowKit Go.BigFrame NT
set_option linter.unusedVariables false
set_option linter.unusedSimpArgs false

/-- How many tokens are left, as the parser's cell says it. -/
def leftQ (g : Nat) (w : World) : Nat := match w.cell? ⟨g, 0, none⟩ with
  | some (.slice _ n _) => n
  | _ => 0
theorem leftQ_eq {g n c : Nat} {A : Option Addr} {w : World} (h : w.cell? ⟨g, 0, none⟩ = some (.slice A n c)) : leftQ g w = n := by
  unfold leftQ; rw [h]
/-- The state of the loop. -/
structure LqAt (g : Nat) (A : Option Addr) (ts : List Tok) (w : World) (d c : Nat) (wr : World) (B : Option Addr) (q cB : Nat) (done : List NT) (A' : Option Addr) (cA' : Nat) (tr : List Tok) (cr : Nat) : Prop where
  ps : Pq wr g A' cA' tr cr
  same : rowT A' = rowT A
  row : KRow wr 69 8 NT.cs B cB done
  len : done.length = q
  few : q + tr.length ≤ ts.length
  fresh : ∀ b, b ∈ rowT B → w.heap.size ≤ b
  deep : ∀ x, x ∈ done → x.In wr (fun b => w.heap.size ≤ b ∧ b < wr.heap.size ∧ b ∉ rowT B)
  only : Only [g] w wr
  val : P ts 2 false d c = PR.pre (ers done) (P tr 2 false d cr)
  suf : ∃ k, tr = ts.drop k
theorem LqAt.row_ {g : Nat} {A : Option Addr} {ts : List Tok} {w : World} {d c : Nat} {wr : World} {B : Option Addr} {q cB : Nat} {done : List NT} {A' : Option Addr} {cA' : Nat} {tr : List Tok} {cr : Nat} (h : LqAt g A ts w d c wr B q cB done A' cA' tr cr) (hj : ts.length ≤ 100000) : Row wr (Fr w wr) B cB done :=
  NT.row_of h.row (by have := h.len; have := h.few; omega) (fun b hb => ⟨h.fresh b hb, h.row.lt b hb⟩) (fun x hx => (h.deep x hx).same (fun b hb => ⟨hb.1, hb.2.1⟩) (fun _ _ _ => rfl))
theorem LqAt.push {g : Nat} {A : Option Addr} {ts : List Tok} {w : World} {d c : Nat} {V w1 w4 : World} {B B2 : Option Addr} {q cB c2 : Nat} {done : List NT} {A' A2 : Option Addr} {cA' cA2 : Nat} {t : Tok} {r r' : List Tok} {cr c' : Nat} {x y : NT} {o1 : Obj}
    (h : LqAt g A ts w d c V B q cB done A' cA' (t :: r) cr) (h7 : t.k ≠ 7) (h8 : t.k ≠ 8) (hd : d ≤ 32) (hcr : cr ≤ 4096) (hg : g < w.heap.size) (hO : Only [g] V w1) (he : y.er = x) (hy : y.In w1 (Fr V w1)) (hP : Pq w1 g A2 cA2 r' c') (hA2 : rowT A2 = rowT A') (hr' : ∃ k, r' = r.drop k) (hNX : NX t r d cr = .ok (x, r', c'))
    (hR : KRow w4 69 8 NT.cs B2 c2 (done ++ [y])) (hO4 : Only (rowT B) (w1.alloc o1) w4) (hK : ∀ k, k ∈ rowT B2 → k ∈ rowT B ∨ k = (w1.alloc o1).heap.size) (hL : ∀ k, k ∈ rowT A → k < w.heap.size) :
    LqAt g A ts w d c w4 B2 (q + 1) c2 (done ++ [y]) A2 cA2 r' c' ∧ c' ≤ 4096 ∧ r'.length < (t :: r).length := by
  have hgd := nx_good hNX hcr hd
  have hlen := hgd.1
  have hVw : w.heap.size ≤ V.heap.size := h.only.size
  have hV1 : V.heap.size ≤ w1.heap.size := hO.size
  have hsz2 : (w1.alloc o1).heap.size = w1.heap.size + 1 := by simp
  have h4s : w1.heap.size + 1 ≤ w4.heap.size := by have := hO4.size; omega
  have hAf := h.fresh
  have hAl := h.row.lt
  have hO2 : Only [g] V (w1.alloc o1) := hO.alloc o1
  have hO3 : Only (rowT B) w1 w4 := ((Only.refl (rowT B) w1).alloc o1).trans hO4
  have key : ∀ b, w.heap.size ≤ b → b < w1.heap.size → b ∉ rowT B → b ∉ rowT B2 := by
    intro b h1 h2 h3 h4
    rcases hK b h4 with h5 | h5
    · exact h3 h5
    · omega
  refine ⟨⟨?_, hA2.trans h.same, hR, by rw [List.length_append, h.len]; rfl, by have := h.few; simp only [List.length_cons] at this; omega, ?_, ?_, ?_, ?_, ?_⟩, hgd.2, by simp; omega⟩
  · refine hP.only hO3 (fun hk => by have := hAf g hk; omega) (fun k hk hk2 => by rw [hA2, h.same] at hk; have := hL k hk; have := hAf k hk2; omega)
  · intro b hb
    rcases hK b hb with h5 | h5
    · exact hAf b h5
    · omega
  · intro z hz
    rcases List.mem_append.1 hz with hz | hz
    · have h1 := (h.deep z hz).onlyS (Q' := fun b => w.heap.size ≤ b ∧ b < V.heap.size ∧ b ∉ rowT B) hO (fun b hb => ⟨by simp; omega, hb.2.1⟩) (fun b hb => hb)
      exact h1.onlyS hO3 (fun b hb => ⟨hb.2.2, by omega⟩) (fun b hb => ⟨hb.1, by omega, key b hb.1 (by omega) hb.2.2⟩)
    · simp at hz; subst hz
      refine hy.onlyS hO3 (fun b hb => ⟨fun hk => by have := hAl b hk; have := hb.1; omega, hb.2⟩) (fun b hb => ⟨by have := hb.1; omega, by have := hb.2; omega, key b (by have := hb.1; omega) hb.2 (fun hk => by have := hAl b hk; have := hb.1; omega)⟩)
  · exact (h.only.trans hO2).join hO4 (fun k hk => .inr (hAf k hk))
  · rw [h.val, P_nx h7 h8, hNX]
    dsimp only
    rw [pre_cons, ers_snoc, he]
  · obtain ⟨k1, e1⟩ := h.suf
    obtain ⟨k2, e2⟩ := hr'
    exact ⟨k1 + 1 + k2, by rw [e2, tail_of e1, List.drop_drop]⟩
theorem LqAt.done_ {g : Nat} {A : Option Addr} {ts : List Tok} {w : World} {d c : Nat} {W : World} {B : Option Addr} {q cB : Nat} {done : List NT} {A' : Option Addr} {cA' : Nat} {tr : List Tok} {cr : Nat} (h : LqAt g A ts w d c W B q cB done A' cA' tr cr) (hr : P tr 2 false d cr = .ok ([], tr, cr)) (hj : ts.length ≤ 100000) :
    ListPq g A ts w (P ts 2 false d c) (.returned (.slice B q cB)) W := by
  rw [h.val, hr]
  exact ⟨h.only, B, cB, done, by simp, h.row_ hj, by rw [h.len], ⟨A', cA', h.ps, h.same⟩, h.suf⟩
theorem LqAt.fault {g : Nat} {A : Option Addr} {ts : List Tok} {w : World} {d c : Nat} {W W2 : World} {B : Option Addr} {q cB : Nat} {done : List NT} {A' : Option Addr} {cA' : Nat} {tr : List Tok} {cr a k : Nat} (h : LqAt g A ts w d c W B q cB done A' cA' tr cr) (hr : P tr 2 false d cr = .error (a, k)) (hO : Only [g] w W2) :
    ListPq g A ts w (P ts 2 false d c) (pan a k) W2 := by
  rw [h.val, hr]
  exact ⟨hO, rfl⟩
set_option maxRecDepth 100000 in
set_option maxHeartbeats 6400000 in
theorem plist_of {g m : Nat} (IN : ∀ n, n < m → NodeQ g n) : ListQ g m := by
  intro A cA ts d c w hP hG hlen hd hc
  have hgl := hP.blk.lt
  have HRT : Hid (∀ k, k ∈ rowT A → k < w.heap.size) := Lib.hid (fun k hk => hP.row.lt k hk)
  have HIN := Lib.hid (fun (A' : Option Addr) (cA' : Nat) (t : Tok) (r : List Tok) (cr : Nat) (W : World) (h1 : Pq W g A' cA' (t :: r) cr) (h2 : TsOk (t :: r)) (h3 : (t :: r).length ≤ ts.length) (h4 : cr ≤ 4096) => IN r.length (by simp at h3; omega) A' cA' t r d cr W h1 h2 (Nat.le_refl _) hd h4)
  have HST : Hid (LqAt g A ts w d c w none 0 0 [] A cA ts c) := Lib.hid ⟨hP, rfl, KRow.nil _ _ _ _, rfl, by omega, by simp [rowT], (fun x hx => by cases hx), Only.refl _ _, by simp [ers, pre_nil], 0, by simp⟩
  have HGT := Lib.hid hG
  have hN7 : ts.length ≤ 70000 := hG.1
  clear hP IN hG
  go_enter Tryz.func28, Tryz.ntmps28
  go_wp2_with fail
  go_loopw [5] (fun s5 wr => ∃ (B : Option Addr) (q cB : Nat) (done : List NT) (A' : Option Addr) (cA' : Nat) (tr : List Tok) (cr : Nat), s5 = .slice B q cB ∧ cr ≤ 4096 ∧ Hid (LqAt g A ts w d c wr B q cB done A' cA' tr cr)) (fun _ wr => leftQ g wr)
  case atStart => exact ⟨none, 0, 0, [], A, cA, ts, c, rfl, hc, HST⟩
  case round =>
    obtain ⟨B, q, cB, done, A', cA', tr, cr, rfl, hcr, HLI⟩ := hrel
    have HLF : Hid (leftQ g wr = tr.length) := Lib.hid (leftQ_eq HLI.out.ps.cells.1)
    obtain ⟨q0, q1⟩ := HLI.out.ps.cells
    cases tr with
    | nil =>
      simp only [List.length_nil] at q0
      go_wp2_with fail
      go_ret
      exact HLI.out.done_ rfl (by omega)
    | cons t r =>
      have hts : TsOk (t :: r) := by obtain ⟨k, hk⟩ := HLI.out.suf; rw [hk]; exact HGT.out.drop k
      have HTS := Lib.hid hts
      obtain ⟨g1, o1, hA', hg1, c0, c1, c2, c3, c4⟩ := HLI.out.ps.tok
      subst hA'
      simp only [List.length_cons] at q0
      have hrl : r.length + 1 ≤ 70000 := hts.1
      have hlen1 : (0 : Int) < (r.length : Int) + 1 := by omega
      clear hts
      by_cases h7 : t.k = 7
      · have k7 : ((t.k : Int) != 7) = false := by rw [h7]; rfl
        have HK7 := Lib.hid h7
        clear h7
        go_wp2_with fail
        go_ret
        exact HLI.out.done_ (by rw [P_else HK7.out, if_pos ⟨rfl, rfl⟩]) (by omega)
      have k7 : ((t.k : Int) != 7) = true := bne_iff_ne.2 (by omega)
      by_cases h8 : t.k = 8
      · have k8 : ((t.k : Int) != 8) = false := by rw [h8]; rfl
        have HK8 := Lib.hid h8
        clear h8 h7
        go_wp2_with fail
        go_ret
        exact HLI.out.done_ (by rw [P_end HK8.out, if_neg (by decide)]) (by omega)
      have k8 : ((t.k : Int) != 8) = true := bne_iff_ne.2 (by omega)
      have hfew := HLI.out.few
      go_wp2_with fail
      refine (HIN.out _ cA' t r cr wr HLI.out.ps HTS.out (by omega) hcr).mono ?_
      rintro e w1 ⟨hO, hp⟩
      have HO1 := Lib.hid hO
      cases hnx : NX t r d cr with
      | error ak =>
        obtain ⟨a, k⟩ := ak
        rw [hnx] at hp
        dsimp only at hp
        subst hp
        have HNX := Lib.hid hnx
        clear hnx hO
        go_wp2_with fail
        refine ⟨rfl, ?_⟩
        exact HLI.out.fault (by rw [P_nx h7 h8, HNX.out]) (HLI.out.only.trans HO1.out)
      | ok x =>
        obtain ⟨x, r', c'⟩ := x
        rw [hnx] at hp
        obtain ⟨y, he, hy, rfl, ⟨A2, cA2, hP2, hA2⟩, hr'⟩ := hp
        have HNX := Lib.hid hnx
        have HE := Lib.hid he
        have HY := Lib.hid hy
        have HP2 := Lib.hid hP2
        have HA2 := Lib.hid hA2
        have HR' := Lib.hid hr'
        have HQL := Lib.hid HLI.out.len
        have hq5 : q ≤ 70000 := by omega
        have HAL := Lib.hid ((HLI.out.row.only hO (fun k hk => by have := HLI.out.fresh k hk; simp; omega)).alloc (.cells #[.int .i64 y.k, .int .i64 y.a, .string y.s, .string y.p, .bool y.h, .bool y.e, .slice y.A y.b.length y.c, .slice y.B y.l.length y.d] 69))
        have HTX : Hid ([.int .i64 y.k, .int .i64 y.a, .string y.s, .string y.p, .bool y.h, .bool y.e, .slice y.A y.b.length y.c, .slice y.B y.l.length y.d] = y.cs) := Lib.hid rfl
        have HBK := Lib.hid (Blk.new w1 69 [.int .i64 y.k, .int .i64 y.a, .string y.s, .string y.p, .bool y.h, .bool y.e, .slice y.A y.b.length y.c, .slice y.B y.l.length y.d])
        clear hnx he hy hP2 hA2 hr' hO
        go_wp2_with ((with_reducible refine wp_ndL rfl (.tmp 32) (.tmp 36) rfl B q cB done HQL.out rfl HAL.out w1.heap.size _ _ HTX.out rfl HBK.out (by omega) ?_); intro B2 c2 w4 HR4 HO4 HK4; have HPU := Lib.hid (HLI.out.push h7 h8 hd hcr hgl HO1.out HE.out HY.out HP2.out HA2.out HR'.out HNX.out HR4.out HO4.out HK4.out HRT.out); clear HR4 HO4 HK4)
        have HLN : Hid (leftQ g w4 = r'.length) := Lib.hid (leftQ_eq HPU.out.1.ps.cells.1)
        have hlt := HPU.out.2.2
        have hc'4 := HPU.out.2.1
        have HPL := Lib.hid HPU.out.1
        go_roundw
        case rel => exact ⟨B2, q + 1, c2, _, A2, cA2, r', c', by go_num, hc'4, HPL⟩
        case measure => rw [HLN.out, HLF.out]; exact hlt
end Go.Proofs.YtpcapmdfjmpdiaaGreatDoor

namespace Go.Proofs.YtpcapmdfjmpdiaaGreatDoor
open Go.RowKit Go.BigFrame NT
set_option linter.unusedVariables false
set_option linter.unusedSimpArgs false

theorem assert_flt (a k : Nat) (w : World) : (Instr.typeAssert (.iface 58 (.agg #[.int .i64 a, .int .i64 k])) 20 58 true).run Tryz.prog w = .ok (.tuple #[.agg #[.int .i64 a, .int .i64 k], .bool true]) w := by kernel_rfl
theorem assert_nil (w : World) : (Instr.typeAssert .nilIface 20 58 true).run Tryz.prog w = .ok (.tuple #[.agg #[.int .i64 0, .int .i64 0], .bool false]) w := by kernel_rfl
set_option maxRecDepth 100000 in
set_option maxHeartbeats 3200000 in
theorem catch_c (b1 b2 b3 a k : Nat) (v1 v2 v3 : Value) (older : List PanicEntry) (w : World) (h1 : Blk w b1 38 [v1]) (h2 : Blk w b2 3 [v2]) (h3 : Blk w b3 24 [v3]) (n12 : b1 ≠ b2) (n13 : b1 ≠ b3) (n23 : b2 ≠ b3) :
    CallsD Tryz.prog 27 #[.pointer (some ⟨b1, 0, none⟩), .pointer (some ⟨b2, 0, none⟩), .pointer (some ⟨b3, 0, none⟩)] (.panicking ({ v := .iface 58 (.agg #[.int .i64 a, .int .i64 k]), recovered := false } :: older)) w fun e u' w' =>
      e = .returned (.tuple #[]) ∧ u' = .panicking ({ v := .iface 58 (.agg #[.int .i64 a, .int .i64 k]), recovered := true } :: older) ∧ Only [b1, b2, b3] w w' ∧
        Blk w' b1 38 [.slice none 0 0] ∧ Blk w' b2 3 [.int .i64 a] ∧ Blk w' b3 24 [.int .i64 k] := by
  refine callsD_of_wpS Tryz.func27 rfl fun c₀ cs hu => ?_
  simp only [Tryz.ntmps27, List.size_toArray, List.length_cons, List.length_nil, Nat.reduceAdd, Nat.reduceSub, Array.replicate_succ, Array.replicate_zero, List.push_toArray, List.append_toArray, List.nil_append, List.cons_append]
  apply wpS_seq
  refine wpS_region_recover (cs' := { c₀ with mode := .panicking ({ v := .iface 58 (.agg #[.int .i64 a, .int .i64 k]), recovered := true } :: older) } :: cs) rfl (by rfl) (by rfl) (.iface 58 (.agg #[.int .i64 a, .int .i64 k])) (.inl (by simp only [recoverD, hu])) ?_
  simp only [Act.put, List.setIfInBounds_toArray, List.set_cons_zero, List.set_cons_succ]
  have hta := assert_flt a k
  go_wp2_with fail
  simp only [Exit.thenS]
  refine wpS_of_wp ?_
  clear hta
  have HW := Lib.hid (Blk.new w 58 [.int .i64 a, .int .i64 k]).drew
  have H1 := Lib.hid (h1.alloc (.cells #[.int .i64 a, .int .i64 k] 58)).drew
  have H2 := Lib.hid (h2.alloc (.cells #[.int .i64 a, .int .i64 k] 58)).drew
  have H3 := Lib.hid (h3.alloc (.cells #[.int .i64 a, .int .i64 k] 58)).drew
  have hn1 : ¬ w.heap.size = b1 := by have := h1.lt; omega
  have hn2 : ¬ w.heap.size = b2 := by have := h2.lt; omega
  have hn3 : ¬ w.heap.size = b3 := by have := h3.lt; omega
  have HO : Hid (Only [b1, b2, b3] w (w.alloc (.cells #[.int .i64 a, .int .i64 k] 58)).drew) := Lib.hid (((Only.refl _ _).alloc _).drew)
  clear h1 h2 h3
  go_wp2_with fail
  refine region_begin (T := [b1, b2, b3]) (by kernel_rfl) ?_
  generalize (w.alloc (.cells #[.int .i64 a, .int .i64 k] 58)).drew = W at HW H1 H2 H3 HO ⊢
  have p0 : ∀ X : Later [b1, b2, b3] W, X.w.cell? ⟨w.heap.size, 0, none⟩ = some (.int .i64 a) := fun X => (HW.out.only X.h (by simp; exact ⟨hn1, hn2, hn3⟩)).cell 0
  have p1 : ∀ X : Later [b1, b2, b3] W, X.w.cell? ⟨w.heap.size, 1, none⟩ = some (.int .i64 k) := fun X => (HW.out.only X.h (by simp; exact ⟨hn1, hn2, hn3⟩)).cell 1
  refine region_seg [true, true, true, true] 3 (by kernel_rfl) (by kernel_rfl) (by kernel_rfl) rfl (fun _ _ d _ _ h => by cases d <;> exact h) ?_
  repeat (first | with_reducible refine wpMask_pass ?_ | (refine wpMask_want (by rfl) (fun K hK => ?_); go_big_quiet_op; refine hK _ ?_; clear hK K))
  with_reducible refine wpMask_nil ?_
  clear p0 p1
  have x1 := H1.out.cell 0
  have y1 := H1.out.free 0
  simp only [List.getElem?_cons_zero] at x1
  refine region_store (w1 := W.setCell ⟨b1, 0, none⟩ (.slice none 0 0)) 4 (by kernel_rfl) rfl (by rfl) (by go_simp) ((Only.refl _ _).setCell (.inl (by simp)) _) ?_
  simp only [List.getElem_toArray, List.getElem_cons_zero, List.getElem_cons_succ, Act.put, List.setIfInBounds_toArray, List.set_cons_zero, List.set_cons_succ]
  have K1 := Lib.hid (H1.out.set_ 0 (.slice none 0 0))
  have K2 := Lib.hid (H2.out.far (p := ⟨b1, 0, none⟩) (fun h => n12 h.symm) (.slice none 0 0))
  have K3 := Lib.hid (H3.out.far (p := ⟨b1, 0, none⟩) (fun h => n13 h.symm) (.slice none 0 0))
  have KO := Lib.hid (HO.out.setCell (p := ⟨b1, 0, none⟩) (.inl (by simp)) (.slice none 0 0))
  clear x1 y1 H1 H2 H3 HO HW
  generalize W.setCell ⟨b1, 0, none⟩ (.slice none 0 0) = W1 at K1 K2 K3 KO ⊢
  have x1 := K2.out.cell 0
  have y1 := K2.out.free 0
  simp only [List.getElem?_cons_zero] at x1
  refine region_store (w1 := W1.setCell ⟨b2, 0, none⟩ (.int .i64 a)) 5 (by kernel_rfl) rfl (by rfl) (by go_simp) ((Only.refl _ _).setCell (.inl (by simp)) _) ?_
  simp only [List.getElem_toArray, List.getElem_cons_zero, List.getElem_cons_succ, Act.put, List.setIfInBounds_toArray, List.set_cons_zero, List.set_cons_succ]
  have H1 := Lib.hid (K1.out.far (p := ⟨b2, 0, none⟩) n12 (.int .i64 a))
  have H2 := Lib.hid (K2.out.set_ 0 (.int .i64 a))
  have H3 := Lib.hid (K3.out.far (p := ⟨b2, 0, none⟩) (fun h => n23 h.symm) (.int .i64 a))
  have HO := Lib.hid (KO.out.setCell (p := ⟨b2, 0, none⟩) (.inl (by simp)) (.int .i64 a))
  clear x1 y1 K1 K2 K3 KO
  generalize W1.setCell ⟨b2, 0, none⟩ (.int .i64 a) = W2 at H1 H2 H3 HO ⊢
  have x1 := H3.out.cell 0
  have y1 := H3.out.free 0
  simp only [List.getElem?_cons_zero] at x1
  refine region_store (w1 := W2.setCell ⟨b3, 0, none⟩ (.int .i64 k)) 6 (by kernel_rfl) rfl (by rfl) (by go_simp) ((Only.refl _ _).setCell (.inl (by simp)) _) ?_
  simp only [List.getElem_toArray, List.getElem_cons_zero, List.getElem_cons_succ, Act.put, List.setIfInBounds_toArray, List.set_cons_zero, List.set_cons_succ]
  have K1 := Lib.hid (H1.out.far (p := ⟨b3, 0, none⟩) n13 (.int .i64 k))
  have K2 := Lib.hid (H2.out.far (p := ⟨b3, 0, none⟩) n23 (.int .i64 k))
  have K3 := Lib.hid (H3.out.set_ 0 (.int .i64 k))
  have KO := Lib.hid (HO.out.setCell (p := ⟨b3, 0, none⟩) (.inl (by simp)) (.int .i64 k))
  clear x1 y1 H1 H2 H3 HO
  generalize W2.setCell ⟨b3, 0, none⟩ (.int .i64 k) = W3 at K1 K2 K3 KO ⊢
  refine region_end (by kernel_rfl) ?_
  simp (config := {zetaDelta := true}) only [bodyPostS]
  exact ⟨trivial, _, rfl, _, results_none rfl _ _ _, rfl, rfl, KO.out, K1.out, K2.out, K3.out⟩
set_option maxRecDepth 100000 in
set_option maxHeartbeats 3200000 in
theorem catch_idle (b1 b2 b3 : Nat) (w : World) :
    CallsD Tryz.prog 27 #[.pointer (some ⟨b1, 0, none⟩), .pointer (some ⟨b2, 0, none⟩), .pointer (some ⟨b3, 0, none⟩)] .returning w fun e u' w' =>
      e = .returned (.tuple #[]) ∧ u' = .returning ∧ Bel w w' := by
  refine callsD_of_wpS Tryz.func27 rfl fun c₀ cs hu => ?_
  simp only [Tryz.ntmps27, List.size_toArray, List.length_cons, List.length_nil, Nat.reduceAdd, Nat.reduceSub, Array.replicate_succ, Array.replicate_zero, List.push_toArray, List.append_toArray, List.nil_append, List.cons_append]
  apply wpS_seq
  refine wpS_region_recover (cs' := c₀ :: cs) rfl (by rfl) (by rfl) .nilIface (.inr ⟨by simp only [recoverD, hu], rfl, rfl⟩) ?_
  simp only [Act.put, List.setIfInBounds_toArray, List.set_cons_zero, List.set_cons_succ]
  have hta := assert_nil
  go_wp2_with fail
  simp only [Exit.thenS]
  refine wpS_of_wp ?_
  clear hta
  have hB : Bel w (w.alloc (.cells #[.int .i64 0, .int .i64 0] 58)) := Bel.alloc _ _
  go_wp2_with fail
  have hc : c₀ :: cs = { c₀ with mode := .returning } :: cs := by rw [← hu]
  simp (config := {zetaDelta := true}) only [bodyPostS]
  exact ⟨trivial, _, hc, _, results_none rfl _ _ _, rfl, rfl, hB⟩
end Go.Proofs.YtpcapmdfjmpdiaaGreatDoor
