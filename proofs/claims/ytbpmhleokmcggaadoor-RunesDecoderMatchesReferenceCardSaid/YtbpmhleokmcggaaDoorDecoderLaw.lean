/-
  The walk of RunesDecoderMatchesReference.
-/
import Derived.Test.YtbpmhleokmcggaaDoorAlive6
import Derived.Test.YtbpmhleokmcggaaDoorRef6D
import Derived.Test.YtbpmhleokmcggaaDoorPiecesIn
import Derived.Test.YtbpmhleokmcggaaDoorBoolsIn
import Derived.Test.YtbpmhleokmcggaaDoorTurn
import Derived.Lib.SlBytesConst
namespace Go.Proofs.YtbpmhleokmcggaaDoor
open Go.RowKit Go.BigFrame
set_option linter.unusedVariables false
set_option linter.unusedSimpArgs false
attribute [local go_sem ↓] sliced_cut run_min2 run_max2
attribute [local go_sem] cutA_zero

set_option maxRecDepth 100000 in
set_option maxHeartbeats 8000000 in
theorem decoderLaw (X : Option Addr) (k d : Nat) (ps : List PieceV) (Y : Option Addr) (n c : Nat) (bs : List Bool) (w : World) (hT : Tabs w) (hp : PiecesIn w X k d ps) (hb : BoolsIn w Y n c bs) :
    Calls Tryd.prog 5 #[.slice X k d, .slice Y n c] w fun e w' => e = .returned (.bool true) ∧ Below w.heap.size w w' := by
  have hsum := hp.sum
  obtain ⟨hP, hkd, hdm, hreach⟩ := hp
  have HT := Lib.hid hT
  have HP := Lib.hid hP
  have HB := Lib.hid hb
  have HSUM := Lib.hid hsum
  have hdm' := hdm
  unfold maxLen at hdm'
  have hcst : (convert 34 34 (.slice (some ⟨w.heap.size, 0, none⟩) 1 1)).run Tryd.prog (w.alloc (.cells #[.int .u8 97] 5)) = .ok (.slice (some ⟨w.heap.size, 0, none⟩) 1 1) (w.alloc (.cells #[.int .u8 97] 5 (1, 2))) := Lib.run_convert_bytes_const w 34 5 #[.int .u8 97] 1 1 Tryd.underlying34 Tryd.underlying5
  have HW0 := Lib.hid ((Only.refl [] w).alloc (.cells #[.int .u8 97] 5 (1, 2)))
  have HP0 := Lib.hid (hP.below (only_nil_below HW0.out))
  clear hT hP hreach hsum hb
  by_cases hk : k ≤ 200
  · go_enter Tryd.func5, Tryd.ntmps5
    go_wp2_with (first | (go_at_call 17; refine (write_nil _).mono ?_; rintro e w' ⟨rfl, rfl⟩) | (go_at_call 18; refine (close_nil).mono ?_; rintro e w' ⟨rfl, rfl⟩) | (go_at_call 19; refine (held_nil).mono ?_; rintro e w' ⟨rfl, rfl⟩))
    clear hcst
    generalize w.alloc (.cells #[.int .u8 97] 5 (1, 2)) = w0 at *
    go_loopw [6, 32] (fun s4 si wr => ∃ (i t : Nat), i ≤ k ∧ si = .int .i64 i ∧ s4 = .int .i64 t ∧ Hid (t = total (ps.take i)) ∧ w0 = wr) (fun _ si _ => k - (intOf si).toNat)
    case atStart => exact ⟨0, 0, Nat.zero_le _, rfl, rfl, Lib.hid (by simp [total]), rfl⟩
    case round =>
      obtain ⟨i, t, hik, rfl, rfl, ht, rfl⟩ := hrel
      by_cases hlt : i < k
      · obtain ⟨p, g, o, hpi, rfl, hg, hcell, hat⟩ := HP0.out.piece hlt
        have htk := total_take hpi
        have hall := total_take_all ps (i + 1)
        have hs := HSUM.out (by omega)
        obtain ⟨pA, pm, pc, pb⟩ := p
        simp only at hcell htk
        have htt : Hid (t + pm = total (ps.take (i + 1))) := Lib.hid (by rw [htk, ht.out])
        have hb : t + pm ≤ 9223372036854775807 := by have h1 := htt.out; omega
        have hw : IntKind.i64.wrap ((t : Int) + (pm : Int)) = ((t + pm : Nat) : Int) := by rw [wrap_small _ (by omega) (by omega)]; omega
        clear htk hall hs hpi hat ht
        go_wp2_with fail
        go_roundw
        case rel => exact ⟨i + 1, t + pm, by clear hw; omega, by clear hw; go_num, rfl, htt, trivial⟩
        case measure => clear hw; simp [intOf]; omega
      · obtain rfl : i = k := by omega
        have htot : Hid (t = total ps) := Lib.hid (by rw [ht.out, List.take_of_length_le (by rw [HP.out.1]; exact Nat.le_refl _)])
        clear ht
        have hki : ¬ (200 : Int) < (i : Int) := by omega
        by_cases hbig : 2000 < t
        · have hbi : (2000 : Int) < (t : Int) := by omega
          go_wp2_with (go_at_call 9; refine (alive_c (HT.out.only HW0.out)).mono ?_; rintro e w2 ⟨rfl, hO2⟩)
          go_ret
          exact ⟨rfl, only_nil_below (HW0.out.trans hO2)⟩
        · have hbi : ¬ (2000 : Int) < (t : Int) := by omega
          go_wp2_with (go_at_call 20; refine (new_c).mono ?_; rintro e1 w1 ⟨rfl, hD1, hO1⟩; have HD1 := Lib.hid hD1; have HO1 := Lib.hid hO1; clear hD1 hO1)
          have hHD : Hd w0.heap.size [] (w1.alloc (.cells #[.string ⟨#[]⟩] 40)) := Blk.alloc HD1.out _
          have hHM : Ho w1.heap.size [] (w1.alloc (.cells #[.string ⟨#[]⟩] 40)) := Blk.new w1 40 [.string (str [])]
          have HHD := Lib.hid hHD
          have HHM := Lib.hid hHM
          have HOW := Lib.hid ((HW0.out.trans HO1.out).alloc (.cells #[.string ⟨#[]⟩] 40))
          have HRM := Lib.hid (show w.heap.size ≤ w0.heap.size ∧ w.heap.size ≤ w1.heap.size ∧ w0.heap.size ≠ w1.heap.size from ⟨HW0.out.size, Nat.le_trans HW0.out.size HO1.out.size, by have := HD1.out.lt; omega⟩)
          clear hHD hHM HD1 HO1
          generalize (w1.alloc (.cells #[.string ⟨#[]⟩] 40)) = W0 at *
          generalize w1.heap.size = mm at *
          generalize hrr : w0.heap.size = r at *
          clear hrr
          go_loopw [56] (fun si wr => ∃ (j : Nat) (h : List UInt8), j ≤ i ∧ si = .int .i64 j ∧ Hid (h.length ≤ 3) ∧ Hid (Hd r h wr) ∧ Hid (Ho mm h wr) ∧ Hid (Only [] w wr)) (fun si _ => i - (intOf si).toNat)
          case atStart => exact ⟨0, [], Nat.zero_le _, rfl, Lib.hid (by simp), HHD, HHM, HOW⟩
          case round =>
            clear HHD HHM HOW
            obtain ⟨j, h, hjk, rfl, hL3, hH, hM, hO⟩ := hrel
            by_cases hlt : j < i
            · obtain ⟨p, g, q, hpi, rfl, hg, hcell, hat⟩ := (HP.out.below (only_nil_below hO.out)).piece hlt
              have htk := total_take hpi
              have hall := total_take_all ps (j + 1)
              obtain ⟨pA, pm, pc, pb⟩ := p
              obtain ⟨a1, a2, a3, a4⟩ := hat
              simp only at hcell htk a1 a2 a3 a4
              have HA := Lib.hid (HP.out.2.2 _ (List.mem_of_getElem? hpi)).2.2.2
              simp only at HA
              have HPM := Lib.hid (show pm ≤ 500000 by have := htot.out; omega)
              have HHL := Lib.hid (show h.length ≤ 500000 by have := hL3.out; omega)
              have HWL := Lib.hid (show (wout (h ++ pb)).length ≤ 1000000 by have h1 := wout_length (h ++ pb); rw [List.length_append, a1] at h1; have := HPM.out; have := hL3.out; omega)
              clear htk hall a1 a4 hpi
              unfold maxLen at a3
              go_wp2_with fail
              have HV := Lib.hid (show Hd r h wr.drew ∧ Ho mm h wr.drew ∧ Reads wr.drew w.heap.size pA pm (vbs pb) ∧ Only [] w wr.drew from ⟨Blk.drew hH.out, Blk.drew hM.out, HA.out.only' (hO.out.drew) (Nat.le_refl _) (by simp), hO.out.drew⟩)
              refine region_begin (T := [r, mm]) (by kernel_rfl) ?_
              generalize wr.drew = V0 at HV ⊢
              refine region_seg [true, true, false, true, true] 14 (by kernel_rfl) (by kernel_rfl) (by kernel_rfl) rfl (fun _ _ d _ _ h => by cases d <;> exact h) ?_
              repeat (first | with_reducible refine wpMask_pass ?_ | (refine wpMask_want (by rfl) (fun K hK => ?_); go_big_quiet_op; refine hK _ ?_; clear hK K))
              with_reducible refine wpMask_nil ?_
              refine region_call 2 (by kernel_rfl) rfl (by rfl) (by go_simp; exact ⟨rfl, rfl⟩) ?_
              refine (write_c HV.out.1 (HT.out.only HV.out.2.2.2) HV.out.2.2.1 HHL.out HPM.out).mono ?_
              rintro e V1 ⟨⟨A1, c1, rfl, hr1, hk1⟩, hh1, hO1⟩
              refine ⟨_, rfl, hO1.more (by simp), ?_⟩
              simp only [List.getElem_toArray, List.getElem_cons_zero, List.getElem_cons_succ, Act.put, List.setIfInBounds_toArray, List.set_cons_zero, List.set_cons_succ]
              have HR1 := Lib.hid hr1
              have HK1 := Lib.hid hk1
              have HH1 := Lib.hid hh1
              have HO1 := Lib.hid hO1
              clear hr1 hk1 hh1 hO1
              refine region_call 5 (by kernel_rfl) rfl (by rfl) (by go_simp; exact ⟨rfl, rfl⟩) ?_
              refine (refWrite_c (Blk.only HV.out.2.1 HO1.out (by simp; exact HRM.out.2.2.symm)) (HV.out.2.2.1.only' HO1.out HV.out.2.2.2.size (fun h0 ad e1 hk => by obtain ⟨ad', e2, hl, _⟩ := HV.out.2.2.1.2 h0; rw [e1] at e2; injection e2 with e2; subst e2; simp at hk; have := HRM.out.1; omega)) HHL.out HPM.out).mono ?_
              rintro e V2 ⟨⟨A2, c2, rfl, hr2, hk2⟩, hm2, hO2⟩
              refine ⟨_, rfl, hO2.more (by simp), ?_⟩
              simp only [List.getElem_toArray, List.getElem_cons_zero, List.getElem_cons_succ, Act.put, List.setIfInBounds_toArray, List.set_cons_zero, List.set_cons_succ]
              have HR12 := Lib.hid (HR1.out.only hO2 (fun k hk => by have h1 := HK1.out k hk; have h2 := HV.out.2.1.lt; simp; omega))
              have HR2 := Lib.hid hr2
              have HH2 := Lib.hid (Blk.only HH1.out hO2 (by simp; exact HRM.out.2.2))
              have HM2 := Lib.hid hm2
              have HO2 := Lib.hid (show Only [r, mm] V0 V2 from (HO1.out.more (by simp)).trans (hO2.more (by simp)))
              clear hr2 hk2 hm2 hO2 HR1 HK1 HH1 HO1
              refine region_call 6 (by kernel_rfl) rfl (by rfl) (by go_simp; exact ⟨rfl, rfl⟩) ?_
              refine (equalr_c HR12.out.reads HR2.out.reads c1 c2 HWL.out HWL.out).mono ?_
              rintro e V3 ⟨rfl, hO3⟩
              refine ⟨_, rfl, hO3.more (by simp), ?_⟩
              simp only [List.getElem_toArray, List.getElem_cons_zero, List.getElem_cons_succ, Act.put, List.setIfInBounds_toArray, List.set_cons_zero, List.set_cons_succ]
              rw [beq_self_eq_true]
              have HH3 := Lib.hid (Blk.only HH2.out hO3 (by simp))
              have HM3 := Lib.hid (Blk.only HM2.out hO3 (by simp))
              have HO3 := Lib.hid (show Only [r, mm] V0 V3 from HO2.out.trans (hO3.more (by simp)))
              clear hO3 HR12 HR2 HH2 HM2 HO2
              refine wpAnyH_mono (S' := Only [] V3) (fun w' h' => h'.more (by simp)) _ _ _ _ ?_
              have t0 : ∀ x : Later [] V3, x.w.cell? ⟨mm, 0, none⟩ = some (.string (str (wheld (h ++ pb)))) := fun x => (Blk.only HM3.out x.h (by simp)).cell 0
              refine region_seg [false, false, false, false, false, false, false, true, true, true, false, true, true, true, true, true] 3 (by kernel_rfl) (by kernel_rfl) (by kernel_rfl) rfl (fun _ _ d _ _ h => by cases d <;> exact h) ?_
              repeat (first | with_reducible refine wpMask_pass ?_ | (refine wpMask_want (by rfl) (fun K hK => ?_); go_big_quiet_op; refine hK _ ?_; clear hK K))
              with_reducible refine wpMask_nil ?_
              refine region_call 10 (by kernel_rfl) rfl (by rfl) (by go_simp; exact ⟨rfl, rfl⟩) ?_
              refine (held_c HH3.out).mono ?_
              rintro e _ ⟨rfl, rfl⟩
              refine ⟨_, rfl, Only.refl _ _, ?_⟩
              simp only [List.getElem_toArray, List.getElem_cons_zero, List.getElem_cons_succ, Act.put, List.setIfInBounds_toArray, List.set_cons_zero, List.set_cons_succ]
              clear t0
              refine region_seg [false, false, false, false, false, false, false, false, false, false, false, false, false, false, false, false, true, true] 0 (by kernel_rfl) (by kernel_rfl) (by kernel_rfl) rfl (fun _ _ d _ _ h => by cases d <;> exact h) ?_
              repeat (first | with_reducible refine wpMask_pass ?_ | (refine wpMask_want (by rfl) (fun K hK => ?_); go_big_quiet_op; refine hK _ ?_; clear hK K))
              with_reducible refine wpMask_nil ?_
              refine region_end (by kernel_rfl) ?_
              have HL3 := Lib.hid (wheld_length (h ++ pb))
              have HOV := Lib.hid (show Only [] w V3 from HV.out.2.2.2.join HO3.out (fun k hk => .inr (by simp at hk; have := HRM.out.1; have := HRM.out.2.1; omega)))
              have HWZ := Lib.hid (show (wheld (h ++ pb)).length ≤ 1000000 by have := HL3.out; omega)
              clear HV HO3 HWL hL3 hH hM hO HHL HPM
              generalize wheld (h ++ pb) = h' at *
              have hji : (j : Int) < (i : Int) := by omega
              have hzs : (str h').size = h'.length := str_size h'
              by_cases hjn : j < n
              · have hjni : (j : Int) < (n : Int) := by omega
                have hyr := HB.out.2.2.2.only' HOV.out (Nat.le_refl _) (by simp)
                obtain ⟨yg, yo, hY, _, hyc⟩ := hyr.plain (by omega)
                have hbl : j < bs.length := by rw [HB.out.1]; exact hjn
                have hcb : V3.cell? ⟨yg, yo + j, none⟩ = some (.bool (bs[j]'hbl)) := hyc j _ (by rw [List.getElem?_map, List.getElem?_eq_getElem hbl]; rfl)
                generalize bs[j]'hbl = vb at *
                have hnc := HB.out.2.1
                have hcm := HB.out.2.2.1
                unfold maxLen at hcm
                clear hyr hyc
                subst hY
                cases vb with
                | true =>
                  have HDL := Lib.hid (show (decL h').length ≤ 1000000 by have h1 := decL_length h'; have h2 := HWZ.out; omega)
                  go_wp2_with (first | (go_at_call 18; refine (close_c HH3.out HWZ.out).mono ?_; rintro e V4 ⟨⟨A4, c4, rfl, hr4, hk4⟩, hh4, hO4⟩; have HM4 := Lib.hid (show Ho mm h' V4 from Blk.only HM3.out hO4 (by simp; exact HRM.out.2.2.symm)); have HR4 := Lib.hid hr4; have HK4 := Lib.hid hk4; have HH4 := Lib.hid hh4; have HO4 := Lib.hid (HOV.out.join hO4 (fun k hk => .inr (by simp at hk; have := HRM.out.1; omega))); clear hr4 hk4 hh4 hO4) | (go_at_call 22; refine (refClose_c HM4.out HWZ.out).mono ?_; rintro e V5 ⟨⟨A5, c5, rfl, hr5, hk5⟩, hm5, hO5⟩; have HE5 := Lib.hid (equalr_c (HR4.out.only hO5 (fun k hk => by have h1 := HK4.out k hk; have h2 := HM3.out.lt; simp; omega)).reads hr5.reads c4 c5 HDL.out HDL.out); have HH5 := Lib.hid (show Hd r [] V5 from Blk.only HH4.out hO5 (by simp; exact HRM.out.2.2)); have HM5 := Lib.hid hm5; have HO5 := Lib.hid (HO4.out.join hO5 (fun k hk => .inr (by simp at hk; have := HRM.out.2.1; omega))); clear hr5 hk5 hm5 hO5) | (go_at_call 10; refine (HE5.out).mono ?_; rintro e V6 ⟨rfl, hO⟩; rw [beq_self_eq_true]; have HH6 := Lib.hid (show Hd r [] V6 from Blk.only HH5.out hO (by simp)); have HM6 := Lib.hid (show Ho mm [] V6 from Blk.only HM5.out hO (by simp)); have HO6 := Lib.hid (HO5.out.trans hO); clear hO) | (go_at_call 19; refine (held_c HH6.out).mono ?_; rintro e V7 ⟨rfl, rfl⟩))
                  exact ⟨⟨j + 1, [], by omega, by go_num, Lib.hid (by simp), HH6, HM6, HO6⟩, by simp [intOf]; omega⟩
                | false =>
                  go_wp2_with fail
                  exact ⟨⟨j + 1, h', by omega, by go_num, HL3, HH3, HM3, HOV⟩, by simp [intOf]; omega⟩
              · have hjni : ¬ ((j : Int) < (n : Int)) := by omega
                go_wp2_with fail
                exact ⟨⟨j + 1, h', by omega, by go_num, HL3, HH3, HM3, HOV⟩, by simp [intOf]; omega⟩
            · obtain rfl : j = i := by omega
              go_wp2_with (go_at_call 9; refine (alive_c (HT.out.only hO.out)).mono ?_; rintro e w2 ⟨rfl, hO2⟩)
              go_ret
              exact ⟨rfl, only_nil_below (hO.out.trans hO2)⟩
  · have hki : (200 : Int) < (k : Int) := by omega
    go_enter Tryd.func5, Tryd.ntmps5
    go_wp2_with (first | (go_at_call 17; refine (write_nil _).mono ?_; rintro e w' ⟨rfl, rfl⟩) | (go_at_call 18; refine (close_nil).mono ?_; rintro e w' ⟨rfl, rfl⟩) | (go_at_call 19; refine (held_nil).mono ?_; rintro e w' ⟨rfl, rfl⟩))
    clear hcst
    generalize w.alloc (.cells #[.int .u8 97] 5 (1, 2)) = w0 at *
    go_loopw [6, 32] (fun s4 si wr => ∃ (i : Nat) (t : Int), i ≤ k ∧ si = .int .i64 i ∧ s4 = .int .i64 t ∧ w0 = wr) (fun _ si _ => k - (intOf si).toNat)
    case atStart => exact ⟨0, 0, Nat.zero_le _, rfl, rfl, rfl⟩
    case round =>
      obtain ⟨i, t, hik, rfl, rfl, rfl⟩ := hrel
      by_cases hlt : i < k
      · obtain ⟨p, g, o, hpi, rfl, hg, hcell, hat⟩ := HP0.out.piece hlt
        obtain ⟨pA, pm, pc, pb⟩ := p
        simp only at hcell
        clear hpi hat
        go_wp2_with fail
        go_roundw
        case rel => exact ⟨i + 1, _, by omega, by go_num, rfl, trivial⟩
        case measure => simp [intOf]; omega
      · obtain rfl : i = k := by omega
        by_cases hbig : 2000 < t
        · go_wp2_with (go_at_call 9; refine (alive_c (HT.out.only HW0.out)).mono ?_; rintro e w2 ⟨rfl, hO2⟩)
          go_ret
          exact ⟨rfl, only_nil_below (HW0.out.trans hO2)⟩
        · go_wp2_with (go_at_call 9; refine (alive_c (HT.out.only HW0.out)).mono ?_; rintro e w2 ⟨rfl, hO2⟩)
          go_ret
          exact ⟨rfl, only_nil_below (HW0.out.trans hO2)⟩
end Go.Proofs.YtbpmhleokmcggaaDoor
