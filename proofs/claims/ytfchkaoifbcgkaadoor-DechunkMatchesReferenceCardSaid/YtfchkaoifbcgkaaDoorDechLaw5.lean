/-
  The law DechunkMatchesReference, walked.
-/
import Derived.Test.YtfchkaoifbcgkaaDoorDecPair
import Derived.Test.YtfchkaoifbcgkaaDoorPiecesIn
namespace Go.Proofs.YtfchkaoifbcgkaaDoor
open Go.RowKit Go.BigFrame
set_option linter.unusedVariables false
set_option linter.unusedSimpArgs false
attribute [local go_sem ↓] sliced_cut run_min2 run_max2
attribute [local go_sem] cutA_zero

/-- What the law reads of the reference: its decoder's bytes, the fields of what Of answered (block qb). -/
def OfShows (w : World) (r2 qb : Nat) (A : Option Addr) (n a : Nat) (P : Option Addr) (L p : Nat) (S : Option Addr) (M z : Nat) (pay : List UInt8) (wb cb : Bool) : Prop := ∀ w', Only [] w w' →
  w'.cell? ⟨r2, 0, none⟩ = some (.slice A n a) ∧ w'.cell? ⟨qb, 0, none⟩ = some (.slice P L p) ∧ w'.cell? ⟨qb, 1, none⟩ = some (.slice S M z) ∧ w'.cell? ⟨qb, 2, none⟩ = some (.bool wb) ∧ w'.cell? ⟨qb, 3, none⟩ = some (.bool cb) ∧
    (convert 26 9 (.slice P L p)).run Tryd.prog w' = .ok (.string ⟨pay.toArray⟩) w'
theorem of_shows_drew {w : World} {r2 qb : Nat} {A : Option Addr} {n a : Nat} {P : Option Addr} {L p : Nat} {S : Option Addr} {M z : Nat} {pay : List UInt8} {wb cb : Bool} (h : OfShows w r2 qb A n a P L p S M z pay wb cb) : OfShows w.drew r2 qb A n a P L p S M z pay wb cb :=
  fun w' hO => h w' (((Only.refl [] w).drew).trans hO)
theorem row_drew {w : World} {e : TypeId} {A : Option Addr} {n c : Nat} {xs : List Value} (h : RowAt w e A n c xs) : RowAt w.drew e A n c xs := h.keep fun _ _ => rfl
theorem of_shows {w7 : World} {r2 : Nat} {A : Option Addr} {n a : Nat} {e' : Value} {P : Option Addr} {L p : Nat} {S : Option Addr} {M z : Nat} {pay : List UInt8} {wb cb vb : Bool} (hb : Blk w7 r2 35 [.slice A n a, e']) (hP : RowAt w7 5 P L p (vbs pay)) :
    OfShows (w7.alloc (.cells #[.slice P L p, .slice S M z, .bool wb, .bool cb, .bool vb] 38)) r2 w7.heap.size A n a P L p S M z pay wb cb := by
  intro w' hO
  have h1 := (hb.alloc (.cells #[.slice P L p, .slice S M z, .bool wb, .bool cb, .bool vb] 38)).only hO (by simp)
  have h2 := (Blk.new w7 38 [.slice P L p, .slice S M z, .bool wb, .bool cb, .bool vb]).only hO (by simp)
  exact ⟨h1.cell 0, h2.cell 0, h2.cell 1, h2.cell 2, h2.cell 3, row_str hP w' (((Only.refl [] w7).alloc _).trans hO)⟩
/-- Of, at what was decoded. -/
theorem of_kept {w : World} {s : DSt} {o e : Nat} {b : List UInt8} (hk : Kept s o e b) {args : Array Value} (hc : Calls Tryd.prog 17 args w fun x w' => ResIs w (ofL b) x w') (L M : Nat) (wb cb : Bool) (hL : L = s.pay.length) (hM : M = s.sizes.length) (hwb : wb = s.whole) (hcb : cb = s.complete) :
    Calls Tryd.prog 17 args w fun x w' => ∃ P p S z, x = .returned (.agg #[.slice P L p, .slice S M z, .bool wb, .bool cb, .bool true]) ∧ RowAt w' 5 P L p (vbs s.pay) ∧ RowAt w' 3 S M z (vis (nats s.sizes)) ∧ Only [] w w' := by
  have hA := ofL_agrees b
  rw [hk.run] at hA
  obtain ⟨h1, h2, h3, h4, h5⟩ := hA
  refine hc.mono ?_
  rintro x w' ⟨P, p, S, z, rfl, hP, hS, _, _, hO⟩
  subst hL hM hwb hcb
  rw [h2] at hP
  rw [h3] at hS
  exact ⟨P, p, S, z, by rw [h1, h2, h3, h4, h5], hP, hS, hO⟩
section
variable {Q : World → List Nat → Prop} {w0 W : World} {B r : Nat}
theorem rfeed_pair {b0 B' : List UInt8} {e e' : Nat} (hQ : IsThing Q) (h : Pair Q (Rd r b0 e) w0 B W) {X : Option Addr} {m d : Nat} {b : List UInt8} (hb : Reads W w0.heap.size X m (vbs b)) (hmd : m ≤ d) (hdm : d ≤ maxLen) (ho : b0.length + m ≤ 900000) (hfe : feedR b0 e b = (B', e')) :
    Calls Tryd.prog 16 #[.pointer (some ⟨r, 0, none⟩), .slice X m d] W fun x w' => x = .returned (.int .i64 e') ∧ Pair Q (Rd r B' e') w0 B w' :=
  pair_call2 h hQ fun T hF hT => refFeed_c hF hb h.below.size (apart_of hb hT) hmd hdm ho hfe
theorem rd_parts {b0 : List UInt8} {e : Nat} (h : Pair Q (Rd r b0 e) w0 B W) : ∃ A a, Blk W r 35 [.slice A b0.length a, .int .i64 e] ∧ RowAt W 5 A b0.length a (vbs b0) := by
  obtain ⟨U, ⟨A, a, h1⟩, _⟩ := h.second
  exact ⟨A, a, h1.head, h1.row⟩
end

set_option maxRecDepth 100000 in
set_option maxHeartbeats 8000000 in
theorem dmatch_walk (X : Option Addr) (k d : Nat) (ps : List PieceV) (w : World) (hT : Tabs w) (hp : PiecesIn w X k d ps) :
    Calls Tryd.prog 3 #[.slice X k d] w fun e w' => e = .returned (.bool true) ∧ Below w.heap.size w w' := by
  have hsum := hp.sum
  obtain ⟨hP, hkd, hdm, hreach⟩ := hp
  have HT := Lib.hid hT
  have HP := Lib.hid hP
  have HSUM := Lib.hid hsum
  have hdm' := hdm
  unfold maxLen at hdm'
  clear hT hP hreach hsum
  by_cases hk : k ≤ 100
  · go_enter Tryd.func3, Tryd.ntmps3
    go_wp2_with (first | (go_at_call 8; refine (feed_nil _ _).mono ?_; rintro e w' ⟨rfl, rfl⟩) | (go_at_call 9; refine (payd_nil _).mono ?_; rintro e w' ⟨rfl, rfl⟩) | (go_at_call 10; refine (sized_nil _).mono ?_; rintro e w' ⟨rfl, rfl⟩) | (go_at_call 11; refine (whole_nil _).mono ?_; rintro e w' ⟨rfl, rfl⟩) | (go_at_call 12; refine (complete_nil _).mono ?_; rintro e w' ⟨rfl, rfl⟩) | (go_at_call 13; refine (offset_nil _).mono ?_; rintro e w' ⟨rfl, rfl⟩))
    go_loopw [4, 44] (fun s4 si wr => ∃ (i t : Nat), i ≤ k ∧ si = .int .i64 i ∧ s4 = .int .i64 t ∧ Hid (t = total (ps.take i)) ∧ w = wr) (fun _ si _ => k - (intOf si).toNat)
    case atStart => exact ⟨0, 0, Nat.zero_le _, rfl, rfl, Lib.hid (by simp [total]), rfl⟩
    case round =>
      obtain ⟨i, t, hik, rfl, rfl, ht, rfl⟩ := hrel
      by_cases hlt : i < k
      · obtain ⟨p, g, o, hpi, rfl, hg, hcell, hat⟩ := HP.out.piece hlt
        have htk := total_take hpi
        have hall := total_take_all ps (i + 1)
        have hs := HSUM.out (by omega)
        obtain ⟨pA, pm, pc, pb⟩ := p
        simp only at hcell htk
        have htt : Hid (t + pm = total (ps.take (i + 1))) := Lib.hid (by rw [htk, ht.out])
        have hb : t + pm ≤ 9223372036854775807 := by have h1 := htt.out; omega
        have hw : IntKind.i64.wrap ((t : Int) + (pm : Int)) = ((t + pm : Nat) : Int) := by rw [wrap_small _ (by omega) (by omega)]; omega
        clear htk hall hs hpi hat ht
        go_wp2_with fail
        go_roundw
        case rel => exact ⟨i + 1, t + pm, by clear hw; omega, by clear hw; go_num, rfl, htt, trivial⟩
        case measure => clear hw; simp [intOf]; omega
      · obtain rfl : i = k := by omega
        have htot : Hid (t = total ps) := Lib.hid (by rw [ht.out, List.take_of_length_le (by rw [HP.out.1]; exact Nat.le_refl _)])
        clear ht
        have hki : ¬ (100 : Int) < (i : Int) := by omega
        by_cases hbig : 800 < t
        · have hbi : (800 : Int) < (t : Int) := by omega
          go_wp2_with (go_at_call 14; refine (alive_c HT.out).mono ?_; rintro e w2 ⟨rfl, hO2⟩)
          go_ret
          exact ⟨rfl, only_nil_trans hO2⟩
        · have hbi : ¬ (800 : Int) < (t : Int) := by omega
          go_wp2_with (go_at_call 15; refine (newd_c w).mono ?_; rintro e1 w1 ⟨rfl, hD1, hO1⟩; have HD1 := Lib.hid hD1; have HO1 := Lib.hid hO1; clear hD1 hO1)
          have hpair : Pair (Dc w.heap.size DSt.init 0 0) (Rd w1.heap.size [] 0) w w.heap.size (w1.alloc (.cells #[.slice none 0 0, .int .i64 0] 35)) :=
            pair_made (dc_thing _ _ _ _) HD1.out (by simp) (U := [w1.heap.size]) ⟨none, 0, Blk.new w1 35 [.slice none 0 0, .int .i64 0], RowAt.nil _ _, by simp, by simp [rowT], by simp⟩ (by simp) (Below.refl _ _) HO1.out ((Only.refl [] w1).alloc _)
          have HPAIR := Lib.hid hpair
          clear hpair HD1 HO1
          generalize (w1.alloc (.cells #[.slice none 0 0, .int .i64 0] 35)) = W0 at HPAIR ⊢
          generalize w1.heap.size = r2 at HPAIR ⊢
          go_loopw [68] (fun si wr => ∃ (j : Nat) (s : DSt) (o e : Nat) (b1 : List UInt8), j ≤ i ∧ si = .int .i64 j ∧ Hid (o ≤ total (ps.take j)) ∧ Hid (Kept s o e b1) ∧ Hid (Pair (Dc w.heap.size s o e) (Rd r2 b1 e) w w.heap.size wr)) (fun si _ => i - (intOf si).toNat)
          case atStart => exact ⟨0, DSt.init, 0, 0, [], Nat.zero_le _, rfl, Lib.hid (Nat.zero_le _), Lib.hid ⟨rfl, rfl⟩, HPAIR⟩
          case round =>
            clear HPAIR
            obtain ⟨j, s, o, e, b1, hjk, rfl, hot, hK, hPr⟩ := hrel
            by_cases hlt : j < i
            · obtain ⟨p, g, q, hpi, rfl, hg, hcell, hat⟩ := (HP.out.below hPr.out.below).piece hlt
              have htk := total_take hpi
              have hall := total_take_all ps (j + 1)
              obtain ⟨pA, pm, pc, pb⟩ := p
              obtain ⟨a1, a2, a3, a4⟩ := hat
              simp only at hcell htk a1 a2 a3 a4
              obtain ⟨s', o', e', b', hf1, hf2, hk2, ho2, he2⟩ := feed_same pb s o e b1 hK.out
              have hopm : Hid (o + pm ≤ 800) := Lib.hid (by have h1 := hot.out; have h2 := htot.out; omega)
              have hot2 : Hid (o' ≤ total (ps.take (j + 1))) := Lib.hid (by have h1 := hot.out; rw [a1] at ho2; omega)
              have HKP := Lib.hid hk2
              have HO1M : Hid (o' ≤ 1000000) := Lib.hid (by have h1 := hopm.out; rw [a1] at ho2; omega)
              have HA := Lib.hid (HP.out.2.2 _ (List.mem_of_getElem? hpi)).2.2.2
              simp only at HA
              have hlen : b1.length + pm ≤ 900000 := by rw [hK.out.len]; have := hopm.out; omega
              have HFD := Lib.hid (feed_pair (rd_thing _ _ _) hPr.out HT.out hK.out.good (HA.out.below hPr.out.below) a2 a3 (by have := hopm.out; omega) hf1)
              have HF2 := Lib.hid hf2
              obtain ⟨L, hL⟩ : ∃ L, L = s'.pay.length := ⟨_, rfl⟩
              obtain ⟨M, hM⟩ : ∃ M, M = s'.sizes.length := ⟨_, rfl⟩
              obtain ⟨wb, hwb⟩ : ∃ wb, wb = s'.whole := ⟨_, rfl⟩
              obtain ⟨cb, hcb⟩ : ∃ cb, cb = s'.complete := ⟨_, rfl⟩
              have HL := Lib.hid hL
              have HM := Lib.hid hM
              have HWB := Lib.hid hwb
              have HCB := Lib.hid hcb
              have HMM : Hid (M ≤ 1000000) := Lib.hid (by rw [hM]; have h1 := hk2.good.count; have h2 := HO1M.out; omega)
              clear htk hall hf1 hf2 hk2 ho2 he2 a1 a4 hpi hL hM hwb hcb hot hK
              unfold maxLen at a3
              have a3' := a3
              go_wp2_with (first | (go_at_call 8; refine HFD.out.mono ?_; rintro e5 w5 ⟨rfl, hP5⟩; have HFR := Lib.hid (rfeed_pair (dc_thing _ _ _ _) hP5 (HA.out.below hP5.below) a2 (by unfold maxLen; exact a3) hlen HF2.out); clear hP5) | (go_at_call 16; refine HFR.out.mono ?_; rintro e6 w6 ⟨rfl, hP6⟩; obtain ⟨A6, a6, hb6, hr6⟩ := rd_parts hP6; rw [HKP.out.len] at hb6 hr6; have HP6 := Lib.hid hP6; have HB6 := Lib.hid hb6; have c6 := hb6.cell 0; have HOF := Lib.hid (of_kept HKP.out (refOf_c hr6.reads (Nat.le_refl _) hr6.le hr6.max HO1M.out) L M wb cb HL.out HM.out HWB.out HCB.out); clear hP6 hb6 hr6; simp only [List.getElem?_cons_zero] at c6) | (go_at_call 17; refine HOF.out.mono ?_; rintro e7 w7 ⟨P7, p7, S7, z7, rfl, hP7, hS7, hO7⟩; have HP7 := Lib.hid hP7; have HS7 := Lib.hid hS7; have HO7 := Lib.hid hO7; clear hP7 hS7 hO7))
              have HSH8 := Lib.hid (of_shows (S := S7) (M := M) (z := z7) (wb := wb) (cb := cb) (vb := true) (HB6.out.only HO7.out (by simp)) HP7.out)
              have HSZ8 := Lib.hid (HS7.out.alloc (.cells #[.slice P7 L p7, .slice S7 M z7, .bool wb, .bool cb, .bool true] 38))
              have HP8 := Lib.hid (HP6.out.quiet (dc_thing _ _ _ _) (rd_thing _ _ _) (HO7.out.alloc (.cells #[.slice P7 L p7, .slice S7 M z7, .bool wb, .bool cb, .bool true] 38)))
              generalize w7.alloc (.cells #[.slice P7 L p7, .slice S7 M z7, .bool wb, .bool cb, .bool true] 38) = w8 at HSH8 HSZ8 HP8 ⊢
              generalize w7.heap.size = qb at HSH8 ⊢
              clear HP6 HP7 HS7 HO7 HB6 c6
              refine region_begin (T := []) (by kernel_rfl) ?_
              have HQV := Lib.hid (HP8.out.quiet (dc_thing _ _ _ _) (rd_thing _ _ _) ((Only.refl [] w8).drew))
              have HSH := Lib.hid (of_shows_drew HSH8.out)
              have HSZ := Lib.hid (row_drew HSZ8.out)
              generalize w8.drew = V at HQV HSH HSZ ⊢
              have t0 : ∀ x : Later [] V, x.w.cell? ⟨r2, 0, none⟩ = some (.slice A6 o' a6) := fun x => (HSH.out x.w (x.h)).1
              refine region_seg [true, true, true, true, true, false, true, true, true, true, true] 34 (by kernel_rfl) (by kernel_rfl) (by kernel_rfl) rfl (fun _ _ d _ _ h => by cases d <;> exact h) ?_
              repeat (first | with_reducible refine wpMask_pass ?_ | (refine wpMask_want (by rfl) (fun K hK => ?_); go_big_quiet_op; refine hK _ ?_; clear hK K))
              with_reducible refine wpMask_nil ?_
              refine region_call 5 (by kernel_rfl) rfl (by rfl) (by go_simp; exact ⟨rfl, rfl⟩) ?_
              refine (offset_pair HQV.out).mono ?_
              rintro e _ ⟨rfl, rfl⟩
              refine ⟨_, rfl, Only.refl _ _, ?_⟩
              simp only [List.getElem_toArray, List.getElem_cons_zero, List.getElem_cons_succ, Act.put, List.setIfInBounds_toArray, List.set_cons_zero, List.set_cons_succ]
              clear t0
              have t1 : ∀ x : Later [] V, x.w.cell? ⟨qb, 0, none⟩ = some (.slice P7 L p7) := fun x => (HSH.out x.w (x.h)).2.1
              have t5 : ∀ x : Later [] V, (convert 26 9 (.slice P7 L p7)).run Tryd.prog x.w = .ok (.string ⟨s'.pay.toArray⟩) x.w := fun x => (HSH.out x.w (x.h)).2.2.2.2.2
              refine region_seg [false, false, false, false, false, false, false, false, false, false, false, true, true, true, true, false, false, true, true, true] 26 (by kernel_rfl) (by kernel_rfl) (by kernel_rfl) rfl (fun _ _ d _ _ h => by cases d <;> exact h) ?_
              repeat (first | with_reducible refine wpMask_pass ?_ | (refine wpMask_want (by rfl) (fun K hK => ?_); go_big_quiet_op; refine hK _ ?_; clear hK K))
              with_reducible refine wpMask_nil ?_
              refine region_call 15 (by kernel_rfl) rfl (by rfl) (by go_simp; exact ⟨rfl, rfl⟩) ?_
              refine (payd_pair HQV.out HKP.out.good HO1M.out L HL.out).mono ?_
              rintro e V1 ⟨G1, D1, rfl, hG, _, hO1⟩
              refine ⟨_, rfl, hO1, ?_⟩
              simp only [List.getElem_toArray, List.getElem_cons_zero, List.getElem_cons_succ, Act.put, List.setIfInBounds_toArray, List.set_cons_zero, List.set_cons_succ]
              clear t1 t5
              have HOV1 := Lib.hid hO1
              have hs7 : ∀ x : Later [] V1, (convert 26 9 (.slice G1 L D1)).run Tryd.prog x.w = .ok (.string ⟨s'.pay.toArray⟩) x.w := fun x => row_str hG x.w x.h
              have HQV1 := Lib.hid (HQV.out.quiet (dc_thing _ _ _ _) (rd_thing _ _ _) hO1)
              clear hG hO1
              have t2 : ∀ x : Later [] V1, x.w.cell? ⟨qb, 1, none⟩ = some (.slice S7 M z7) := fun x => (HSH.out x.w (HOV1.out.trans x.h)).2.2.1
              refine region_seg [false, false, false, false, false, false, false, false, false, false, false, false, false, false, false, false, true, false, false, false, true, true, true, true, false, true, true] 18 (by kernel_rfl) (by kernel_rfl) (by kernel_rfl) rfl (fun _ _ d _ _ h => by cases d <;> exact h) ?_
              repeat (first | with_reducible refine wpMask_pass ?_ | (refine wpMask_want (by rfl) (fun K hK => ?_); go_big_quiet_op; refine hK _ ?_; clear hK K))
              with_reducible refine wpMask_nil ?_
              refine region_call 24 (by kernel_rfl) rfl (by rfl) (by go_simp; exact ⟨rfl, rfl⟩) ?_
              refine (sized_pair HQV1.out HKP.out.good HO1M.out M HM.out).mono ?_
              rintro e V2 ⟨G2, D2, rfl, hG, _, hO1⟩
              refine ⟨_, rfl, hO1, ?_⟩
              simp only [List.getElem_toArray, List.getElem_cons_zero, List.getElem_cons_succ, Act.put, List.setIfInBounds_toArray, List.set_cons_zero, List.set_cons_succ]
              clear t2 hs7
              have HS2 := Lib.hid hG
              have HOV2 := Lib.hid (HOV1.out.trans hO1)
              have HQV2 := Lib.hid (HQV1.out.quiet (dc_thing _ _ _ _) (rd_thing _ _ _) hO1)
              clear hG hO1
              refine region_call 27 (by kernel_rfl) rfl (by rfl) (by go_simp; exact ⟨rfl, rfl⟩) ?_
              refine (equali_c HS2.out.reads (HSZ.out.reads.only' HOV2.out (Nat.le_refl _) (by simp)) D2 z7 HMM.out HMM.out).mono ?_
              rintro e V3 ⟨rfl, hO1⟩
              refine ⟨_, rfl, hO1, ?_⟩
              simp only [List.getElem_toArray, List.getElem_cons_zero, List.getElem_cons_succ, Act.put, List.setIfInBounds_toArray, List.set_cons_zero, List.set_cons_succ]
              have HOV3 := Lib.hid (HOV2.out.trans hO1)
              have HQV3 := Lib.hid (HQV2.out.quiet (dc_thing _ _ _ _) (rd_thing _ _ _) hO1)
              clear hO1
              rw [beq_self_eq_true]
              have t3 : ∀ x : Later [] V3, x.w.cell? ⟨qb, 2, none⟩ = some (.bool wb) := fun x => (HSH.out x.w (HOV3.out.trans x.h)).2.2.2.1
              refine region_seg [false, false, false, false, false, false, false, false, false, false, false, false, false, false, false, false, false, false, false, false, false, false, false, false, false, false, false, false, true, true, true, true, false, true, true] 10 (by kernel_rfl) (by kernel_rfl) (by kernel_rfl) rfl (fun _ _ d _ _ h => by cases d <;> exact h) ?_
              repeat (first | with_reducible refine wpMask_pass ?_ | (refine wpMask_want (by rfl) (fun K hK => ?_); go_big_quiet_op; refine hK _ ?_; clear hK K))
              with_reducible refine wpMask_nil ?_
              refine region_call 32 (by kernel_rfl) rfl (by rfl) (by go_simp; exact ⟨rfl, rfl⟩) ?_
              refine (whole_pair HQV3.out wb HWB.out).mono ?_
              rintro e _ ⟨rfl, rfl⟩
              refine ⟨_, rfl, Only.refl _ _, ?_⟩
              simp only [List.getElem_toArray, List.getElem_cons_zero, List.getElem_cons_succ, Act.put, List.setIfInBounds_toArray, List.set_cons_zero, List.set_cons_succ]
              clear t3
              have t4 : ∀ x : Later [] V3, x.w.cell? ⟨qb, 3, none⟩ = some (.bool cb) := fun x => (HSH.out x.w (HOV3.out.trans x.h)).2.2.2.2.1
              refine region_seg [false, false, false, false, false, false, false, false, false, false, false, false, false, false, false, false, false, false, false, false, false, false, false, false, false, false, false, false, false, false, false, false, false, false, false, true, true, true, true, false, true, true] 3 (by kernel_rfl) (by kernel_rfl) (by kernel_rfl) rfl (fun _ _ d _ _ h => by cases d <;> exact h) ?_
              repeat (first | with_reducible refine wpMask_pass ?_ | (refine wpMask_want (by rfl) (fun K hK => ?_); go_big_quiet_op; refine hK _ ?_; clear hK K))
              with_reducible refine wpMask_nil ?_
              refine region_call 39 (by kernel_rfl) rfl (by rfl) (by go_simp; exact ⟨rfl, rfl⟩) ?_
              refine (complete_pair HQV3.out cb HCB.out).mono ?_
              rintro e _ ⟨rfl, rfl⟩
              refine ⟨_, rfl, Only.refl _ _, ?_⟩
              simp only [List.getElem_toArray, List.getElem_cons_zero, List.getElem_cons_succ, Act.put, List.setIfInBounds_toArray, List.set_cons_zero, List.set_cons_succ]
              clear t4
              refine region_seg [false, false, false, false, false, false, false, false, false, false, false, false, false, false, false, false, false, false, false, false, false, false, false, false, false, false, false, false, false, false, false, false, false, false, false, false, false, false, false, false, false, false, true, true] 0 (by kernel_rfl) (by kernel_rfl) (by kernel_rfl) rfl (fun _ _ d _ _ h => by cases d <;> exact h) ?_
              repeat (first | with_reducible refine wpMask_pass ?_ | (refine wpMask_want (by rfl) (fun K hK => ?_); go_big_quiet_op; refine hK _ ?_; clear hK K))
              with_reducible refine wpMask_nil ?_
              refine region_end (by kernel_rfl) ?_
              go_wp2_with fail
              go_roundw
              case rel => exact ⟨j + 1, s', o', e', b', by omega, by go_num, hot2, HKP, HQV3⟩
              case measure => simp [intOf]; omega
            · obtain rfl : j = i := by omega
              go_wp2_with (go_at_call 14; refine (alive_c (HT.out.below hPr.out.below (Nat.le_refl _))).mono ?_; rintro e w2 ⟨rfl, hO2⟩)
              go_ret
              exact ⟨rfl, (hPr.out.quiet (dc_thing _ _ _ _) (rd_thing _ _ _) hO2).below⟩
  · have hki : (100 : Int) < (k : Int) := by omega
    go_enter Tryd.func3, Tryd.ntmps3
    go_wp2_with (first | (go_at_call 8; refine (feed_nil _ _).mono ?_; rintro e w' ⟨rfl, rfl⟩) | (go_at_call 9; refine (payd_nil _).mono ?_; rintro e w' ⟨rfl, rfl⟩) | (go_at_call 10; refine (sized_nil _).mono ?_; rintro e w' ⟨rfl, rfl⟩) | (go_at_call 11; refine (whole_nil _).mono ?_; rintro e w' ⟨rfl, rfl⟩) | (go_at_call 12; refine (complete_nil _).mono ?_; rintro e w' ⟨rfl, rfl⟩) | (go_at_call 13; refine (offset_nil _).mono ?_; rintro e w' ⟨rfl, rfl⟩))
    go_loopw [4, 44] (fun s4 si wr => ∃ (i : Nat) (t : Int), i ≤ k ∧ si = .int .i64 i ∧ s4 = .int .i64 t ∧ w = wr) (fun _ si _ => k - (intOf si).toNat)
    case atStart => exact ⟨0, 0, Nat.zero_le _, rfl, rfl, rfl⟩
    case round =>
      obtain ⟨i, t, hik, rfl, rfl, rfl⟩ := hrel
      by_cases hlt : i < k
      · obtain ⟨p, g, o, hpi, rfl, hg, hcell, hat⟩ := HP.out.piece hlt
        obtain ⟨pA, pm, pc, pb⟩ := p
        simp only at hcell
        clear hpi hat
        go_wp2_with fail
        go_roundw
        case rel => exact ⟨i + 1, _, by omega, by go_num, rfl, trivial⟩
        case measure => simp [intOf]; omega
      · obtain rfl : i = k := by omega
        by_cases hbig : 800 < t
        · go_wp2_with (go_at_call 14; refine (alive_c HT.out).mono ?_; rintro e w2 ⟨rfl, hO2⟩)
          go_ret
          exact ⟨rfl, only_nil_trans hO2⟩
        · go_wp2_with (go_at_call 14; refine (alive_c HT.out).mono ?_; rintro e w2 ⟨rfl, hO2⟩)
          go_ret
          exact ⟨rfl, only_nil_trans hO2⟩
end Go.Proofs.YtfchkaoifbcgkaaDoor
