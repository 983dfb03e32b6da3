/-
  Contracts: the reference's check, Check.
-/
import Derived.Test.YtollcekcmnokaaaChk9C
import Derived.Test.YtollcekcmnokaaaRefEq
namespace Go.Proofs.Ytollcekcmnokaaa
open Go.RowKit Go.BigFrame
set_option linter.unusedVariables false
set_option linter.unusedSimpArgs false

theorem twice_yes {t : VT} {i j : Nat} (hj : j < i) (h : t.key j = t.key i) : t.twice i = true := by
  unfold VT.twice
  exact decide_eq_true ⟨j, hj, h⟩
theorem twice_no {t : VT} {i : Nat} (h : ∀ j, j < i → t.key j ≠ t.key i) : t.twice i = false := by
  unfold VT.twice
  apply decide_eq_false
  rintro ⟨j, hj, hk⟩
  exact h j hj hk

set_option maxRecDepth 100000 in
set_option maxHeartbeats 3200000 in
theorem refcheck_c : ∀ (f : Nat) (t : VT) (d : Nat) (w : World) (hf : SizeOf.sizeOf t < f) (hd : d ≤ 33) (hI : t.In w (· < w.heap.size)),
    Calls Try.prog 33 #[t.val, .int .i64 d] w (IntPost (VT.chk f t d) w) := by
  intro f
  induction f with
  | zero => intro t d w hf; omega
  | succ f ih =>
    intro t d w hf hd hI
    rw [VT.val_eq]
    obtain ⟨hx1, hx2⟩ := hI.lens
    obtain ⟨hk1, hn1, hs1, hc1, hc2, hd1, hd2, _⟩ := hI.bounds
    by_cases hdp : 32 < d
    · have HR := Lib.hid (VT.chk_deep (f := f) (t := t) (d := d) (by omega))
      clear ih
      go_enter Try.func33, Try.ntmps33
      go_wp2_with fail
      go_ret
      exact ⟨by rw [HR.out]; rfl, Bel.alloc _ _⟩
    have hdi : ¬ (32 : Int) < (d : Int) := by omega
    by_cases hkd : t.k < 0 ∨ 4 < t.k
    · have HR := Lib.hid (VT.chk_kind (f := f) (t := t) (d := d) hdi hkd)
      clear ih
      rcases hkd with hkd | hkd
      all_goals
        go_enter Try.func33, Try.ntmps33
        go_wp2_with fail
        go_ret
        exact ⟨by rw [HR.out]; rfl, Bel.alloc _ _⟩
    have hkl : 0 ≤ t.k ∧ t.k ≤ 4 := by omega
    have HI := Lib.hid hI
    have HFG : Hid (∀ W, Bel w W → Calls Try.prog 37 #[.agg #[.int .i64 t.k, .string t.s, .int .i64 t.n, .bool t.b, .slice t.A t.xs.length t.c, .slice t.F t.vs.length t.d]] W fun e w' => e = .returned (.bool (!t.foreign)) ∧ Bel W w') :=
      Lib.hid (fun W hb => refFields_c t W (HI.out.bel hb) hkl)
    have HIX : Hid (∀ i, i < t.xs.length → ∀ (W : World), Bel w W → Calls Try.prog 33 #[.agg #[.int .i64 (t.item i).k, .string (t.item i).s, .int .i64 (t.item i).n, .bool (t.item i).b, .slice (t.item i).A (t.item i).xs.length (t.item i).c, .slice (t.item i).F (t.item i).vs.length (t.item i).d], .int .i64 (d + 1)] W (IntPost (VT.chk f (t.item i) (d + 1)) W)) :=
      Lib.hid (fun i h1 W hb => ih _ (d + 1) W (by have := VT.item_size h1; omega) (by omega) ((HI.out.item h1).bel hb))
    have HIV : Hid (∀ i, i < t.vs.length → ∀ (W : World), Bel w W → Calls Try.prog 33 #[.agg #[.int .i64 (t.value i).k, .string (t.value i).s, .int .i64 (t.value i).n, .bool (t.value i).b, .slice (t.value i).A (t.value i).xs.length (t.value i).c, .slice (t.value i).F (t.value i).vs.length (t.value i).d], .int .i64 (d + 1)] W (IntPost (VT.chk f (t.value i) (d + 1)) W)) :=
      Lib.hid (fun i h1 W hb => ih _ (d + 1) W (by have := VT.value_size h1; omega) (by omega) ((HI.out.value h1).bel hb))
    have HBOX := Lib.hid (Blk.new w 27 t.cs)
    have HW0 : Hid (Bel w (w.alloc (.cells #[.int .i64 t.k, .string t.s, .int .i64 t.n, .bool t.b, .slice t.A t.xs.length t.c, .slice t.F t.vs.length t.d] 27))) := Lib.hid (Bel.alloc _ _)
    have HK2 : Hid (t.foreign = true → VT.chk (f + 1) t d = 2) := Lib.hid (VT.chk_foreign hdi (by omega))
    have HKI : Hid (t.foreign = false → first (fun i => VT.chk f (t.item i) (d + 1)) t.xs.length ≠ 0 → VT.chk (f + 1) t d = first (fun i => VT.chk f (t.item i) (d + 1)) t.xs.length) := Lib.hid (VT.chk_items hdi (by omega))
    have HKF : Hid (t.foreign = false → first (fun i => VT.chk f (t.item i) (d + 1)) t.xs.length = 0 → VT.chk (f + 1) t d = first (fieldN t (fun i => VT.chk f (t.value i) (d + 1))) t.vs.length) := Lib.hid (VT.chk_fields hdi (by omega))
    obtain ⟨hkl1, hkl2⟩ := hkl
    clear ih hf hI hdi hkd
    cases hfo : t.foreign with
    | true =>
      have HR := Lib.hid (HK2.out hfo)
      rw [hfo] at HFG
      clear hfo
      go_enter Try.func33, Try.ntmps33
      go_wp2_with (go_at_call 37; refine (HFG.out _ HW0.out).mono ?_; rintro e w1 ⟨rfl, hb⟩; have HB1 := Lib.hid (HW0.out.trans hb); clear hb)
      go_ret
      exact ⟨by rw [HR.out]; rfl, HB1.out⟩
    | false =>
      have HKI := Lib.hid (HKI.out hfo)
      have HKF := Lib.hid (HKF.out hfo)
      rw [hfo] at HFG
      clear hfo HK2
      go_enter Try.func33, Try.ntmps33
      go_wp2_with (go_at_call 37; refine (HFG.out _ HW0.out).mono ?_; rintro e w1 ⟨rfl, hb⟩; have HB1 := Lib.hid (HW0.out.trans hb); have HBX1 := Lib.hid (HBOX.out.below hb HBOX.out.lt); obtain ⟨c0, c1, c2, c3, c4, c5⟩ := cs_cells HBX1.out; clear hb)
      clear c0 c1 c2 c3 c4 c5
      go_loopw [5] (fun s5 wr => ∃ k : Nat, k ≤ t.xs.length ∧ s5 = .int .i64 k ∧ Hid (Bel w wr) ∧ Hid (Blk wr w.heap.size 27 t.cs) ∧ Hid (first (fun i => VT.chk f (t.item i) (d + 1)) k = 0)) (fun s5 _ => t.xs.length - (intOf s5).toNat)
      case atStart => exact ⟨0, Nat.zero_le _, rfl, HB1, HBX1, Lib.hid rfl⟩
      case round =>
        obtain ⟨k, hk, rfl, HB, HBX, HF⟩ := hrel
        obtain ⟨b0, b1, b2, b3, b4, b5⟩ := cs_cells HBX.out
        by_cases hlt : k < t.xs.length
        · obtain ⟨g, o, hA, hg, hcell⟩ := HI.out.items (by omega)
          obtain ⟨c0, c1, c2, c3, c4, c5⟩ := hcell k hlt
          have c0 := (HB.out.cell hg).trans c0
          have c1 := (HB.out.cell hg).trans c1
          have c2 := (HB.out.cell hg).trans c2
          have c3 := (HB.out.cell hg).trans c3
          have c4 := (HB.out.cell hg).trans c4
          have c5 := (HB.out.cell hg).trans c5
          have HC := Lib.hid (HIX.out k hlt)
          have H1 : Hid (VT.chk f (t.item k) (d + 1) ≠ 0 → VT.chk (f + 1) t d = VT.chk f (t.item k) (d + 1)) := Lib.hid (fun h => by
            have e := first_hit HF.out h hlt
            rw [HKI.out (by rw [e]; exact h), e])
          have H2 : Hid (VT.chk f (t.item k) (d + 1) = 0 → first (fun i => VT.chk f (t.item i) (d + 1)) (k + 1) = 0) := Lib.hid (fun h => first_step HF.out h)
          rw [hA] at b4
          clear hcell hA
          generalize VT.chk f (t.item k) (d + 1) = r at *
          generalize t.item k = x at *
          go_wp2_with (go_at_call 33; refine (HC.out _ HB.out).mono ?_; rintro e w2 ⟨rfl, hb1⟩; have HB2 := Lib.hid (HB.out.trans hb1); have HBX2 := Lib.hid (HBX.out.below hb1 HBX.out.lt); clear hb1)
          · have h9 : (r != 0) = true := by assumption
            have HR := Lib.hid (H1.out (by simpa using h9))
            go_ret
            exact ⟨by rw [HR.out]; rfl, HB2.out⟩
          · have h9 : (r != 0) = false := by assumption
            have HR := Lib.hid (H2.out (by simpa using h9))
            go_roundw
            case rel => exact ⟨k + 1, by omega, by go_num, HB2, HBX2, HR⟩
            case measure => simp [intOf]; omega
        · obtain rfl : t.xs.length = k := by omega
          have HKG := Lib.hid (HKF.out HF.out)
          clear HKI HKF HF HIX
          go_wp2_with fail
          clear b0 b1 b2 b3 b4 b5
          go_loopw [7] (fun s7 wr => ∃ k : Nat, k ≤ t.vs.length ∧ s7 = .int .i64 k ∧ Hid (Bel w wr) ∧ Hid (Blk wr w.heap.size 27 t.cs) ∧ Hid (first (fieldN t (fun i => VT.chk f (t.value i) (d + 1))) k = 0)) (fun s7 _ => t.vs.length - (intOf s7).toNat)
          case atStart => exact ⟨0, Nat.zero_le _, rfl, HB, HBX, Lib.hid rfl⟩
          case round =>
          clear HB HBX
          obtain ⟨k, hk, rfl, HB, HBX, HF⟩ := hrel
          obtain ⟨b0, b1, b2, b3, b4, b5⟩ := cs_cells HBX.out
          by_cases hlt : k < t.vs.length
          · obtain ⟨g, o, hFF, hg, hcell⟩ := HI.out.fields (by omega)
            obtain ⟨c6, cc⟩ := hcell k hlt
            have c6 := (HB.out.cell hg).trans c6
            have HCC := Lib.hid cc
            have hks := HI.out.keys hlt
            have HNM := Lib.hid (fun W => refName_c (t.key k) (by unfold maxLen; omega) W)
            have HC := Lib.hid (HIV.out k hlt)
            have HG := Lib.hid hg
            have HCEL : Hid (∀ j, j < t.vs.length → w.cell? ⟨g, o + j * 7, none⟩ = some (.string (t.key j))) := Lib.hid (fun j hj => (hcell j hj).1)
            have F1 : Hid (nameB (t.key k) = false → VT.chk (f + 1) t d = 11) := Lib.hid (fun h => by
              have e := fieldN_name (g := fun i => VT.chk f (t.value i) (d + 1)) h
              rw [HKG.out, first_hit HF.out (by rw [e]; decide) hlt, e])
            have F2 : Hid (nameB (t.key k) = true → t.twice k = true → VT.chk (f + 1) t d = 12) := Lib.hid (fun h h2 => by
              have e := fieldN_twice (g := fun i => VT.chk f (t.value i) (d + 1)) h h2
              rw [HKG.out, first_hit HF.out (by rw [e]; decide) hlt, e])
            have F3 : Hid (nameB (t.key k) = true → t.twice k = false → VT.chk f (t.value k) (d + 1) ≠ 0 → VT.chk (f + 1) t d = VT.chk f (t.value k) (d + 1)) := Lib.hid (fun h h2 h3 => by
              have e := fieldN_val (g := fun i => VT.chk f (t.value i) (d + 1)) h h2
              rw [HKG.out, first_hit HF.out (by rw [e]; exact h3) hlt, e])
            have F4 : Hid (nameB (t.key k) = true → t.twice k = false → VT.chk f (t.value k) (d + 1) = 0 → first (fieldN t (fun i => VT.chk f (t.value i) (d + 1))) (k + 1) = 0) := Lib.hid (fun h h2 h3 => first_step HF.out ((fieldN_val (g := fun i => VT.chk f (t.value i) (d + 1)) h h2).trans h3))
            rw [hFF] at b5
            have HFF := Lib.hid hFF
            clear hcell hFF hg cc
            cases hnb : nameB (t.key k) with
            | false =>
              have HR := Lib.hid (F1.out hnb)
              rw [hnb] at HNM
              clear hnb
              generalize t.key k = key at *
              go_wp2_with (go_at_call 23; refine (HNM.out _).mono ?_; rintro e w' ⟨rfl, rfl⟩)
              go_ret
              exact ⟨by rw [HR.out]; rfl, HB.out⟩
            | true =>
              have G2 := Lib.hid (F2.out hnb)
              have G3 := Lib.hid (F3.out hnb)
              have G4 := Lib.hid (F4.out hnb)
              rw [hnb] at HNM
              clear hnb F1 F2 F3 F4
              have HYES : Hid (∀ j, j < k → t.key j = t.key k → t.twice k = true) := Lib.hid (fun j hj h => twice_yes hj h)
              have HNO : Hid ((∀ j, j < k → t.key j ≠ t.key k) → t.twice k = false) := Lib.hid (fun h => twice_no h)
              generalize hgk : t.key k = key at *
              go_wp2_with (go_at_call 23; refine (HNM.out _).mono ?_; rintro e w' ⟨rfl, rfl⟩)
              clear b0 b1 b2 b3 b4 b5 c6
              have hwz : w.heap.size < wr.heap.size := HBX.out.lt
              go_loopw [8] (fun s8 wz => ∃ j : Nat, j ≤ k ∧ s8 = .int .i64 j ∧ Hid (Bel w wz) ∧ Hid (Blk wz w.heap.size 27 t.cs) ∧ Hid (∀ i, i < j → t.key i ≠ key)) (fun s8 _ => k - (intOf s8).toNat)
              case atStart => exact ⟨0, Nat.zero_le _, rfl, HB, HBX, Lib.hid (fun i hi => absurd hi (Nat.not_lt_zero _))⟩
              case round =>
              clear HB HBX hwz
              obtain ⟨j, hj, rfl, HBZ, HBXZ, HALL⟩ := hrel
              obtain ⟨b0, b1, b2, b3, b4, b5⟩ := cs_cells HBXZ.out
              rw [HFF.out] at b5
              by_cases hjk : j < k
              · have e0 := HCEL.out j (by omega)
                have e1 := HCEL.out k hlt
                rw [hgk] at e1
                have HY := Lib.hid (HYES.out j hjk)
                have HSTEP : Hid (t.key j ≠ key → ∀ i, i < j + 1 → t.key i ≠ key) := Lib.hid (fun h i hi => by
                  by_cases e : i = j
                  · subst e; exact h
                  · exact HALL.out i (by omega))
                have HGK := Lib.hid hgk
                clear hgk
                generalize t.key j = kj at *
                go_wp2_with fail
                have f0 : ∀ X : Later [] wr.drew, X.w.cell? ⟨g, o + j * 7, none⟩ = some (.string kj) := fun X => (only_cell X.h (Nat.lt_of_lt_of_le HG.out HBZ.out.size) (by simp)).trans ((HBZ.out.cell HG.out).trans e0)
                have f1 : ∀ X : Later [] wr.drew, X.w.cell? ⟨g, o + k * 7, none⟩ = some (.string key) := fun X => (only_cell X.h (Nat.lt_of_lt_of_le HG.out HBZ.out.size) (by simp)).trans ((HBZ.out.cell HG.out).trans e1)
                have f2 : ∀ X : Later [] wr.drew, X.w.cell? ⟨w.heap.size, 5, none⟩ = some (.slice (some ⟨g, o, none⟩) t.vs.length t.d) := fun X => (only_cell X.h HBXZ.out.drew.lt (by simp)).trans b5
                clear e0 e1 b0 b1 b2 b3 b4 b5
                refine region_begin (T := []) (by kernel_rfl) ?_
                by_cases hkk : kj = key
                · have hs := str_eq hkk
                  have HR := Lib.hid (G2.out (HY.out hkk))
                  clear hkk
                  refine region_seg [true, true, true, true, true, true, true, true, true, true, true, true, true] 0 (by kernel_rfl) (by kernel_rfl) (by kernel_rfl) rfl (fun _ _ d _ _ h => by cases d <;> exact h) ?_
                  repeat (first | with_reducible refine wpMask_pass ?_ | (refine wpMask_want (by rfl) (fun K hK => ?_); go_big_quiet_op; refine hK _ ?_; clear hK K))
                  with_reducible refine wpMask_nil ?_
                  refine region_end (by kernel_rfl) ?_
                  go_wp2_with fail
                  go_ret
                  exact ⟨by rw [HR.out]; rfl, HBZ.out.trans (Bel.drew wr)⟩
                · have hs := str_ne hkk
                  have HS := Lib.hid (HSTEP.out hkk)
                  clear hkk
                  refine region_seg [true, true, true, true, true, true, true, true, true, true, true, true, true] 0 (by kernel_rfl) (by kernel_rfl) (by kernel_rfl) rfl (fun _ _ d _ _ h => by cases d <;> exact h) ?_
                  repeat (first | with_reducible refine wpMask_pass ?_ | (refine wpMask_want (by rfl) (fun K hK => ?_); go_big_quiet_op; refine hK _ ?_; clear hK K))
                  with_reducible refine wpMask_nil ?_
                  refine region_end (by kernel_rfl) ?_
                  go_wp2_with fail
                  go_roundw
                  case rel => exact ⟨j + 1, by omega, by go_num, Lib.hid (HBZ.out.trans (Bel.drew wr)), Lib.hid HBXZ.out.drew, HS⟩
                  case measure => simp [intOf]; omega
              · obtain rfl : j = k := by omega
                have HTW := HNO.out HALL.out
                have HF3 := Lib.hid (G3.out HTW)
                have HF4 := Lib.hid (G4.out HTW)
                obtain ⟨d0, d1, d2, d3, d4, d5⟩ := VT.Cells.bel HCC.out HG.out HBZ.out
                clear HTW G2 G3 G4
                generalize VT.chk f (t.value j) (d + 1) = r at *
                generalize t.value j = x at *
                go_wp2_with (go_at_call 33; refine (HC.out _ HBZ.out).mono ?_; rintro e w2 ⟨rfl, hb1⟩; have HB2 := Lib.hid (HBZ.out.trans hb1); have HBX2 := Lib.hid (HBXZ.out.below hb1 HBXZ.out.lt); clear hb1)
                · have h9 : (r != 0) = true := by assumption
                  have HR := Lib.hid (HF3.out (by simpa using h9))
                  go_ret
                  exact ⟨by rw [HR.out]; rfl, HB2.out⟩
                · have h9 : (r != 0) = false := by assumption
                  have HR := Lib.hid (HF4.out (by simpa using h9))
                  go_roundw
                  case rel => exact ⟨j + 1, by omega, by go_num, HB2, HBX2, HR⟩
                  case measure => simp [intOf]; omega
          · obtain rfl : t.vs.length = k := by omega
            have HR := Lib.hid (HKG.out.trans HF.out)
            go_wp2_with fail
            go_ret
            exact ⟨by rw [HR.out]; rfl, HB.out⟩
/-- Check. -/
theorem refCheck_c (t : VT) (w : World) (hI : t.In w (· < w.heap.size)) :
    Calls Try.prog 22 #[t.val] w (IntPost (VT.chk (SizeOf.sizeOf t + 1) t 1) w) := by
  rw [VT.val_eq]
  have HC := Lib.hid (show Calls Try.prog 33 #[.agg #[.int .i64 t.k, .string t.s, .int .i64 t.n, .bool t.b, .slice t.A t.xs.length t.c, .slice t.F t.vs.length t.d], .int .i64 1] _ _ from
    refcheck_c (SizeOf.sizeOf t + 1) t 1 (w.alloc (.cells #[.int .i64 t.k, .string t.s, .int .i64 t.n, .bool t.b, .slice t.A t.xs.length t.c, .slice t.F t.vs.length t.d] 27)) (by omega) (by omega) (hI.bel (Bel.alloc _ _)))
  go_enter Try.func22, Try.ntmps22
  go_wp2_with (go_at_call 33; refine HC.out.mono ?_; rintro e w1 ⟨rfl, hb⟩; have HB := Lib.hid ((Bel.alloc _ _).trans hb); clear hb)
  go_ret
  exact ⟨rfl, HB.out⟩
end Go.Proofs.Ytollcekcmnokaaa
