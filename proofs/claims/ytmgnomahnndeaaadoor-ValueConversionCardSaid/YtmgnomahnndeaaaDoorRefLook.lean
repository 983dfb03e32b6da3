/-
  Contract: the reference's Lookup.
-/
import Derived.Test.YtmgnomahnndeaaaDoorLook2
import Derived.Test.YtmgnomahnndeaaaDoorRegion2
namespace Go.Proofs.YtmgnomahnndeaaaDoor
open Go.RowKit Go.BigFrame
set_option linter.unusedVariables false
set_option linter.unusedSimpArgs false

theorem fldPost_cases {t : VT} {nm : ByteArray} {w w' : World} {e : Ending} (h : FldPost t nm w e w') :
    ∃ (x : VT) (c : Int), e = .returned (.tuple #[.agg #[.int .i64 x.k, .string x.s, .int .i64 x.n, .bool x.b, .slice x.A x.xs.length x.c, .slice x.F x.vs.length x.d], .int .i64 c]) ∧ Bel w w' ∧ ((t.fld nm = .ok x ∧ c = 0) ∨ (t.fld nm = .error c ∧ c ≠ 0)) := by
  obtain ⟨hb, h⟩ := h
  cases hf : t.fld nm with
  | ok u => rw [hf] at h; exact ⟨u, 0, h, hb, .inl ⟨rfl, rfl⟩⟩
  | error c =>
    rw [hf] at h
    refine ⟨VT.zero, c, h, hb, .inr ⟨rfl, ?_⟩⟩
    unfold VT.fld at hf
    split at hf
    · injection hf with hf; omega
    · split at hf
      · cases hf
      · injection hf with hf; omega

set_option maxRecDepth 100000 in
set_option maxHeartbeats 1600000 in
theorem refLookup_c (t : VT) (s : ByteArray) (w : World) (hs : s.size ≤ 2000000) (hI : t.In w (· < w.heap.size)) :
    Calls Tryd.prog 23 #[t.val, .string s] w (LookPost t s w) := by
  rw [VT.val_eq]
  have HC := Lib.hid (fun (W : World) => refSplit_c s W hs)
  have HI := Lib.hid hI
  have HTB := Lib.hid (two_blocks w t)
  have HW0 : Hid (Bel w _) := Lib.hid ((Bel.alloc w (.cells #[.int .i64 t.k, .string t.s, .int .i64 t.n, .bool t.b, .slice t.A t.xs.length t.c, .slice t.F t.vs.length t.d] 34)).trans (Bel.alloc _ (.cells #[.int .i64 0, .string ByteArray.empty, .int .i64 0, .bool false, .slice none 0 0, .slice none 0 0] 34)))
  clear hI
  cases hp : pathOf s with
  | none =>
    have HP := Lib.hid hp
    clear hp hs
    go_enter Tryd.func23, Tryd.ntmps23
    go_wp2_with (go_at_call 11; refine (HC.out _).mono ?_; rintro e w1 hS; obtain ⟨rfl, hb⟩ := split_none HP.out hS; have HB := Lib.hid hb; have hB1 := HTB.out.2.below hb (by simp); obtain ⟨c0, c1, c2, c3, c4, c5⟩ := cs_cells hB1; have f0 := hB1.free 0; have f1 := hB1.free 1; have f2 := hB1.free 2; have f3 := hB1.free 3; have f4 := hB1.free 4; have f5 := hB1.free 5; have HB1 := Lib.hid hB1; clear hB1 hb hS)
    refine bodyPost_ret (done2 (u := VT.zero) rfl rfl rfl (set6 HB1.out _ _ _ _ _ _)) rfl ?_
    exact lookPost_path (bel_on1 (HW0.out.trans HB.out) (only6 _ _ _ _ _ _ _ _) (by omega)) HP.out rfl
  | some l =>
    have HP := Lib.hid hp
    clear hp hs
    go_enter Tryd.func23, Tryd.ntmps23
    go_wp2_with (go_at_call 11; refine (HC.out _).mono ?_; rintro e w1 hS; obtain ⟨A, c, rfl, hstr, hfar, hl8, _, hb⟩ := split_some HP.out hS; have HB := Lib.hid hb; have HR0 := Lib.hid (HTB.out.1.below hb (by simp; omega)); have HR1 := Lib.hid (HTB.out.2.below hb (by simp)); have HSTR := Lib.hid hstr; have HFAR := Lib.hid hfar; clear hb hS hstr hfar)
    have HSZ : Hid (w.heap.size + 2 ≤ w1.heap.size) := Lib.hid (by have := HB.out.size; simp at this; omega)
    have HBW : Hid (Bel w w1) := Lib.hid (HW0.out.trans HB.out)
    have HFF : Hid (∀ g o, A = some ⟨g, o, none⟩ → w.heap.size + 2 ≤ g) := Lib.hid (fun g o e => by have := HFAR.out _ e; simpa using this)
    clear HB HFAR HTB HW0
    go_loopw [8] (fun v wr => ∃ (k : Nat) (u : VT), k ≤ l.length ∧ v = .int .i64 k ∧ Hid (Only [w.heap.size] w1 wr) ∧ Hid (Blk wr w.heap.size 34 u.cs) ∧ Hid (u.In w (· < w.heap.size)) ∧ Hid (t.look l = u.look (l.drop k))) (fun v _ => l.length - (intOf v).toNat)
    case atStart => exact ⟨0, t, Nat.zero_le _, rfl, Lib.hid (Only.refl _ _), HR0, HI, Lib.hid (by simp)⟩
    case round =>
      obtain ⟨k, u, hk, rfl, HO, HU, HUI, HL⟩ := hrel
      have HBWR : Hid (Bel w wr) := Lib.hid (bel_on1 HBW.out HO.out (Nat.le_refl _))
      have HRR1 : Hid (Blk wr (w.heap.size + 1) 34 VT.zero.cs) := Lib.hid (HR1.out.only HO.out (by simp))
      have hsz : w.heap.size + 2 ≤ wr.heap.size := by have := HSZ.out; have := HO.out.size; omega
      have hlt0 : w.heap.size < wr.heap.size := by omega
      have hlt1 : w.heap.size + 1 < wr.heap.size := by omega
      obtain ⟨c0, c1, c2, c3, c4, c5⟩ := cs_cells HU.out
      have f0 := HU.out.free 0; have f1 := HU.out.free 1; have f2 := HU.out.free 2; have f3 := HU.out.free 3; have f4 := HU.out.free 4; have f5 := HU.out.free 5
      obtain ⟨d0, d1, d2, d3, d4, d5⟩ := cs_cells HRR1.out
      have e0 := HRR1.out.free 0; have e1 := HRR1.out.free 1; have e2 := HRR1.out.free 2; have e3 := HRR1.out.free 3; have e4 := HRR1.out.free 4; have e5 := HRR1.out.free 5
      by_cases hlt : k < l.length
      · rcases HSTR.out with hl0 | ⟨g, o, rfl, hg, hi⟩
        · rw [hl0] at hlt; simp at hlt
        have hgg := HFF.out g o rfl
        have cn := (only_cell HO.out (o := o + k) hg (by simp; omega)).trans (hi k hlt)
        have hdrop : l.drop k = l.getD k ByteArray.empty :: l.drop (k + 1) := by
          rw [List.drop_eq_getElem_cons hlt, List.getD_eq_getElem?_getD, List.getElem?_eq_getElem hlt]
          rfl
        have HLN : Hid (t.look l = u.look (l.getD k ByteArray.empty :: l.drop (k + 1))) := Lib.hid (by rw [HL.out, hdrop])
        clear hdrop hi HL
        generalize l.getD k ByteArray.empty = nm at cn HLN
        have HG := Lib.hid hg
        clear hg
        have HV : Hid (Blk wr.drew w.heap.size 34 u.cs ∧ Blk wr.drew (w.heap.size + 1) 34 VT.zero.cs ∧ Bel w wr.drew ∧ Only [w.heap.size] w1 wr.drew ∧ w.heap.size + 2 ≤ wr.drew.heap.size ∧ wr.drew.cell? ⟨g, o + k, none⟩ = some (.string nm)) :=
          Lib.hid ⟨HU.out.drew, HRR1.out.drew, HBWR.out.drew, HO.out.drew, hsz, cn⟩
        have hgr : w.heap.size ≠ g := by omega
        have HGR := Lib.hid (show g ∉ [w.heap.size] by simp; omega)
        have HGV : Hid (g < wr.drew.heap.size) := Lib.hid (by have := HO.out.size; have := HG.out; show g < wr.heap.size; omega)
        clear c0 c1 c2 c3 c4 c5 f0 f1 f2 f3 f4 f5 d0 d1 d2 d3 d4 d5 e0 e1 e2 e3 e4 e5 cn
        go_wp2_with fail
        refine region_begin (T := [w.heap.size]) (by kernel_rfl) ?_
        generalize wr.drew = V0 at HV HGV ⊢
        have cn : ∀ x : Later [w.heap.size] V0, x.w.cell? ⟨g, o + k, none⟩ = some (.string nm) := fun x => (only_cell x.h HGV.out HGR.out).trans HV.out.2.2.2.2.2
        refine region_seg [false, true, true, true, true] 7 (by kernel_rfl) (by kernel_rfl) (by kernel_rfl) rfl (fun _ _ d _ _ h => by cases d <;> exact h) ?_
        repeat (first | with_reducible refine wpMask_pass ?_ | (refine wpMask_want (by rfl) (fun K hK => ?_); go_big_quiet_op; refine hK _ ?_; clear hK K))
        with_reducible refine wpMask_nil ?_
        clear cn
        obtain ⟨c0, c1, c2, c3, c4, c5⟩ := cs_cells HV.out.1
        refine region_make 0 (v := u.val) (w1 := V0) (by kernel_rfl) rfl (by rfl) (by go_simp; rfl) (Only.refl _ _) ?_
        simp only [List.getElem_toArray, List.getElem_cons_zero, List.getElem_cons_succ, Act.put, List.setIfInBounds_toArray, List.set_cons_zero, List.set_cons_succ]
        clear c0 c1 c2 c3 c4 c5
        refine region_call 5 (by kernel_rfl) rfl (by rfl) (by go_simp; exact ⟨rfl, rfl⟩) ?_
        refine (field_c u nm V0 (HUI.out.bel HV.out.2.2.1)).mono ?_
        rintro e w3 hP
        obtain ⟨x, ec, rfl, hb3, hcase⟩ := fldPost_cases hP
        refine ⟨_, rfl, (bel_only hb3).more (by simp), ?_⟩
        simp only [List.getElem_toArray, List.getElem_cons_zero, List.getElem_cons_succ, Act.put, List.setIfInBounds_toArray, List.set_cons_zero, List.set_cons_succ]
        have HB3 := Lib.hid hb3
        have HCASE := Lib.hid hcase
        have HU3 := Lib.hid (HV.out.1.below hb3 HV.out.1.lt)
        have HR3 := Lib.hid (HV.out.2.1.below hb3 HV.out.2.1.lt)
        clear hP hb3 hcase
        refine region_seg [false, false, false, false, false, false, true, true, true] 2 (by kernel_rfl) (by kernel_rfl) (by kernel_rfl) rfl (fun _ _ d _ _ h => by cases d <;> exact h) ?_
        repeat (first | with_reducible refine wpMask_pass ?_ | (refine wpMask_want (by rfl) (fun K hK => ?_); go_big_quiet_op; refine hK _ ?_; clear hK K))
        with_reducible refine wpMask_nil ?_
        obtain ⟨c0, c1, c2, c3, c4, c5⟩ := cs_cells HU3.out
        have f0 := HU3.out.free 0; have f1 := HU3.out.free 1; have f2 := HU3.out.free 2; have f3 := HU3.out.free 3; have f4 := HU3.out.free 4; have f5 := HU3.out.free 5
        refine region_store 9 (w1 := (((((w3.setCell ⟨w.heap.size, 0, none⟩ (.int .i64 x.k)).setCell ⟨w.heap.size, 1, none⟩ (.string x.s)).setCell ⟨w.heap.size, 2, none⟩ (.int .i64 x.n)).setCell ⟨w.heap.size, 3, none⟩ (.bool x.b)).setCell ⟨w.heap.size, 4, none⟩ (.slice x.A x.xs.length x.c)).setCell ⟨w.heap.size, 5, none⟩ (.slice x.F x.vs.length x.d)) (by kernel_rfl) rfl (by rfl) (by go_simp) (only6 _ _ _ _ _ _ _ _) ?_
        simp only [List.getElem_toArray, List.getElem_cons_zero, List.getElem_cons_succ, Act.put, List.setIfInBounds_toArray, List.set_cons_zero, List.set_cons_succ]
        clear c0 c1 c2 c3 c4 c5 f0 f1 f2 f3 f4 f5
        have HU4 := Lib.hid (set6 HU3.out (.int .i64 x.k) (.string x.s) (.int .i64 x.n) (.bool x.b) (.slice x.A x.xs.length x.c) (.slice x.F x.vs.length x.d))
        have HO4 := Lib.hid (only6 w3 w.heap.size (.int .i64 x.k) (.string x.s) (.int .i64 x.n) (.bool x.b) (.slice x.A x.xs.length x.c) (.slice x.F x.vs.length x.d))
        generalize (((((w3.setCell ⟨w.heap.size, 0, none⟩ (.int .i64 x.k)).setCell ⟨w.heap.size, 1, none⟩ (.string x.s)).setCell ⟨w.heap.size, 2, none⟩ (.int .i64 x.n)).setCell ⟨w.heap.size, 3, none⟩ (.bool x.b)).setCell ⟨w.heap.size, 4, none⟩ (.slice x.A x.xs.length x.c)).setCell ⟨w.heap.size, 5, none⟩ (.slice x.F x.vs.length x.d) = V4 at HU4 HO4 ⊢
        refine region_seg [false, false, false, false, false, false, false, false, false, false, true] 0 (by kernel_rfl) (by kernel_rfl) (by kernel_rfl) rfl (fun _ _ d _ _ h => by cases d <;> exact h) ?_
        repeat (first | with_reducible refine wpMask_pass ?_ | (refine wpMask_want (by rfl) (fun K hK => ?_); go_big_quiet_op; refine hK _ ?_; clear hK K))
        with_reducible refine wpMask_nil ?_
        refine region_end (by kernel_rfl) ?_
        have HOW : Hid (Only [w.heap.size] w1 V4) := Lib.hid (((HV.out.2.2.2.1).trans ((bel_only HB3.out).more (by simp))).trans HO4.out)
        have HR4 := Lib.hid (HR3.out.only HO4.out (by simp))
        have HBW4 := Lib.hid (bel_on1 HBW.out HOW.out (Nat.le_refl _))
        rcases HCASE.out with ⟨hok, rfl⟩ | ⟨herr, hne⟩
        · have HSTEP : Hid (t.look l = x.look (l.drop (k + 1))) := Lib.hid (by rw [HLN.out, VT.look_cons, hok])
          have HXI := Lib.hid (HUI.out.fld hok)
          clear hok HCASE
          go_wp2_with fail
          go_roundw
          case rel => exact ⟨k + 1, x, by omega, by go_num, HOW, HU4, HXI, HSTEP⟩
          case measure => simp [intOf]; omega
        · have HERR : Hid (t.look l = .error ec) := Lib.hid (by rw [HLN.out, VT.look_cons, herr])
          obtain ⟨d0, d1, d2, d3, d4, d5⟩ := cs_cells HR4.out
          have e0 := HR4.out.free 0; have e1 := HR4.out.free 1; have e2 := HR4.out.free 2; have e3 := HR4.out.free 3; have e4 := HR4.out.free 4; have e5 := HR4.out.free 5
          have hne1 : (ec != 0) = true := by simpa using hne
          have hne2 : (ec == 0) = false := by simpa using hne
          clear herr HCASE hne
          go_wp2_with fail
          refine bodyPost_ret (done2 (u := VT.zero) rfl rfl rfl (set6 HR4.out _ _ _ _ _ _)) rfl ?_
          exact lookPost_err (bel_on1 HBW4.out (only6 _ _ _ _ _ _ _ _) (by omega)) HP.out HERR.out rfl
      · obtain rfl : l.length = k := by omega
        have HOK : Hid (t.look l = .ok u) := Lib.hid (by rw [HL.out, List.drop_length]; rfl)
        go_wp2_with fail
        refine bodyPost_ret (done2 (u := u) rfl rfl rfl (set6 HRR1.out _ _ _ _ _ _)) rfl ?_
        exact lookPost_ok (bel_on1 HBWR.out (only6 _ _ _ _ _ _ _ _) (by omega)) HP.out HOK.out rfl
end Go.Proofs.YtmgnomahnndeaaaDoor
