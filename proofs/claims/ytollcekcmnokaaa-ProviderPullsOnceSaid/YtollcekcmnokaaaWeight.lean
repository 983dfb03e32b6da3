/-
  Contracts: the laws' own weight and TooLarge.
-/
import Derived.Test.YtollcekcmnokaaaBas10
namespace Go.Proofs.Ytollcekcmnokaaa
open Go.RowKit Go.BigFrame
set_option linter.unusedVariables false
set_option linter.unusedSimpArgs false

/-- What weight gives. -/
def WtPost (w : World) (e : Ending) (w' : World) : Prop := ∃ n : Nat, n ≤ 100001 ∧ e = .returned (.int .i64 n) ∧ Bel w w'
/-- A field's cells, as they lie in a block of their own. -/
def fcs (key : ByteArray) (x : VT) : List Value := [.string key, .int .i64 x.k, .string x.s, .int .i64 x.n, .bool x.b, .slice x.A x.xs.length x.c, .slice x.F x.vs.length x.d]

set_option maxRecDepth 100000 in
set_option maxHeartbeats 3200000 in
theorem weight_c (t : VT) : ∀ (w : World) (deep : Nat) (hd : deep ≤ 201) (hI : t.In w (· < w.heap.size)),
    Calls Try.prog 31 #[t.val, .int .i64 deep] w (WtPost w) := by
  refine VT.ind (M := fun t => ∀ (w : World) (deep : Nat) (hd : deep ≤ 201) (hI : t.In w (· < w.heap.size)), Calls Try.prog 31 #[t.val, .int .i64 deep] w (WtPost w)) (fun t ihx ihv => ?_) t
  intro w deep hd hI
  have HIX : Hid (∀ i, i < t.xs.length → ∀ (W : World) (dp : Nat), dp ≤ 201 → (t.item i).In W (· < W.heap.size) → Calls Try.prog 31 #[.agg #[.int .i64 (t.item i).k, .string (t.item i).s, .int .i64 (t.item i).n, .bool (t.item i).b, .slice (t.item i).A (t.item i).xs.length (t.item i).c, .slice (t.item i).F (t.item i).vs.length (t.item i).d], .int .i64 dp] W (WtPost W)) :=
    Lib.hid (fun i hi W dp h1 h2 => ihx _ (VT.item_mem hi) W dp h1 h2)
  have HIV : Hid (∀ i, i < t.vs.length → ∀ (W : World) (dp : Nat), dp ≤ 201 → (t.value i).In W (· < W.heap.size) → Calls Try.prog 31 #[.agg #[.int .i64 (t.value i).k, .string (t.value i).s, .int .i64 (t.value i).n, .bool (t.value i).b, .slice (t.value i).A (t.value i).xs.length (t.value i).c, .slice (t.value i).F (t.value i).vs.length (t.value i).d], .int .i64 dp] W (WtPost W)) :=
    Lib.hid (fun i hi W dp h1 h2 => ihv _ (VT.value_mem hi) W dp h1 h2)
  clear ihx ihv
  rw [VT.val_eq]
  obtain ⟨hx1, hx2⟩ := hI.lens
  obtain ⟨_, _, hs1, hc1, hc2, hd1, hd2, hkl⟩ := hI.bounds
  have HI := Lib.hid hI
  have HKL := Lib.hid hkl
  clear hI hkl
  have HBOX := Lib.hid (Blk.new w 27 t.cs)
  have HW0 : Hid (Bel w (w.alloc (.cells #[.int .i64 t.k, .string t.s, .int .i64 t.n, .bool t.b, .slice t.A t.xs.length t.c, .slice t.F t.vs.length t.d] 27))) := Lib.hid (Bel.alloc _ _)
  by_cases hdp : 200 < deep
  · go_enter Try.func31, Try.ntmps31
    go_wp2_with fail
    go_ret
    exact ⟨100001, by omega, rfl, HW0.out⟩
  by_cases hln : 1000 < t.xs.length + t.vs.length
  · go_enter Try.func31, Try.ntmps31
    go_wp2_with fail
    go_ret
    exact ⟨100001, by omega, rfl, HW0.out⟩
  by_cases hls : 10000 < t.s.size
  · go_enter Try.func31, Try.ntmps31
    go_wp2_with fail
    go_ret
    exact ⟨100001, by omega, rfl, HW0.out⟩
  go_enter Try.func31, Try.ntmps31
  go_wp2_with fail
  go_loopw [5, 35] (fun s5 s35 wr => ∃ (k n : Nat), k ≤ t.xs.length ∧ s35 = .int .i64 k ∧ s5 = .int .i64 n ∧ n ≤ 100000 ∧ Hid (Bel w wr) ∧ Hid (Blk wr w.heap.size 27 t.cs)) (fun _ s35 _ => t.xs.length - (intOf s35).toNat)
  case atStart => exact ⟨0, 1 + t.s.size, Nat.zero_le _, rfl, by simp, by omega, HW0, HBOX⟩
  case round =>
    obtain ⟨k, n, hk, rfl, rfl, hn, HB, HBX⟩ := hrel
    by_cases hlt : k < t.xs.length
    · obtain ⟨g, o, hA, hg, hcell⟩ := HI.out.items (by omega)
      obtain ⟨c0, c1, c2, c3, c4, c5⟩ := hcell k hlt
      have c0 := (HB.out.cell hg).trans c0
      have c1 := (HB.out.cell hg).trans c1
      have c2 := (HB.out.cell hg).trans c2
      have c3 := (HB.out.cell hg).trans c3
      have c4 := (HB.out.cell hg).trans c4
      have c5 := (HB.out.cell hg).trans c5
      have HII := Lib.hid ((HI.out.item hlt).bel (HB.out.trans (Bel.alloc wr (.cells #[.int .i64 (t.item k).k, .string (t.item k).s, .int .i64 (t.item k).n, .bool (t.item k).b, .slice (t.item k).A (t.item k).xs.length (t.item k).c, .slice (t.item k).F (t.item k).vs.length (t.item k).d] 27))))
      have HC := Lib.hid (HIX.out k hlt _ (deep + 1) (by omega) HII.out)
      rw [hA]
      clear hcell
      generalize t.item k = x at *
      go_wp2_with (go_at_call 31; refine HC.out.mono ?_; rintro e w1 ⟨m, hm, rfl, hb1⟩; have HB1 := Lib.hid (HB.out.trans ((Bel.alloc _ _).trans hb1)); have HBX1 := Lib.hid ((HBX.out.alloc (.cells #[.int .i64 x.k, .string x.s, .int .i64 x.n, .bool x.b, .slice x.A x.xs.length x.c, .slice x.F x.vs.length x.d] 27)).below hb1 (by simp; have := HBX.out.lt; omega)); clear hb1)
      · go_ret
        exact ⟨100001, by omega, rfl, HB1.out⟩
      · go_roundw
        case rel => exact ⟨k + 1, n + m, by omega, by go_num, by go_num, by omega, HB1, HBX1⟩
        case measure => simp [intOf]; omega
    · obtain rfl : t.xs.length = k := by omega
      obtain ⟨b0, b1, b2, b3, b4, b5⟩ := cs_cells HBX.out
      go_wp2_with fail
      clear b0 b1 b2 b3 b4 b5
      go_loopw [5, 51] (fun s5 s51 wr => ∃ (k n : Nat), k ≤ t.vs.length ∧ s51 = .int .i64 k ∧ s5 = .int .i64 n ∧ n ≤ 100000 ∧ Hid (Bel w wr)) (fun _ s51 _ => t.vs.length - (intOf s51).toNat)
      case atStart => exact ⟨0, n, Nat.zero_le _, rfl, rfl, hn, HB⟩
      case round =>
        clear HB HBX
        obtain ⟨k, n, hk, rfl, rfl, hn, HB⟩ := hrel
        by_cases hlt : k < t.vs.length
        · obtain ⟨g, o, hF, hg, hcell⟩ := HI.out.fields (by omega)
          obtain ⟨c6, c0, c1, c2, c3, c4, c5⟩ := hcell k hlt
          have c6 := (HB.out.cell hg).trans c6
          have c0 := (HB.out.cell hg).trans c0
          have c1 := (HB.out.cell hg).trans c1
          have c2 := (HB.out.cell hg).trans c2
          have c3 := (HB.out.cell hg).trans c3
          have c4 := (HB.out.cell hg).trans c4
          have c5 := (HB.out.cell hg).trans c5
          have hkey := HI.out.keys hlt
          have HIVW : Hid (∀ W, Bel w W → Calls Try.prog 31 #[.agg #[.int .i64 (t.value k).k, .string (t.value k).s, .int .i64 (t.value k).n, .bool (t.value k).b, .slice (t.value k).A (t.value k).xs.length (t.value k).c, .slice (t.value k).F (t.value k).vs.length (t.value k).d], .int .i64 (deep + 1)] W (WtPost W)) :=
            Lib.hid fun W hb => HIV.out k hlt W (deep + 1) (by omega) ((HI.out.value hlt).bel hb)
          rw [hF]
          clear hcell
          generalize t.value k = x at *
          generalize t.key k = key at *
          go_wp2_with fail
          have HBL := Lib.hid (Blk.new wr 49 (fcs key x))
          have hb0 : Bel wr (wr.alloc (.cells #[.string key, .int .i64 x.k, .string x.s, .int .i64 x.n, .bool x.b, .slice x.A x.xs.length x.c, .slice x.F x.vs.length x.d] 49)) := Bel.alloc _ _
          have HB0 := Lib.hid (HB.out.trans hb0)
          clear c0 c1 c2 c3 c4 c5 c6 hb0
          unfold fcs at HBL
          generalize wr.alloc (.cells #[.string key, .int .i64 x.k, .string x.s, .int .i64 x.n, .bool x.b, .slice x.A x.xs.length x.c, .slice x.F x.vs.length x.d] 49) = V at HB0 HBL ⊢
          have HK : Hid (∀ X : Later [] V.drew, Blk X.w wr.heap.size 49 [.string key, .int .i64 x.k, .string x.s, .int .i64 x.n, .bool x.b, .slice x.A x.xs.length x.c, .slice x.F x.vs.length x.d]) := Lib.hid fun X => (HBL.out.drew).only X.h (by simp)
          refine region_begin (T := []) (by kernel_rfl) ?_
          have e0 : ∀ X : Later [] V.drew, X.w.cell? ⟨wr.heap.size, 0, none⟩ = some (.string key) := fun X => (HK.out X).cell 0
          have e1 : ∀ X : Later [] V.drew, X.w.cell? ⟨wr.heap.size, 1, none⟩ = some (.int .i64 x.k) := fun X => (HK.out X).cell 1
          have e2 : ∀ X : Later [] V.drew, X.w.cell? ⟨wr.heap.size, 2, none⟩ = some (.string x.s) := fun X => (HK.out X).cell 2
          have e3 : ∀ X : Later [] V.drew, X.w.cell? ⟨wr.heap.size, 3, none⟩ = some (.int .i64 x.n) := fun X => (HK.out X).cell 3
          have e4 : ∀ X : Later [] V.drew, X.w.cell? ⟨wr.heap.size, 4, none⟩ = some (.bool x.b) := fun X => (HK.out X).cell 4
          have e5 : ∀ X : Later [] V.drew, X.w.cell? ⟨wr.heap.size, 5, none⟩ = some (.slice x.A x.xs.length x.c) := fun X => (HK.out X).cell 5
          have e6 : ∀ X : Later [] V.drew, X.w.cell? ⟨wr.heap.size, 6, none⟩ = some (.slice x.F x.vs.length x.d) := fun X => (HK.out X).cell 6
          refine region_seg [true, true, true, true, true, false, true, true, true] 4 (by kernel_rfl) (by kernel_rfl) (by kernel_rfl) rfl (fun _ _ d _ _ h => by cases d <;> exact h) ?_
          repeat (first | with_reducible refine wpMask_pass ?_ | (refine wpMask_want (by rfl) (fun K hK => ?_); go_big_quiet_op; refine hK _ ?_; clear hK K))
          with_reducible refine wpMask_nil ?_
          refine region_call 5 (by kernel_rfl) rfl (by rfl) (by go_simp; exact ⟨rfl, rfl⟩) ?_
          refine (HIVW.out _ (HB0.out.trans (Bel.draw V 1))).mono ?_
          rintro e w1 ⟨m, hm, rfl, hb1⟩
          refine ⟨_, rfl, bel_only hb1, ?_⟩
          have HB1 := Lib.hid (HB0.out.trans ((Bel.draw V 1).trans hb1))
          clear hb1 e0 e1 e2 e3 e4 e5 e6
          simp only [List.getElem_toArray, List.getElem_cons_zero, List.getElem_cons_succ, Act.put, List.setIfInBounds_toArray, List.set_cons_zero, List.set_cons_succ]
          refine region_seg [false, false, false, false, false, false, false, false, false, true, true, true] 0 (by kernel_rfl) (by kernel_rfl) (by kernel_rfl) rfl (fun _ _ d _ _ h => by cases d <;> exact h) ?_
          repeat (first | with_reducible refine wpMask_pass ?_ | (refine wpMask_want (by rfl) (fun K hK => ?_); go_big_quiet_op; refine hK _ ?_; clear hK K))
          with_reducible refine wpMask_nil ?_
          refine region_end (by kernel_rfl) ?_
          go_wp2_with fail
          · go_ret
            exact ⟨100001, by omega, rfl, HB1.out⟩
          · go_roundw
            case rel => exact ⟨k + 1, n + (m + key.size), by omega, by go_num, by go_num, by omega, HB1⟩
            case measure => simp [intOf]; omega
        · obtain rfl : t.vs.length = k := by omega
          go_wp2_with fail
          go_ret
          exact ⟨n, by omega, rfl, HB.out⟩
/-- TooLarge: 0 or 1. -/
theorem tooLarge_c (t : VT) (w : World) (hI : t.In w (· < w.heap.size)) :
    Calls Try.prog 20 #[t.val] w fun e w' => (e = .returned (.int .i64 0) ∨ e = .returned (.int .i64 1)) ∧ Bel w w' := by
  rw [VT.val_eq]
  have HC := Lib.hid (show Calls Try.prog 31 #[.agg #[.int .i64 t.k, .string t.s, .int .i64 t.n, .bool t.b, .slice t.A t.xs.length t.c, .slice t.F t.vs.length t.d], .int .i64 0] _ _ from
    weight_c t (w.alloc (.cells #[.int .i64 t.k, .string t.s, .int .i64 t.n, .bool t.b, .slice t.A t.xs.length t.c, .slice t.F t.vs.length t.d] 27)) 0 (by omega) (hI.bel (Bel.alloc _ _)))
  go_enter Try.func20, Try.ntmps20
  go_wp2_with (go_at_call 31; refine HC.out.mono ?_; rintro e w1 ⟨n, hn, rfl, hb⟩; have HB := Lib.hid ((Bel.alloc _ _).trans hb); clear hb)
  · go_ret
    exact ⟨.inr rfl, HB.out⟩
  · go_ret
    exact ⟨.inl rfl, HB.out⟩
end Go.Proofs.Ytollcekcmnokaaa
