/-
  The law InferAfterMatchesReference, walked.
-/
import Derived.Test.YteclclidibmajaaIm16
namespace Go.Proofs.Yteclclidibmajaa
open Go.RowKit Go.BigFrame NT
set_option linter.unusedVariables false
set_option linter.unusedSimpArgs false
set_option maxRecDepth 100000

theorem of16_c (k : Int) (n a p : ByteArray) (w : World) : Calls Try.prog 16 #[.agg #[.int .i64 k, .string n, .string a, .string p]] w (SvV (.agg #[.int .i64 k, .string n, .string a, .string p]) w) := by
  go_enter Try.func16, Try.ntmps16
  go_wp2_with fail
  exact st_new rfl rfl (by simp) rfl ((Bel.alloc _ _).trans (Bel.alloc _ _))
set_option maxHeartbeats 6400000 in
theorem amLaw (b s : ByteArray) (w : World) (hb : b.size ≤ maxLen) (hs : s.size ≤ maxLen) :
    Calls Try.prog 4 #[.string b, .string s] w fun e w' => e = .returned (.bool true) ∧ Below w.heap.size w w' := by
  have HAL := Lib.hid (fun W => alive_c W)
  by_cases hbig : 2000 < b.size
  · have hi : (2000 : Int) < (b.size : Int) := by omega
    go_enter Try.func4, Try.ntmps4
    go_wp2_with (go_at_call 10; refine (HAL.out _).mono ?_; rintro e w1 ⟨rfl, hb⟩)
    go_ret
    exact ⟨rfl, hb⟩
  have hi : ¬ ((2000 : Int) < (b.size : Int)) := by omega
  obtain ⟨S, hS⟩ : ∃ S, S = runS (s0 0) (toL b) := ⟨_, rfl⟩
  have hIS : Inv S := by rw [hS]; exact inv_run Inv.init _
  obtain ⟨l1, hl1, hP1⟩ := parsed_ex s
  have HPA := Lib.hid (fun W => hP1 W)
  have HLA := Lib.hid hl1
  have HRP := Lib.hid (fun W => show Calls Try.prog 13 #[.agg #[.int .i64 0, .string ⟨#[]⟩, .string ⟨#[]⟩, .string ⟨#[]⟩], .string b] W (SvV (.agg #[.int .i64 (S.c : Nat), .string (ofL S.n), .string (ofL S.a), .string (ofL S.p)]) W) by rw [hS]; exact prun_c (s0 0) Inv.init b (by omega) W)
  have HRR := Lib.hid (fun W => show Calls Try.prog 15 #[.agg #[.int .i64 0, .string ⟨#[]⟩, .string ⟨#[]⟩, .string ⟨#[]⟩], .string b] W (SvV (.agg #[.int .i64 (S.c : Nat), .string (ofL S.n), .string (ofL S.a), .string (ofL S.p)]) W) by rw [hS]; exact rrun_c (s0 0) Inv.init b (by omega) W)
  have HIS := Lib.hid hIS
  have HOF := Lib.hid (fun k n a p W => of16_c k n a p W)
  have hgp := st_guard
  have hgr := rst_guard16
  clear hP1 hl1 hs hb hS hIS hbig
  cases hr : listI S l1 with
  | no a' k' =>
    have he := listI_err hr
    have hk0 : (k' : Int) ≠ 0 := by omega
    have hk1 : ((k' : Int) != 0) = true := bne_iff_ne.2 hk0
    have HR := Lib.hid hr
    clear hr he
    go_enter Try.func4, Try.ntmps4
    go_wp2_with (first
      | (go_at_call 7; ((with_reducible refine (HPA.out _).mono ?_); rintro e w1 hp; obtain ⟨hb, A1, c1, m1, rfl, hrow, he⟩ := hp.row; have HB1 := Lib.hid hb; have HT1 := Lib.hid (tots_of he HLA.out); have HX1 := Lib.hid hrow; have HAF := Lib.hid (fun W (hb : Bel w1 W) => (by have h := after_c S HIS.out (hrow.bel hb) HT1.out; rw [← listI_ers, he, HR.out] at h; exact h : Calls Try.prog 12 #[.agg #[.int .i64 (S.c : Nat), .string (ofL S.n), .string (ofL S.a), .string (ofL S.p)], .slice A1 m1.length c1] W (AfP (.no a' k') W))); have HLI := Lib.hid (fun W (hb : Bel w1 W) => (by have h := rlist_c (hrow.bel hb) HT1.out S HIS.out; unfold RcL at h; rw [← listI_ers, he, HR.out] at h; exact h : Calls Try.prog 14 #[.agg #[.int .i64 (S.c : Nat), .string (ofL S.n), .string (ofL S.a), .string (ofL S.p)], .slice A1 m1.length c1] W (RnP (.no a' k') 0 W))); clear hp he hrow hb))
      | (go_at_call 13; ((with_reducible refine (HRP.out _).mono ?_); rintro e w2 ⟨rfl, hb⟩; have HB2 := Lib.hid hb; clear hb))
      | (go_at_call 12; ((with_reducible refine (HAF.out _ HB2.out).mono ?_); rintro e w3 ⟨hb, t2, a2, k2, rfl, hq⟩; obtain ⟨ht, rfl, rfl, hne⟩ := hq.out; have hcmp : ∀ W, (binOp .eql 34 (.agg #[.int .i64 (t2.c : Nat), .string (ofL t2.n), .string (ofL t2.a), .string (ofL t2.p)]) (.agg #[.int .i64 0, .string ⟨#[]⟩, .string ⟨#[]⟩, .string ⟨#[]⟩])).run Try.prog W = .ok (.bool true) W := (fun W => by have h := pst_eql t2 (s0 0) W; rw [show eqH t2 (s0 0) = true from by rw [ht, eqH_self]] at h; exact h); have HB3 := Lib.hid (HB2.out.trans (hb.trans (Bel.alloc w3 (.cells #[.int .i64 (t2.c : Nat), .string (ofL t2.n), .string (ofL t2.a), .string (ofL t2.p)] 34)))); have HS3 := Lib.hid (Blk.new w3 34 (sC t2)); clear hb hq ht hne))
      | (go_at_call 15; ((with_reducible refine (HRR.out _).mono ?_); rintro e w4 ⟨rfl, hb⟩; have HB4 := Lib.hid (HB3.out.trans hb); have HS4 := Lib.hid (HS3.out.belh hb); clear hb))
      | (go_at_call 14; ((with_reducible refine (HLI.out _ HB4.out).mono ?_); rintro e w5 ⟨hb, t5, A5, n5, c5, a5, k5, rfl, hq⟩; obtain ⟨rfl, rfl, hne⟩ := hq.out; have HB5 := Lib.hid (HB1.out.trans (HB4.out.trans (hb.trans (Bel.alloc w5 (.cells #[.int .i64 (t5.c : Nat), .string (ofL t5.n), .string (ofL t5.a), .string (ofL t5.p), .slice A5 n5 c5, .int .i64 a5, .int .i64 k'] 40))))); have HS5 := Lib.hid (HS4.out.belh (hb.trans (Bel.alloc w5 (.cells #[.int .i64 (t5.c : Nat), .string (ofL t5.n), .string (ofL t5.a), .string (ofL t5.p), .slice A5 n5 c5, .int .i64 a5, .int .i64 k'] 40)))); have HR5 := Lib.hid (Blk.new w5 40 (rsC t5 A5 n5 c5 a5 k')); clear hb hq hne))
      | (go_at_call 10; ((with_reducible refine (HAL.out _).mono ?_); rintro e w6 ⟨rfl, hb⟩; have HB6 := Lib.hid (HB5.out.trans hb); have HS6 := Lib.hid (HS5.out.belh hb); have HR6 := Lib.hid (HR5.out.belh hb); clear hb; obtain ⟨x0, x1, x2, x3⟩ := cells4 HS6.out; obtain ⟨y0, y1, y2, y3, y4, y5, y6⟩ := cells7 HR6.out)))
    go_ret
    exact ⟨rfl, HB6.out⟩
  | ok s1 es1 =>
    have HR := Lib.hid hr
    clear hr
    go_enter Try.func4, Try.ntmps4
    go_wp2_with (first
      | (go_at_call 7; ((with_reducible refine (HPA.out _).mono ?_); rintro e w1 hp; obtain ⟨hb, A1, c1, m1, rfl, hrow, he⟩ := hp.row; have HB1 := Lib.hid hb; have HT1 := Lib.hid (tots_of he HLA.out); have HX1 := Lib.hid hrow; have HAF := Lib.hid (fun W (hb : Bel w1 W) => (by have h := after_c S HIS.out (hrow.bel hb) HT1.out; rw [← listI_ers, he, HR.out] at h; exact h : Calls Try.prog 12 #[.agg #[.int .i64 (S.c : Nat), .string (ofL S.n), .string (ofL S.a), .string (ofL S.p)], .slice A1 m1.length c1] W (AfP (.ok s1 es1) W))); have HLI := Lib.hid (fun W (hb : Bel w1 W) => (by have h := rlist_c (hrow.bel hb) HT1.out S HIS.out; unfold RcL at h; rw [← listI_ers, he, HR.out] at h; exact h : Calls Try.prog 14 #[.agg #[.int .i64 (S.c : Nat), .string (ofL S.n), .string (ofL S.a), .string (ofL S.p)], .slice A1 m1.length c1] W (RnP (.ok s1 es1) 0 W))); clear hp he hrow hb))
      | (go_at_call 13; ((with_reducible refine (HRP.out _).mono ?_); rintro e w2 ⟨rfl, hb⟩; have HB2 := Lib.hid hb; clear hb))
      | (go_at_call 12; ((with_reducible refine (HAF.out _ HB2.out).mono ?_); rintro e w3 ⟨hb, t2, a2, k2, rfl, hq⟩; obtain ⟨rfl, rfl, rfl⟩ := hq.out; have HB3 := Lib.hid (HB2.out.trans (hb.trans (Bel.alloc w3 (.cells #[.int .i64 (t2.c : Nat), .string (ofL t2.n), .string (ofL t2.a), .string (ofL t2.p)] 34)))); have HS3 := Lib.hid (Blk.new w3 34 (sC t2)); clear hb hq))
      | (go_at_call 15; ((with_reducible refine (HRR.out _).mono ?_); rintro e w4 ⟨rfl, hb⟩; have HB4 := Lib.hid (HB3.out.trans hb); have HS4 := Lib.hid (HS3.out.belh hb); clear hb))
      | (go_at_call 14; ((with_reducible refine (HLI.out _ HB4.out).mono ?_); rintro e w5 ⟨hb, t5, A5, n5, c5, a5, k5, rfl, hq⟩; obtain ⟨rfl, rfl, rfl, hes⟩ := hq.out; have HB5 := Lib.hid (HB1.out.trans (HB4.out.trans (hb.trans (Bel.alloc w5 (.cells #[.int .i64 (t5.c : Nat), .string (ofL t5.n), .string (ofL t5.a), .string (ofL t5.p), .slice A5 n5 c5, .int .i64 0, .int .i64 0] 40))))); have HS5 := Lib.hid (HS4.out.belh (hb.trans (Bel.alloc w5 (.cells #[.int .i64 (t5.c : Nat), .string (ofL t5.n), .string (ofL t5.a), .string (ofL t5.p), .slice A5 n5 c5, .int .i64 0, .int .i64 0] 40)))); have HR5 := Lib.hid (Blk.new w5 40 (rsC t5 A5 n5 c5 0 0)); clear hb hq hes)))
    refine region_begin (T := []) (by kernel_rfl) ?_
    have HBd := Lib.hid (HB5.out.trans (Bel.drew _))
    have HSd := Lib.hid HS5.out.drew
    have HRd := Lib.hid HR5.out.drew
    generalize (World.alloc w5 _).drew = W at HBd HSd HRd ⊢
    refine region_call 0 (by kernel_rfl) rfl (by rfl) (by go_simp; exact ⟨rfl, rfl⟩) ?_
    (with_reducible refine (HAL.out _).mono ?_); rintro e w6 ⟨rfl, hb⟩; refine ⟨_, rfl, bel_only hb, ?_⟩
    simp only [List.getElem_toArray, List.getElem_cons_zero, List.getElem_cons_succ, Act.put, List.setIfInBounds_toArray, List.set_cons_zero, List.set_cons_succ]
    have HB6 := Lib.hid (HBd.out.trans hb)
    have HS6 := Lib.hid (HSd.out.belh hb)
    have HR6 := Lib.hid (HRd.out.belh hb)
    clear hb
    have q0 : ∀ X : Later [] w6, X.w.cell? ⟨w3.heap.size, 0, none⟩ = some (.int .i64 (t5.c : Nat)) := fun X => (HS6.out.belh (bel_of_only X.h)).cell 0
    have q1 : ∀ X : Later [] w6, X.w.cell? ⟨w3.heap.size, 1, none⟩ = some (.string (ofL t5.n)) := fun X => (HS6.out.belh (bel_of_only X.h)).cell 1
    have q2 : ∀ X : Later [] w6, X.w.cell? ⟨w3.heap.size, 2, none⟩ = some (.string (ofL t5.a)) := fun X => (HS6.out.belh (bel_of_only X.h)).cell 2
    have q3 : ∀ X : Later [] w6, X.w.cell? ⟨w3.heap.size, 3, none⟩ = some (.string (ofL t5.p)) := fun X => (HS6.out.belh (bel_of_only X.h)).cell 3
    have r0 : ∀ X : Later [] w6, X.w.cell? ⟨w5.heap.size, 0, none⟩ = some (.int .i64 (t5.c : Nat)) := fun X => (HR6.out.belh (bel_of_only X.h)).cell 0
    have r1 : ∀ X : Later [] w6, X.w.cell? ⟨w5.heap.size, 1, none⟩ = some (.string (ofL t5.n)) := fun X => (HR6.out.belh (bel_of_only X.h)).cell 1
    have r2 : ∀ X : Later [] w6, X.w.cell? ⟨w5.heap.size, 2, none⟩ = some (.string (ofL t5.a)) := fun X => (HR6.out.belh (bel_of_only X.h)).cell 2
    have r3 : ∀ X : Later [] w6, X.w.cell? ⟨w5.heap.size, 3, none⟩ = some (.string (ofL t5.p)) := fun X => (HR6.out.belh (bel_of_only X.h)).cell 3
    refine region_seg [false, true, true, true, true, true, true, true, true, true, true, false, true, true] 4 (by kernel_rfl) (by kernel_rfl) (by kernel_rfl) rfl (fun _ _ d _ _ h => by cases d <;> exact h) ?_
    repeat (first | with_reducible refine wpMask_pass ?_ | (refine wpMask_want (by rfl) (fun K hK => ?_); go_big_quiet_op; refine hK _ ?_; clear hK K))
    with_reducible refine wpMask_nil ?_
    clear q0 q1 q2 q3 r0 r1 r2 r3
    refine region_call 11 (by kernel_rfl) rfl (by rfl) (by go_simp; exact ⟨rfl, rfl⟩) ?_
    (with_reducible refine (HOF.out _ _ _ _ _).mono ?_); rintro e w7 ⟨rfl, hb⟩; refine ⟨_, rfl, bel_only hb, ?_⟩
    simp only [List.getElem_toArray, List.getElem_cons_zero, List.getElem_cons_succ, Act.put, List.setIfInBounds_toArray, List.set_cons_zero, List.set_cons_succ]
    have HB7 := Lib.hid (HB6.out.trans hb)
    clear hb
    have hcmp : ∀ W, (binOp .eql 38 (.agg #[.int .i64 (t5.c : Nat), .string (ofL t5.n), .string (ofL t5.a), .string (ofL t5.p)]) (.agg #[.int .i64 (t5.c : Nat), .string (ofL t5.n), .string (ofL t5.a), .string (ofL t5.p)])).run Try.prog W = .ok (.bool true) W := fun W => by have h := rst_eql t5 t5 W; rw [eqH_self] at h; exact h
    refine region_seg [false, false, false, false, false, false, false, false, false, false, false, false, false, false, true, true, true] 0 (by kernel_rfl) (by kernel_rfl) (by kernel_rfl) rfl (fun _ _ d _ _ h => by cases d <;> exact h) ?_
    repeat (first | with_reducible refine wpMask_pass ?_ | (refine wpMask_want (by rfl) (fun K hK => ?_); go_big_quiet_op; refine hK _ ?_; clear hK K))
    with_reducible refine wpMask_nil ?_
    refine region_end (by kernel_rfl) ?_
    go_wp2_with fail
    go_ret
    exact ⟨rfl, HB7.out⟩
end Go.Proofs.Yteclclidibmajaa
