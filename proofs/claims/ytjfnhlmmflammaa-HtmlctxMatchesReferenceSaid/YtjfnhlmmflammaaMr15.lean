/-
  Law MatchesReference of layer 15.
-/
import Derived.Test.YtjfnhlmmflammaaRn15
namespace Go.Proofs.Ytjfnhlmmflammaa
open Go.RowKit Go.BigFrame
set_option linter.unusedVariables false
set_option linter.unusedSimpArgs false

theorem st_neq (s : HS) (w : World) : (binOp .neq 25 (.agg #[.int .i64 (s.c : Nat), .string (ofL s.n), .string (ofL s.a), .string (ofL s.p)]) (.agg #[.int .i64 (s.c : Nat), .string (ofL s.n), .string (ofL s.a), .string (ofL s.p)])).run Try.prog w = .ok (.bool false) w := by
  have u3 := Try.underlying3
  have a3 := Try.isAgg3
  have z3 := Try.sizeOf3
  have u9 := Try.underlying9
  have a9 := Try.isAgg9
  have z9 := Try.sizeOf9
  have hS : Try.prog.underlying 25 = some (.struct (Try.prog.fieldsOf 25)) := by kernel_rfl
  have hp : Try.prog.stoodInHeld 25 = false := by kernel_rfl
  rw [run_neq_struct, show (10000 : Nat) = 9999 + 1 from rfl, run_equalIn_agg w 9999 25 _ _ hS hp]
  simp only [Program.fieldsOf, Try.underlying25]
  go_simp
theorem st_rguard (op : BinOp) (x y : Operand) (xs ys : Array Value) (w : World) : (eqGuard op 25 x y (.agg xs) (.agg ys)).run Try.prog w = .ok () w := run_eqGuard_agg w op 25 x y xs ys (by kernel_rfl)
set_option maxRecDepth 100000 in
theorem of_c (k : Int) (n a p : ByteArray) (w : World) : Calls Try.prog 12 #[.agg #[.int .i64 k, .string n, .string a, .string p]] w (SvV (.agg #[.int .i64 k, .string n, .string a, .string p]) w) := by
  go_enter Try.func12, Try.ntmps12
  go_wp2_with fail
  exact st_new rfl rfl (by simp) rfl ((Bel.alloc _ _).trans (Bel.alloc _ _))
theorem once15 {α β : Prop} (tail : α) (main : α → β) : β := main tail
set_option maxRecDepth 100000 in
set_option maxHeartbeats 12800000 in
theorem mrLaw (t : ByteArray) (w : World) (ht : t.size ≤ maxLen) : Calls Try.prog 3 #[.string t] w fun e w' => e = .returned (.bool true) ∧ Below w.heap.size w w' := by
  have HAL := Lib.hid (fun W => alive_c W)
  unfold maxLen at ht
  by_cases hbig : 3000 < t.size
  · have hi : (3000 : Int) < (t.size : Int) := by omega
    go_enter Try.func3, Try.ntmps3
    go_wp2_with (go_at_call 7; refine (HAL.out _).mono ?_; rintro e w1 ⟨rfl, hb⟩)
    go_ret
    exact ⟨rfl, hb⟩
  obtain ⟨l, rfl⟩ : ∃ l, t = ofL l := ⟨toL t, by simp [toL, ofL]⟩
  have hz : (ofL l).size = l.length := rfl
  have hl : l.length ≤ 3000 := by omega
  have hi : ¬ ((3000 : Int) < (l.length : Int)) := by omega
  have HLL := Lib.hid hl
  have HRU := Lib.hid (fun (s : HS) (hs : s = runS (s0 0) l) (W : World) => show Calls Try.prog 13 #[.agg #[.int .i64 0, .string ⟨#[]⟩, .string ⟨#[]⟩, .string ⟨#[]⟩], .string (ofL l)] W (SvV (.agg #[.int .i64 (s.c : Nat), .string (ofL s.n), .string (ofL s.a), .string (ofL s.p)]) W) from run0 l s hs.symm (by omega) W)
  have HOF := Lib.hid (fun k n a p W => of_c k n a p W)
  have hgd := st_guard
  have hgr := st_rguard
  clear hl hbig ht
  go_enter Try.func3, Try.ntmps3
  go_wp2_with fail
  go_loopw [16] (fun s16 wr => ∃ (i : Nat) (S : HS), i ≤ l.length ∧ s16 = .int .i64 i ∧ Hid (S = runS (s0 0) (l.take i)) ∧ Hid (Bel w wr) ∧ Hid (Blk wr w.heap.size 24 [.int .i64 (S.c : Nat), .string (ofL S.n), .string (ofL S.a), .string (ofL S.p)]) ∧ Hid (Blk wr (w.heap.size + 1) 25 [.int .i64 (S.c : Nat), .string (ofL S.n), .string (ofL S.a), .string (ofL S.p)])) (fun s16 _ => l.length - (intOf s16).toNat)
  case atStart => exact ⟨0, s0 0, Nat.zero_le _, rfl, Lib.hid rfl, Lib.hid ((Bel.alloc _ _).trans (Bel.alloc _ _)), Lib.hid ((Blk.new w 24 [.int .i64 0, .string ⟨#[]⟩, .string ⟨#[]⟩, .string ⟨#[]⟩]).alloc _), Lib.hid (blk_at1h w _ 25 [.int .i64 0, .string ⟨#[]⟩, .string ⟨#[]⟩, .string ⟨#[]⟩])⟩
  case round =>
    obtain ⟨i, S, hil, rfl, HS, HB, HK, HM⟩ := hrel
    by_cases hlt : i < l.length
    · obtain ⟨c, hc⟩ : ∃ c, l[i]? = some c := ⟨_, List.getElem?_eq_getElem hlt⟩
      have f5 := fun W => run_index_ofL l i c hc W
      have hI : Inv S := by rw [HS.out]; exact inv_run Inv.init _
      obtain ⟨T, hT⟩ : ∃ T, T = stepS S c := ⟨_, rfl⟩
      have HT := Lib.hid (show T = runS (s0 0) (l.take (i + 1)) by rw [runS_take hc, ← HS.out]; exact hT)
      have HIT := Lib.hid (show Inv T by rw [hT]; exact inv_step hI c)
      have HPS : Hid (∀ W, Calls Try.prog 8 #[.agg #[.int .i64 (S.c : Nat), .string (ofL S.n), .string (ofL S.a), .string (ofL S.p)], .int .u8 c.toNat] W (SvV (.agg #[.int .i64 (T.c : Nat), .string (ofL T.n), .string (ofL T.a), .string (ofL T.p)]) W)) := Lib.hid (fun W => by have h := pstep_c S hI c W; rw [← hT] at h; exact h)
      have HRS : Hid (∀ W, Calls Try.prog 9 #[.agg #[.int .i64 (S.c : Nat), .string (ofL S.n), .string (ofL S.a), .string (ofL S.p)], .int .u8 c.toNat] W (SvV (.agg #[.int .i64 (T.c : Nat), .string (ofL T.n), .string (ofL T.a), .string (ofL T.p)]) W)) := Lib.hid (fun W => by have h := rstep_c S c W (by have := hI.n.1; omega) (by have := hI.a.1; omega) (by have := hI.part.1; omega); rw [← hT] at h; exact h)
      clear hc hI hT
      go_wp2_with fail
      refine region_begin (T := [w.heap.size, (w.heap.size + 1)]) (by kernel_rfl) ?_
      have HBd := Lib.hid (HB.out.trans (Bel.drew _))
      have HKd := Lib.hid HK.out.drew
      have HMd := Lib.hid HM.out.drew
      generalize wr.drew = W at HBd HKd HMd ⊢
      refine reg_seg [false, true, true, true, false, false, true, true, true] 6 (Only.refl _ _) (by kernel_rfl) (by kernel_rfl) (by kernel_rfl) rfl (fun _ _ d _ _ h => by cases d <;> exact h) ?_
      repeat (first | with_reducible refine wpMask_pass ?_ | (refine wpMask_want (by rfl) (fun K hK => ?_); go_big_quiet_op; refine hK _ ?_; clear hK K))
      with_reducible refine wpMask_nil ?_
      apply once15
      case main =>
        intro key
        obtain ⟨k0, k1, k2, k3⟩ := cells4 HKd.out
        obtain ⟨m0, m1, m2, m3⟩ := cells4 HMd.out
        refine wpAnyH_all (rs := [0, 5]) (by kernel_rfl) (by simp) (fun i hi => ?_)
        simp only [List.mem_cons, List.not_mem_nil, or_false] at hi
        rcases hi with rfl | rfl
        case' inl =>
          refine op_make0 (v := .agg #[.int .i64 (S.c : Nat), .string (ofL S.n), .string (ofL S.a), .string (ofL S.p)]) (w1 := W) rfl (by rfl) (by go_simp) (Only.refl _ _) ?_
          simp only [List.getElem_toArray, List.getElem_cons_zero, List.getElem_cons_succ, Act.put, List.setIfInBounds_toArray, List.set_cons_zero, List.set_cons_succ]
          refine wpAnyH_all (rs := [4, 5]) (by kernel_rfl) (by simp) (fun i hi => ?_)
          simp only [List.mem_cons, List.not_mem_nil, or_false] at hi
          rcases hi with rfl | rfl
          case' inl =>
            refine op_call0 rfl (by rfl) (by go_simp; exact ⟨rfl, rfl⟩) ?_
            (with_reducible refine (HPS.out _).mono ?_)
            rintro e w2 ⟨rfl, hb⟩
            refine ⟨_, rfl, ((Only.refl _ W).join (bel_only hb) (by simp)), ?_⟩
            simp only [List.getElem_toArray, List.getElem_cons_zero, List.getElem_cons_succ, Act.put, List.setIfInBounds_toArray, List.set_cons_zero, List.set_cons_succ]
            obtain ⟨n0, n1, n2, n3⟩ := cells4 (HMd.out.belh hb)
            refine reg_make 5 (v := .agg #[.int .i64 (S.c : Nat), .string (ofL S.n), .string (ofL S.a), .string (ofL S.p)]) (w1 := w2) (by kernel_rfl) rfl (by rfl) (by go_simp) ((Only.refl _ W).join (bel_only hb) (by simp)) ?_
            simp only [List.getElem_toArray, List.getElem_cons_zero, List.getElem_cons_succ, Act.put, List.setIfInBounds_toArray, List.set_cons_zero, List.set_cons_succ]
            clear n0 n1 n2 n3
          case' inr =>
            refine op_make0 (v := .agg #[.int .i64 (S.c : Nat), .string (ofL S.n), .string (ofL S.a), .string (ofL S.p)]) (w1 := W) rfl (by rfl) (by go_simp) (Only.refl _ _) ?_
            simp only [List.getElem_toArray, List.getElem_cons_zero, List.getElem_cons_succ, Act.put, List.setIfInBounds_toArray, List.set_cons_zero, List.set_cons_succ]
            refine reg_call 4 (by kernel_rfl) rfl (by rfl) (by go_simp; exact ⟨rfl, rfl⟩) ?_
            (with_reducible refine (HPS.out _).mono ?_)
            rintro e w2 ⟨rfl, hb⟩
            refine ⟨_, rfl, ((Only.refl _ W).join (bel_only hb) (by simp)), ?_⟩
            simp only [List.getElem_toArray, List.getElem_cons_zero, List.getElem_cons_succ, Act.put, List.setIfInBounds_toArray, List.set_cons_zero, List.set_cons_succ]
        case' inr =>
          refine op_make0 (v := .agg #[.int .i64 (S.c : Nat), .string (ofL S.n), .string (ofL S.a), .string (ofL S.p)]) (w1 := W) rfl (by rfl) (by go_simp) (Only.refl _ _) ?_
          simp only [List.getElem_toArray, List.getElem_cons_zero, List.getElem_cons_succ, Act.put, List.setIfInBounds_toArray, List.set_cons_zero, List.set_cons_succ]
          refine reg_make 0 (v := .agg #[.int .i64 (S.c : Nat), .string (ofL S.n), .string (ofL S.a), .string (ofL S.p)]) (w1 := W) (by kernel_rfl) rfl (by rfl) (by go_simp) (Only.refl _ _) ?_
          simp only [List.getElem_toArray, List.getElem_cons_zero, List.getElem_cons_succ, Act.put, List.setIfInBounds_toArray, List.set_cons_zero, List.set_cons_succ]
          refine reg_call 4 (by kernel_rfl) rfl (by rfl) (by go_simp; exact ⟨rfl, rfl⟩) ?_
          (with_reducible refine (HPS.out _).mono ?_)
          rintro e w2 ⟨rfl, hb⟩
          refine ⟨_, rfl, ((Only.refl _ W).join (bel_only hb) (by simp)), ?_⟩
          simp only [List.getElem_toArray, List.getElem_cons_zero, List.getElem_cons_succ, Act.put, List.setIfInBounds_toArray, List.set_cons_zero, List.set_cons_succ]
        all_goals
          clear k0 k1 k2 k3 m0 m1 m2 m3
          revert hb
          revert w2
          exact key
      case tail =>
        intro w2 hb
        refine reg_call 9 (by kernel_rfl) rfl (by rfl) (by go_simp; exact ⟨rfl, rfl⟩) ?_
        (with_reducible refine (HRS.out _).mono ?_)
        rintro e w3 ⟨rfl, hb3⟩
        have hbb := hb.trans hb3
        have hO3 : Only [w.heap.size, (w.heap.size + 1)] W w3 := (Only.refl _ W).join (bel_only hbb) (by simp)
        refine ⟨_, rfl, hO3, ?_⟩
        simp only [List.getElem_toArray, List.getElem_cons_zero, List.getElem_cons_succ, Act.put, List.setIfInBounds_toArray, List.set_cons_zero, List.set_cons_succ]
        have HK3 := Lib.hid (HKd.out.belh hbb)
        have HM3 := Lib.hid (HMd.out.belh hbb)
        have HB3 := Lib.hid (HBd.out.trans hbb)
        clear hb hb3 hbb
        obtain ⟨k0, k1, k2, k3⟩ := cells4 HK3.out
        obtain ⟨y0, y1, y2, y3⟩ := frees4 HK3.out
        have hP : Only [w.heap.size] w3 ((((w3.setCell ⟨w.heap.size, 0, none⟩ (.int .i64 (T.c : Nat))).setCell ⟨w.heap.size, 1, none⟩ (.string (ofL T.n))).setCell ⟨w.heap.size, 2, none⟩ (.string (ofL T.a))).setCell ⟨w.heap.size, 3, none⟩ (.string (ofL T.p))) := ((((Only.refl [w.heap.size] w3).setCell (.inl (by simp)) _).setCell (.inl (by simp)) _).setCell (.inl (by simp)) _).setCell (.inl (by simp)) _
        have hK4 := (((HK3.out.set_ 0 (.int .i64 (T.c : Nat))).set_ 1 (.string (ofL T.n))).set_ 2 (.string (ofL T.a))).set_ 3 (.string (ofL T.p))
        simp only [List.set_cons_succ, List.set_cons_zero] at hK4
        have hM4 := HM3.out.only hP (by simp)
        have hO4 := hO3.join hP (by simp)
        refine reg_store 10 (w1 := ((((w3.setCell ⟨w.heap.size, 0, none⟩ (.int .i64 (T.c : Nat))).setCell ⟨w.heap.size, 1, none⟩ (.string (ofL T.n))).setCell ⟨w.heap.size, 2, none⟩ (.string (ofL T.a))).setCell ⟨w.heap.size, 3, none⟩ (.string (ofL T.p)))) (by kernel_rfl) rfl (by rfl) (by go_simp) hO4 ?_
        simp only [List.getElem_toArray, List.getElem_cons_zero, List.getElem_cons_succ, Act.put, List.setIfInBounds_toArray, List.set_cons_zero, List.set_cons_succ]
        have HB4 := Lib.hid (show Bel w _ from hP.below HB3.out (by have := HB3.out.size; omega) (by simp))
        clear k0 k1 k2 k3 y0 y1 y2 y3 hP hO3 HK3 HM3 HB3
        generalize ((((w3.setCell ⟨w.heap.size, 0, none⟩ (.int .i64 (T.c : Nat))).setCell ⟨w.heap.size, 1, none⟩ (.string (ofL T.n))).setCell ⟨w.heap.size, 2, none⟩ (.string (ofL T.a))).setCell ⟨w.heap.size, 3, none⟩ (.string (ofL T.p))) = w4 at hK4 hM4 hO4 HB4 ⊢
        obtain ⟨m0, m1, m2, m3⟩ := cells4 hM4
        obtain ⟨z0, z1, z2, z3⟩ := frees4 hM4
        have hP : Only [(w.heap.size + 1)] w4 ((((w4.setCell ⟨(w.heap.size + 1), 0, none⟩ (.int .i64 (T.c : Nat))).setCell ⟨(w.heap.size + 1), 1, none⟩ (.string (ofL T.n))).setCell ⟨(w.heap.size + 1), 2, none⟩ (.string (ofL T.a))).setCell ⟨(w.heap.size + 1), 3, none⟩ (.string (ofL T.p))) := ((((Only.refl [(w.heap.size + 1)] w4).setCell (.inl (by simp)) _).setCell (.inl (by simp)) _).setCell (.inl (by simp)) _).setCell (.inl (by simp)) _
        have hM5 := (((hM4.set_ 0 (.int .i64 (T.c : Nat))).set_ 1 (.string (ofL T.n))).set_ 2 (.string (ofL T.a))).set_ 3 (.string (ofL T.p))
        simp only [List.set_cons_succ, List.set_cons_zero] at hM5
        have hK5 := hK4.only hP (by simp)
        refine reg_store 11 (w1 := ((((w4.setCell ⟨(w.heap.size + 1), 0, none⟩ (.int .i64 (T.c : Nat))).setCell ⟨(w.heap.size + 1), 1, none⟩ (.string (ofL T.n))).setCell ⟨(w.heap.size + 1), 2, none⟩ (.string (ofL T.a))).setCell ⟨(w.heap.size + 1), 3, none⟩ (.string (ofL T.p)))) (by kernel_rfl) rfl (by rfl) (by go_simp) (hO4.join hP (by simp)) ?_
        simp only [List.getElem_toArray, List.getElem_cons_zero, List.getElem_cons_succ, Act.put, List.setIfInBounds_toArray, List.set_cons_zero, List.set_cons_succ]
        refine region_end (by kernel_rfl) ?_
        have HB5 := Lib.hid (show Bel w _ from hP.below HB4.out (by have := HB4.out.size; omega) (by simp))
        clear m0 m1 m2 m3 z0 z1 z2 z3 hP hO4 hM4 hK4
        generalize ((((w4.setCell ⟨(w.heap.size + 1), 0, none⟩ (.int .i64 (T.c : Nat))).setCell ⟨(w.heap.size + 1), 1, none⟩ (.string (ofL T.n))).setCell ⟨(w.heap.size + 1), 2, none⟩ (.string (ofL T.a))).setCell ⟨(w.heap.size + 1), 3, none⟩ (.string (ofL T.p))) = w5 at hK5 hM5 HB5 ⊢
        obtain ⟨k0, k1, k2, k3⟩ := cells4 hK5
        have HK5 := Lib.hid hK5
        have HM5 := Lib.hid hM5
        clear hK5 hM5
        have HPE : Hid (∀ W, Calls Try.prog 10 #[.agg #[.int .i64 (T.c : Nat), .string (ofL T.n), .string (ofL T.a), .string (ofL T.p)]] W fun e w' => e = .returned (.tuple #[.int .i64 (escS T).1, .bool (escS T).2]) ∧ Bel W w') := Lib.hid (fun W => pesc_c T HIT.out W)
        have HRE : Hid (∀ W, Calls Try.prog 11 #[.agg #[.int .i64 (T.c : Nat), .string (ofL T.n), .string (ofL T.a), .string (ofL T.p)]] W fun e w' => e = .returned (.tuple #[.int .i64 (escS T).1, .bool (escS T).2]) ∧ Bel W w') := Lib.hid (fun W => resc_c T W)
        generalize (escS T).1 = x at HPE HRE
        generalize (escS T).2 = b at HPE HRE
        go_wp2_with (first | (go_at_call 10; ((with_reducible refine (HPE.out _).mono ?_); rintro e w6 ⟨rfl, hb6⟩; have HK6 := Lib.hid (HK5.out.belh hb6); have HM6 := Lib.hid (HM5.out.belh hb6); have HB6 := Lib.hid (HB5.out.trans hb6); clear k0 k1 k2 k3 hb6; obtain ⟨m0, m1, m2, m3⟩ := cells4 HM6.out)) | (go_at_call 11; ((with_reducible refine (HRE.out _).mono ?_); rintro e w7 ⟨rfl, hb7⟩; have HK7 := Lib.hid (HK6.out.belh hb7); have HM7 := Lib.hid (HM6.out.belh hb7); have HB7 := Lib.hid (HB6.out.trans hb7); clear m0 m1 m2 m3 hb7)))
        refine region_begin (T := []) (by kernel_rfl) ?_
        have HB8 := Lib.hid (HB7.out.trans (Bel.drew _))
        have HK8 := Lib.hid HK7.out.drew
        have HM8 := Lib.hid HM7.out.drew
        generalize w7.drew = w8 at HB8 HK8 HM8 ⊢
        have p0 : ∀ X : Later [] w8, X.w.cell? ⟨w.heap.size, 0, none⟩ = some (.int .i64 (T.c : Nat)) := fun X => (HK8.out.belh (Bel.of_later X)).cell 0
        have p1 : ∀ X : Later [] w8, X.w.cell? ⟨w.heap.size, 1, none⟩ = some (.string (ofL T.n)) := fun X => (HK8.out.belh (Bel.of_later X)).cell 1
        have p2 : ∀ X : Later [] w8, X.w.cell? ⟨w.heap.size, 2, none⟩ = some (.string (ofL T.a)) := fun X => (HK8.out.belh (Bel.of_later X)).cell 2
        have p3 : ∀ X : Later [] w8, X.w.cell? ⟨w.heap.size, 3, none⟩ = some (.string (ofL T.p)) := fun X => (HK8.out.belh (Bel.of_later X)).cell 3
        have q0 : ∀ X : Later [] w8, X.w.cell? ⟨(w.heap.size + 1), 0, none⟩ = some (.int .i64 (T.c : Nat)) := fun X => (HM8.out.belh (Bel.of_later X)).cell 0
        have q1 : ∀ X : Later [] w8, X.w.cell? ⟨(w.heap.size + 1), 1, none⟩ = some (.string (ofL T.n)) := fun X => (HM8.out.belh (Bel.of_later X)).cell 1
        have q2 : ∀ X : Later [] w8, X.w.cell? ⟨(w.heap.size + 1), 2, none⟩ = some (.string (ofL T.a)) := fun X => (HM8.out.belh (Bel.of_later X)).cell 2
        have q3 : ∀ X : Later [] w8, X.w.cell? ⟨(w.heap.size + 1), 3, none⟩ = some (.string (ofL T.p)) := fun X => (HM8.out.belh (Bel.of_later X)).cell 3
        refine region_seg [true, false, true] 12 (by kernel_rfl) (by kernel_rfl) (by kernel_rfl) rfl (fun _ _ d _ _ h => by cases d <;> exact h) ?_
        repeat (first | with_reducible refine wpMask_pass ?_ | (refine wpMask_want (by rfl) (fun K hK => ?_); go_big_quiet_op; refine hK _ ?_; clear hK K))
        with_reducible refine wpMask_nil ?_
        refine region_call 1 (by kernel_rfl) rfl (by rfl) (by go_simp; exact ⟨rfl, rfl⟩) ?_
        (with_reducible refine (HOF.out _ _ _ _ _).mono ?_); rintro e w9 ⟨rfl, hb9⟩; refine ⟨_, rfl, bel_only hb9, ?_⟩
        have HB9 := Lib.hid (HB8.out.trans hb9)
        have HK9 := Lib.hid (HK8.out.belh hb9)
        have HM9 := Lib.hid (HM8.out.belh hb9)
        clear p0 p1 p2 p3 q0 q1 q2 q3 hb9
        simp only [List.getElem_toArray, List.getElem_cons_zero, List.getElem_cons_succ, Act.put, List.setIfInBounds_toArray, List.set_cons_zero, List.set_cons_succ]
        have hq := fun W => st_neq T W
        refine region_seg [false, false, false, true, true, true, true, true, true, true, true, true, true, true] 0 (by kernel_rfl) (by kernel_rfl) (by kernel_rfl) rfl (fun _ _ d _ _ h => by cases d <;> exact h) ?_
        repeat (first | with_reducible refine wpMask_pass ?_ | (refine wpMask_want (by rfl) (fun K hK => ?_); go_big_quiet_op; refine hK _ ?_; clear hK K))
        with_reducible refine wpMask_nil ?_
        refine region_end (by kernel_rfl) ?_
        go_wp2_with fail
        go_roundw
        case rel => exact ⟨i + 1, T, by omega, by go_num, HT, HB9, HK9, HM9⟩
        case measure => simp [intOf]; omega
    · obtain rfl : i = l.length := by omega
      have HSL := Lib.hid (show S = runS (s0 0) l by have h := HS.out; rwa [List.take_length] at h)
      have hq : ∀ W, (binOp .eql 24 (.agg #[.int .i64 (S.c : Nat), .string (ofL S.n), .string (ofL S.a), .string (ofL S.p)]) (.agg #[.int .i64 (S.c : Nat), .string (ofL S.n), .string (ofL S.a), .string (ofL S.p)])).run Try.prog W = .ok (.bool true) W := fun W => (st_eql S S W).trans (by rw [(stB_iff _ _).2 rfl])
      go_wp2_with fail
      refine region_begin (T := []) (by kernel_rfl) ?_
      have HBd := Lib.hid (HB.out.trans (Bel.drew _))
      have HKd := Lib.hid HK.out.drew
      generalize wr.drew = W at HBd HKd ⊢
      refine region_call 0 (by kernel_rfl) rfl (by rfl) (by go_simp; exact ⟨rfl, rfl⟩) ?_
      (with_reducible refine (HAL.out _).mono ?_); rintro e w1 ⟨rfl, hb1⟩; refine ⟨_, rfl, bel_only hb1, ?_⟩
      have HB1 := Lib.hid (HBd.out.trans hb1)
      have HK1 := Lib.hid (HKd.out.belh hb1)
      clear hb1
      simp only [List.getElem_toArray, List.getElem_cons_zero, List.getElem_cons_succ, Act.put, List.setIfInBounds_toArray, List.set_cons_zero, List.set_cons_succ]
      have p0 : ∀ X : Later [] w1, X.w.cell? ⟨w.heap.size, 0, none⟩ = some (.int .i64 (S.c : Nat)) := fun X => (HK1.out.belh (Bel.of_later X)).cell 0
      have p1 : ∀ X : Later [] w1, X.w.cell? ⟨w.heap.size, 1, none⟩ = some (.string (ofL S.n)) := fun X => (HK1.out.belh (Bel.of_later X)).cell 1
      have p2 : ∀ X : Later [] w1, X.w.cell? ⟨w.heap.size, 2, none⟩ = some (.string (ofL S.a)) := fun X => (HK1.out.belh (Bel.of_later X)).cell 2
      have p3 : ∀ X : Later [] w1, X.w.cell? ⟨w.heap.size, 3, none⟩ = some (.string (ofL S.p)) := fun X => (HK1.out.belh (Bel.of_later X)).cell 3
      refine region_seg [false, true, false, true, false, true] 5 (by kernel_rfl) (by kernel_rfl) (by kernel_rfl) rfl (fun _ _ d _ _ h => by cases d <;> exact h) ?_
      repeat (first | with_reducible refine wpMask_pass ?_ | (refine wpMask_want (by rfl) (fun K hK => ?_); go_big_quiet_op; refine hK _ ?_; clear hK K))
      with_reducible refine wpMask_nil ?_
      clear p0 p1 p2 p3
      refine region_make 2 (v := .agg #[.int .i64 0, .string ⟨#[]⟩, .string ⟨#[]⟩, .string ⟨#[]⟩]) (w1 := w1) (by kernel_rfl) rfl (by rfl) (by go_simp) (Only.refl _ _) ?_
      simp only [List.getElem_toArray, List.getElem_cons_zero, List.getElem_cons_succ, Act.put, List.setIfInBounds_toArray, List.set_cons_zero, List.set_cons_succ]
      refine region_call 4 (by kernel_rfl) rfl (by rfl) (by go_simp; exact ⟨rfl, rfl⟩) ?_
      (with_reducible refine (HRU.out S HSL.out _).mono ?_); rintro e w2 ⟨rfl, hb2⟩; refine ⟨_, rfl, bel_only hb2, ?_⟩
      have HB2 := Lib.hid (HB1.out.trans hb2)
      clear hb2
      simp only [List.getElem_toArray, List.getElem_cons_zero, List.getElem_cons_succ, Act.put, List.setIfInBounds_toArray, List.set_cons_zero, List.set_cons_succ]
      refine region_seg [false, false, false, false, false, false, true, true, true] 0 (by kernel_rfl) (by kernel_rfl) (by kernel_rfl) rfl (fun _ _ d _ _ h => by cases d <;> exact h) ?_
      repeat (first | with_reducible refine wpMask_pass ?_ | (refine wpMask_want (by rfl) (fun K hK => ?_); go_big_quiet_op; refine hK _ ?_; clear hK K))
      with_reducible refine wpMask_nil ?_
      refine region_end (by kernel_rfl) ?_
      go_wp2_with fail
      go_ret
      exact ⟨rfl, HB2.out⟩
end Go.Proofs.Ytjfnhlmmflammaa
