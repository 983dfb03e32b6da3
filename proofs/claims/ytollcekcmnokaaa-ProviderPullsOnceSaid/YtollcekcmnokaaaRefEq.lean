/-
  Contract: the reference's Equal.
-/
import Derived.Test.YtollcekcmnokaaaWeight
namespace Go.Proofs.Ytollcekcmnokaaa
open Go.RowKit Go.BigFrame
set_option linter.unusedVariables false
set_option linter.unusedSimpArgs false

section
variable {P : Program} {ops : Array Oper} {Q : Exit → Act → World → Prop}
/-- An operation that its guard leaves out; nothing else may come up. -/
theorem region_skip {T : List Nat} (e : Nat) {listed : Array Bool} {fuel : Nat} {a : Act} {w : World} {o : Oper} (hr : Region.ready .any ops listed = [e])
    (ho : ops[e]? = some o) (hw : Region.wanted o (yielded ops a.tmps) = false)
    (h : wpAnyH P .any ops Q (Only T w) fuel (listed.setIfInBounds e true) (a.put o.dst undef) w) :
    wpAnyH P .any ops Q (Only T w) (fuel + 1) listed a w := by
  refine wpAnyH_all hr (by simp) (fun i hi => ?_)
  simp only [List.mem_singleton] at hi
  subst hi
  unfold wpOp
  simp only [ho, hw]
  exact ⟨Only.refl _ _, h⟩
end

namespace VT
theorem eqv_head {f : Nat} {a b : VT} (h : ¬ (a.k = b.k ∧ a.s = b.s ∧ a.n = b.n ∧ a.b = b.b ∧ a.xs.length = b.xs.length ∧ a.vs.length = b.vs.length)) : eqv (f + 1) a b = false := by
  rw [Bool.eq_false_iff]
  intro he
  simp only [eqv, Bool.and_eq_true, beq_iff_eq, decide_eq_true_eq] at he
  exact h ⟨he.1.1.1.1.1.1.1, he.1.1.1.1.1.1.2, he.1.1.1.1.1.2, he.1.1.1.1.2, he.1.1.1.2, he.1.1.2⟩
theorem eqv_item {f : Nat} {a b : VT} {i : Nat} (hi : i < a.xs.length) (h : eqv f (a.item i) (b.item i) = false) : eqv (f + 1) a b = false := by
  rw [Bool.eq_false_iff]
  intro he
  simp only [eqv, Bool.and_eq_true, List.all_eq_true, List.mem_range] at he
  have := he.1.2 i hi
  rw [h] at this
  cases this
theorem eqv_key {f : Nat} {a b : VT} {i : Nat} (hi : i < a.vs.length) (h : a.key i ≠ b.key i) : eqv (f + 1) a b = false := by
  rw [Bool.eq_false_iff]
  intro he
  simp only [eqv, Bool.and_eq_true, List.all_eq_true, List.mem_range, decide_eq_true_eq] at he
  exact h (he.2 i hi).1
theorem eqv_value {f : Nat} {a b : VT} {i : Nat} (hi : i < a.vs.length) (h : eqv f (a.value i) (b.value i) = false) : eqv (f + 1) a b = false := by
  rw [Bool.eq_false_iff]
  intro he
  simp only [eqv, Bool.and_eq_true, List.all_eq_true, List.mem_range, decide_eq_true_eq] at he
  have := (he.2 i hi).2
  rw [h] at this
  cases this
theorem eqv_good {f : Nat} {a b : VT} (h0 : a.k = b.k ∧ a.s = b.s ∧ a.n = b.n ∧ a.b = b.b ∧ a.xs.length = b.xs.length ∧ a.vs.length = b.vs.length)
    (h1 : ∀ i, i < a.xs.length → eqv f (a.item i) (b.item i) = true) (h2 : ∀ i, i < a.vs.length → a.key i = b.key i ∧ eqv f (a.value i) (b.value i) = true) : eqv (f + 1) a b = true := by
  obtain ⟨e1, e2, e3, e4, e5, e6⟩ := h0
  simp only [eqv, Bool.and_eq_true, List.all_eq_true, List.mem_range, decide_eq_true_eq, beq_iff_eq]
  exact ⟨⟨⟨⟨⟨⟨⟨e1, e2⟩, e3⟩, e4⟩, e5⟩, e6⟩, h1⟩, h2⟩
end VT
/-- Two values laid side by side. -/
theorem two_boxes (w : World) (a b : VT) : Blk ((w.alloc (.cells #[.int .i64 a.k, .string a.s, .int .i64 a.n, .bool a.b, .slice a.A a.xs.length a.c, .slice a.F a.vs.length a.d] 27)).alloc
      (.cells #[.int .i64 b.k, .string b.s, .int .i64 b.n, .bool b.b, .slice b.A b.xs.length b.c, .slice b.F b.vs.length b.d] 27)) w.heap.size 27 a.cs ∧
    Blk ((w.alloc (.cells #[.int .i64 a.k, .string a.s, .int .i64 a.n, .bool a.b, .slice a.A a.xs.length a.c, .slice a.F a.vs.length a.d] 27)).alloc
      (.cells #[.int .i64 b.k, .string b.s, .int .i64 b.n, .bool b.b, .slice b.A b.xs.length b.c, .slice b.F b.vs.length b.d] 27)) (w.heap.size + 1) 27 b.cs := by
  refine ⟨(Blk.new w 27 a.cs).alloc _, ?_⟩
  have := Blk.new (w.alloc (.cells a.cs.toArray 27)) 27 b.cs
  have e : (w.alloc (.cells a.cs.toArray 27)).heap.size = w.heap.size + 1 := by simp
  rw [e] at this
  exact this
theorem str_ne {s t : ByteArray} (h : s ≠ t) : (s.toList == t.toList) = false := by rw [toList_beq]; simpa using h
theorem str_eq {s t : ByteArray} (h : s = t) : (s.toList == t.toList) = true := by rw [toList_beq]; simpa using h

theorem VT.Cells.bel {w w' : World} {g o : Nat} {t : VT} (h : t.Cells w g o) (hg : g < w.heap.size) (hb : Bel w w') : t.Cells w' g o := h.same fun p => hb.cell hg
theorem VT.Cells.later {V : World} {g o : Nat} {t : VT} (h : t.Cells V g o) (hg : g < V.heap.size) : ∀ X : Later [] V, t.Cells X.w g o := fun X => h.same fun p => only_cell X.h hg (by simp)
theorem Bel.drew (w : World) : Bel w w.drew := Bel.draw w 1
/-- What Equal gives. -/
def EqPost (r : Bool) (w : World) (e : Ending) (w' : World) : Prop := e = .returned (.bool r) ∧ Bel w w'
set_option maxRecDepth 100000 in
set_option maxHeartbeats 3200000 in
theorem refEqual_c : ∀ (f : Nat) (a b : VT) (w : World) (hf : SizeOf.sizeOf a < f) (hA : a.In w (· < w.heap.size)) (hB : b.In w (· < w.heap.size)),
    Calls Try.prog 13 #[a.val, b.val] w (EqPost (VT.eqv f a b) w) := by
  intro f
  induction f with
  | zero => intro a b w hf; omega
  | succ f ih =>
    intro a b w hf hA hB
    rw [VT.val_eq, VT.val_eq]
    have HI := Lib.hid hA
    have HJ := Lib.hid hB
    obtain ⟨hx1, hx2⟩ := hA.lens
    obtain ⟨hk1, hn1, hs1, hc1, hc2, hd1, hd2, _⟩ := hA.bounds
    obtain ⟨hy1, hy2⟩ := hB.lens
    obtain ⟨hk2, hn2, hs2, hc3, hc4, hd3, hd4, _⟩ := hB.bounds
    have HIX : Hid (∀ i, i < a.xs.length → i < b.xs.length → ∀ (W : World), Bel w W → Calls Try.prog 13 #[.agg #[.int .i64 (a.item i).k, .string (a.item i).s, .int .i64 (a.item i).n, .bool (a.item i).b, .slice (a.item i).A (a.item i).xs.length (a.item i).c, .slice (a.item i).F (a.item i).vs.length (a.item i).d],
        .agg #[.int .i64 (b.item i).k, .string (b.item i).s, .int .i64 (b.item i).n, .bool (b.item i).b, .slice (b.item i).A (b.item i).xs.length (b.item i).c, .slice (b.item i).F (b.item i).vs.length (b.item i).d]] W (EqPost (VT.eqv f (a.item i) (b.item i)) W)) :=
      Lib.hid (fun i h1 h2 W hb => ih _ _ W (by have := VT.item_size h1; omega) ((HI.out.item h1).bel hb) ((HJ.out.item h2).bel hb))
    have HIV : Hid (∀ i, i < a.vs.length → i < b.vs.length → ∀ (W : World), Bel w W → Calls Try.prog 13 #[.agg #[.int .i64 (a.value i).k, .string (a.value i).s, .int .i64 (a.value i).n, .bool (a.value i).b, .slice (a.value i).A (a.value i).xs.length (a.value i).c, .slice (a.value i).F (a.value i).vs.length (a.value i).d],
        .agg #[.int .i64 (b.value i).k, .string (b.value i).s, .int .i64 (b.value i).n, .bool (b.value i).b, .slice (b.value i).A (b.value i).xs.length (b.value i).c, .slice (b.value i).F (b.value i).vs.length (b.value i).d]] W (EqPost (VT.eqv f (a.value i) (b.value i)) W)) :=
      Lib.hid (fun i h1 h2 W hb => ih _ _ W (by have := VT.value_size h1; omega) ((HI.out.value h1).bel hb) ((HJ.out.value h2).bel hb))
    clear ih hA hB hf
    have HW0 : Hid (Bel w _) := Lib.hid ((Bel.alloc w (.cells #[.int .i64 a.k, .string a.s, .int .i64 a.n, .bool a.b, .slice a.A a.xs.length a.c, .slice a.F a.vs.length a.d] 27)).trans (Bel.alloc _ (.cells #[.int .i64 b.k, .string b.s, .int .i64 b.n, .bool b.b, .slice b.A b.xs.length b.c, .slice b.F b.vs.length b.d] 27)))
    have HTB := Lib.hid (two_boxes w a b)
    go_enter Try.func13, Try.ntmps13
    go_wp2_with fail
    · go_ret
      exact ⟨ret_bool (VT.eqv_head (by rintro ⟨e1, e2, e3, e4, e5, e6⟩; simp_all)).symm, (Bel.alloc _ _).trans (Bel.alloc _ _)⟩
    · rename a.k = b.k => g1
      rename a.s.toList = b.s.toList => g2
      rename a.n = b.n => g3
      rename a.b = b.b => g4
      rename (a.xs.length : Int) = b.xs.length => g5
      rename ((a.vs.length : Int) != b.vs.length) = false => g6
      have g7 : a.s = b.s := by have := toList_beq a.s b.s; rw [g2] at this; simpa using this.symm
      have g8 : a.vs.length = b.vs.length := by have h6 : (a.vs.length : Int) = b.vs.length := by { simpa using g6 }; omega
      have HH : Hid (a.k = b.k ∧ a.s = b.s ∧ a.n = b.n ∧ a.b = b.b ∧ a.xs.length = b.xs.length ∧ a.vs.length = b.vs.length) := Lib.hid ⟨g1, g7, g3, g4, by omega, g8⟩
      have HTB' := HTB.out
      rw [g1, g3, g4] at HTB'
      have HW1 := Lib.hid HTB'
      clear HTB HTB' HW0
      obtain ⟨n, hn⟩ : ∃ n, n = a.xs.length := ⟨_, rfl⟩
      obtain ⟨m, hm⟩ : ∃ m, m = a.vs.length := ⟨_, rfl⟩
      have hn2 : n = b.xs.length := by omega
      have hm2 : m = b.vs.length := by have := HH.out.2.2.2.2.2; omega
      have HN := Lib.hid (And.intro hn hn2)
      have HM := Lib.hid (And.intro hm hm2)
      rw [← hn2] at hy1 hc3
      rw [← hm2] at hy2 hd3
      rw [← hn] at hx1 hc1
      rw [← hm] at hx2 hd1
      clear hm hm2 hn hn2
      clear g1 g2 g3 g4 g5 g6 g7 g8
      go_loopw [5] (fun s5 wr => ∃ k : Nat, k ≤ n ∧ s5 = .int .i64 k ∧ Hid (∀ i, i < k → VT.eqv f (a.item i) (b.item i) = true) ∧ Hid (Bel w wr) ∧ Hid (Blk wr w.heap.size 27 a.cs ∧ Blk wr (w.heap.size + 1) 27 b.cs)) (fun s5 _ => n - (intOf s5).toNat)
      case atStart => exact ⟨0, Nat.zero_le _, rfl, Lib.hid (fun i hi => absurd hi (Nat.not_lt_zero _)), Lib.hid ((Bel.alloc _ _).trans (Bel.alloc _ _)), HW1⟩
      case round =>
        obtain ⟨k, hk, rfl, HALL, HB, HBX⟩ := hrel
        have HBX' := HBX
        obtain ⟨p0, p1, p2, p3, p4, p5⟩ := cs_cells HBX.out.1
        obtain ⟨t0, t1, t2, t3, t4, t5⟩ := cs_cells HBX.out.2
        rw [← HN.out.1] at p4
        rw [← HN.out.2] at t4
        rw [← HM.out.1] at p5
        rw [← HM.out.2] at t5
        by_cases hlt : k < n
        · have hka : k < a.xs.length := by have := HN.out.1; omega
          have hkb : k < b.xs.length := by have := HN.out.2; omega
          obtain ⟨ga, oa, hAA, cg, hca⟩ := HI.out.items (by omega)
          obtain ⟨gb, ob, hAB, dg, hcb⟩ := HJ.out.items (by omega)
          obtain ⟨cc0, cc1, cc2, cc3, cc4, cc5⟩ := hca k hka
          obtain ⟨dc0, dc1, dc2, dc3, dc4, dc5⟩ := hcb k hkb
          have HCALL := Lib.hid (HIX.out k hka hkb)
          have HFAIL : Hid (VT.eqv f (a.item k) (b.item k) = false → VT.eqv (f + 1) a b = false) := Lib.hid (VT.eqv_item hka)
          have HSTEP : Hid (VT.eqv f (a.item k) (b.item k) = true → ∀ i, i < k + 1 → VT.eqv f (a.item i) (b.item i) = true) := Lib.hid fun h i hi => by
            by_cases e : i = k
            · subst e; exact h
            · exact HALL.out i (by omega)
          rw [hAA] at p4
          rw [hAB] at t4
          clear hca hcb hka hkb
          generalize a.item k = x at *
          generalize b.item k = y at *
          go_wp2_with fail
          have LX := VT.Cells.later (VT.Cells.bel ⟨cc0, cc1, cc2, cc3, cc4, cc5⟩ cg (HB.out.trans (Bel.drew wr))) (Nat.lt_of_lt_of_le cg (HB.out.trans (Bel.drew wr)).size)
          have LY := VT.Cells.later (VT.Cells.bel ⟨dc0, dc1, dc2, dc3, dc4, dc5⟩ dg (HB.out.trans (Bel.drew wr))) (Nat.lt_of_lt_of_le dg (HB.out.trans (Bel.drew wr)).size)
          have c0 : ∀ X : Later [] wr.drew, X.w.cell? ⟨ga, oa + k * 6, none⟩ = some (.int .i64 x.k) := fun X => (LX X).1
          have c1 : ∀ X : Later [] wr.drew, X.w.cell? ⟨ga, oa + k * 6 + 1, none⟩ = some (.string x.s) := fun X => (LX X).2.1
          have c2 : ∀ X : Later [] wr.drew, X.w.cell? ⟨ga, oa + k * 6 + 2, none⟩ = some (.int .i64 x.n) := fun X => (LX X).2.2.1
          have c3 : ∀ X : Later [] wr.drew, X.w.cell? ⟨ga, oa + k * 6 + 3, none⟩ = some (.bool x.b) := fun X => (LX X).2.2.2.1
          have c4 : ∀ X : Later [] wr.drew, X.w.cell? ⟨ga, oa + k * 6 + 4, none⟩ = some (.slice x.A x.xs.length x.c) := fun X => (LX X).2.2.2.2.1
          have c5 : ∀ X : Later [] wr.drew, X.w.cell? ⟨ga, oa + k * 6 + 5, none⟩ = some (.slice x.F x.vs.length x.d) := fun X => (LX X).2.2.2.2.2
          have d0 : ∀ X : Later [] wr.drew, X.w.cell? ⟨gb, ob + k * 6, none⟩ = some (.int .i64 y.k) := fun X => (LY X).1
          have d1 : ∀ X : Later [] wr.drew, X.w.cell? ⟨gb, ob + k * 6 + 1, none⟩ = some (.string y.s) := fun X => (LY X).2.1
          have d2 : ∀ X : Later [] wr.drew, X.w.cell? ⟨gb, ob + k * 6 + 2, none⟩ = some (.int .i64 y.n) := fun X => (LY X).2.2.1
          have d3 : ∀ X : Later [] wr.drew, X.w.cell? ⟨gb, ob + k * 6 + 3, none⟩ = some (.bool y.b) := fun X => (LY X).2.2.2.1
          have d4 : ∀ X : Later [] wr.drew, X.w.cell? ⟨gb, ob + k * 6 + 4, none⟩ = some (.slice y.A y.xs.length y.c) := fun X => (LY X).2.2.2.2.1
          have d5 : ∀ X : Later [] wr.drew, X.w.cell? ⟨gb, ob + k * 6 + 5, none⟩ = some (.slice y.F y.vs.length y.d) := fun X => (LY X).2.2.2.2.2
          have l4 : ∀ X : Later [] wr.drew, X.w.cell? ⟨w.heap.size, 4, none⟩ = some (.slice (some ⟨ga, oa, none⟩) n a.c) := fun X => (only_cell X.h (HBX.out.1.drew.lt) (by simp)).trans p4
          have m4 : ∀ X : Later [] wr.drew, X.w.cell? ⟨w.heap.size + 1, 4, none⟩ = some (.slice (some ⟨gb, ob, none⟩) n b.c) := fun X => (only_cell X.h (HBX.out.2.drew.lt) (by simp)).trans t4
          clear LX LY cc0 cc1 cc2 cc3 cc4 cc5 dc0 dc1 dc2 dc3 dc4 dc5 p0 p1 p2 p3 p4 p5 t0 t1 t2 t3 t4 t5
          refine region_begin (T := []) (by kernel_rfl) ?_
          refine region_seg [true, true, true, true, true, true, true, true, true, true] 2 (by kernel_rfl) (by kernel_rfl) (by kernel_rfl) rfl (fun _ _ d _ _ h => by cases d <;> exact h) ?_
          repeat (first | with_reducible refine wpMask_pass ?_ | (refine wpMask_want (by rfl) (fun K hK => ?_); go_big_quiet_op; refine hK _ ?_; clear hK K))
          with_reducible refine wpMask_nil ?_
          refine region_call 10 (by kernel_rfl) rfl (by rfl) (by go_simp; exact ⟨rfl, rfl⟩) ?_
          refine (HCALL.out _ (HB.out.trans (Bel.drew wr))).mono ?_
          rintro e w1 ⟨rfl, hb1⟩
          refine ⟨_, rfl, bel_only hb1, ?_⟩
          have HB1 := Lib.hid (HB.out.trans ((Bel.drew wr).trans hb1))
          have HBX1 := Lib.hid (And.intro (HBX.out.1.drew.below hb1 HBX.out.1.drew.lt) (HBX.out.2.drew.below hb1 HBX.out.2.drew.lt))
          clear hb1 c0 c1 c2 c3 c4 c5 d0 d1 d2 d3 d4 d5 l4 m4
          simp only [List.getElem_toArray, List.getElem_cons_zero, List.getElem_cons_succ, Act.put, List.setIfInBounds_toArray, List.set_cons_zero, List.set_cons_succ]
          refine region_seg [false, false, false, false, false, false, false, false, false, false, false, true] 0 (by kernel_rfl) (by kernel_rfl) (by kernel_rfl) rfl (fun _ _ d _ _ h => by cases d <;> exact h) ?_
          repeat (first | with_reducible refine wpMask_pass ?_ | (refine wpMask_want (by rfl) (fun K hK => ?_); go_big_quiet_op; refine hK _ ?_; clear hK K))
          with_reducible refine wpMask_nil ?_
          refine region_end (by kernel_rfl) ?_
          cases hv : VT.eqv f x y with
          | false =>
            have HF := Lib.hid (HFAIL.out hv)
            clear hv
            go_wp2_with fail
            go_ret
            exact ⟨ret_bool HF.out.symm, HB1.out⟩
          | true =>
            have HS := Lib.hid (HSTEP.out hv)
            clear hv
            go_wp2_with fail
            go_roundw
            case rel => exact ⟨k + 1, by omega, by go_num, HS, HB1, HBX1⟩
            case measure => simp [intOf]; omega
        · obtain rfl : n = k := by omega
          go_wp2_with fail
          clear p0 p1 p2 p3 p4 p5 t0 t1 t2 t3 t4 t5
          have HALL1 : Hid (∀ i, i < a.xs.length → VT.eqv f (a.item i) (b.item i) = true) := Lib.hid (by rw [← HN.out.1]; exact HALL.out)
          clear HALL
          go_loopw [6] (fun s6 wr => ∃ k : Nat, k ≤ m ∧ s6 = .int .i64 k ∧ Hid (∀ i, i < k → a.key i = b.key i ∧ VT.eqv f (a.value i) (b.value i) = true) ∧ Hid (Bel w wr) ∧ Hid (Blk wr w.heap.size 27 a.cs ∧ Blk wr (w.heap.size + 1) 27 b.cs)) (fun s6 _ => m - (intOf s6).toNat)
          case atStart => exact ⟨0, Nat.zero_le _, rfl, Lib.hid (fun i hi => absurd hi (Nat.not_lt_zero _)), HB, HBX⟩
          case round =>
          clear HB HBX HBX'
          obtain ⟨k, hk, rfl, HALL, HB, HBX⟩ := hrel
          obtain ⟨p0, p1, p2, p3, p4, p5⟩ := cs_cells HBX.out.1
          obtain ⟨t0, t1, t2, t3, t4, t5⟩ := cs_cells HBX.out.2
          rw [← HN.out.1] at p4
          rw [← HN.out.2] at t4
          rw [← HM.out.1] at p5
          rw [← HM.out.2] at t5
          by_cases hlt : k < m
          · have hka : k < a.vs.length := by have := HM.out.1; omega
            have hkb : k < b.vs.length := by have := HM.out.2; omega
            obtain ⟨ga, oa, hAA, cg, hca⟩ := HI.out.fields (by omega)
            obtain ⟨gb, ob, hAB, dg, hcb⟩ := HJ.out.fields (by omega)
            obtain ⟨ck, cc⟩ := hca k hka
            obtain ⟨dk, dc⟩ := hcb k hkb
            have HCALL := Lib.hid (HIV.out k hka hkb)
            have HFK : Hid (a.key k ≠ b.key k → VT.eqv (f + 1) a b = false) := Lib.hid (VT.eqv_key hka)
            have HFAIL : Hid (VT.eqv f (a.value k) (b.value k) = false → VT.eqv (f + 1) a b = false) := Lib.hid (VT.eqv_value hka)
            have HSTEP : Hid (a.key k = b.key k → VT.eqv f (a.value k) (b.value k) = true → ∀ i, i < k + 1 → a.key i = b.key i ∧ VT.eqv f (a.value i) (b.value i) = true) := Lib.hid fun h1 h2 i hi => by
              by_cases e : i = k
              · subst e; exact ⟨h1, h2⟩
              · exact HALL.out i (by omega)
            rw [hAA] at p5
            rw [hAB] at t5
            clear hca hcb hka hkb
            generalize a.value k = x at *
            generalize b.value k = y at *
            generalize a.key k = kx at *
            generalize b.key k = ky at *
            go_wp2_with fail
            have LX := VT.Cells.later (VT.Cells.bel cc cg (HB.out.trans (Bel.drew wr))) (Nat.lt_of_lt_of_le cg (HB.out.trans (Bel.drew wr)).size)
            have LY := VT.Cells.later (VT.Cells.bel dc dg (HB.out.trans (Bel.drew wr))) (Nat.lt_of_lt_of_le dg (HB.out.trans (Bel.drew wr)).size)
            have c0 : ∀ X : Later [] wr.drew, X.w.cell? ⟨ga, oa + k * 7 + 1, none⟩ = some (.int .i64 x.k) := fun X => (LX X).1
            have c1 : ∀ X : Later [] wr.drew, X.w.cell? ⟨ga, oa + k * 7 + 1 + 1, none⟩ = some (.string x.s) := fun X => (LX X).2.1
            have c2 : ∀ X : Later [] wr.drew, X.w.cell? ⟨ga, oa + k * 7 + 1 + 2, none⟩ = some (.int .i64 x.n) := fun X => (LX X).2.2.1
            have c3 : ∀ X : Later [] wr.drew, X.w.cell? ⟨ga, oa + k * 7 + 1 + 3, none⟩ = some (.bool x.b) := fun X => (LX X).2.2.2.1
            have c4 : ∀ X : Later [] wr.drew, X.w.cell? ⟨ga, oa + k * 7 + 1 + 4, none⟩ = some (.slice x.A x.xs.length x.c) := fun X => (LX X).2.2.2.2.1
            have c5 : ∀ X : Later [] wr.drew, X.w.cell? ⟨ga, oa + k * 7 + 1 + 5, none⟩ = some (.slice x.F x.vs.length x.d) := fun X => (LX X).2.2.2.2.2
            have d0 : ∀ X : Later [] wr.drew, X.w.cell? ⟨gb, ob + k * 7 + 1, none⟩ = some (.int .i64 y.k) := fun X => (LY X).1
            have d1 : ∀ X : Later [] wr.drew, X.w.cell? ⟨gb, ob + k * 7 + 1 + 1, none⟩ = some (.string y.s) := fun X => (LY X).2.1
            have d2 : ∀ X : Later [] wr.drew, X.w.cell? ⟨gb, ob + k * 7 + 1 + 2, none⟩ = some (.int .i64 y.n) := fun X => (LY X).2.2.1
            have d3 : ∀ X : Later [] wr.drew, X.w.cell? ⟨gb, ob + k * 7 + 1 + 3, none⟩ = some (.bool y.b) := fun X => (LY X).2.2.2.1
            have d4 : ∀ X : Later [] wr.drew, X.w.cell? ⟨gb, ob + k * 7 + 1 + 4, none⟩ = some (.slice y.A y.xs.length y.c) := fun X => (LY X).2.2.2.2.1
            have d5 : ∀ X : Later [] wr.drew, X.w.cell? ⟨gb, ob + k * 7 + 1 + 5, none⟩ = some (.slice y.F y.vs.length y.d) := fun X => (LY X).2.2.2.2.2
            have ckx : ∀ X : Later [] wr.drew, X.w.cell? ⟨ga, oa + k * 7, none⟩ = some (.string kx) := fun X => (only_cell X.h (Nat.lt_of_lt_of_le cg (HB.out.trans (Bel.drew wr)).size) (by simp)).trans (((HB.out.trans (Bel.drew wr)).cell cg).trans ck)
            have dky : ∀ X : Later [] wr.drew, X.w.cell? ⟨gb, ob + k * 7, none⟩ = some (.string ky) := fun X => (only_cell X.h (Nat.lt_of_lt_of_le dg (HB.out.trans (Bel.drew wr)).size) (by simp)).trans (((HB.out.trans (Bel.drew wr)).cell dg).trans dk)
            have l5 : ∀ X : Later [] wr.drew, X.w.cell? ⟨w.heap.size, 5, none⟩ = some (.slice (some ⟨ga, oa, none⟩) m a.d) := fun X => (only_cell X.h (HBX.out.1.drew.lt) (by simp)).trans p5
            have m5 : ∀ X : Later [] wr.drew, X.w.cell? ⟨w.heap.size + 1, 5, none⟩ = some (.slice (some ⟨gb, ob, none⟩) m b.d) := fun X => (only_cell X.h (HBX.out.2.drew.lt) (by simp)).trans t5
            clear LX LY cc dc ck dk p0 p1 p2 p3 p4 p5 t0 t1 t2 t3 t4 t5
            refine region_begin (T := []) (by kernel_rfl) ?_
            by_cases hkk : kx = ky
            · have hs := str_eq hkk
              have hs' : (kx.toList != ky.toList) = false := by rw [bne, hs]; rfl
              have HKK := Lib.hid hkk
              clear hkk
              refine region_seg [true, true, true, true, true, true, true, true, true, true, true, true, true, true, true, true, true, true, true, true, true, true, true, true, true, true] 3 (by kernel_rfl) (by kernel_rfl) (by kernel_rfl) rfl (fun _ _ d _ _ h => by cases d <;> exact h) ?_
              repeat (first | with_reducible refine wpMask_pass ?_ | (refine wpMask_want (by rfl) (fun K hK => ?_); go_big_quiet_op; refine hK _ ?_; clear hK K))
              with_reducible refine wpMask_nil ?_
              refine region_call 26 (by kernel_rfl) rfl (by rfl) (by go_simp; exact ⟨rfl, rfl⟩) ?_
              refine (HCALL.out _ (HB.out.trans (Bel.drew wr))).mono ?_
              rintro e w1 ⟨rfl, hb1⟩
              refine ⟨_, rfl, bel_only hb1, ?_⟩
              have HB1 := Lib.hid (HB.out.trans ((Bel.drew wr).trans hb1))
              have HBX1 := Lib.hid (And.intro (HBX.out.1.drew.below hb1 HBX.out.1.drew.lt) (HBX.out.2.drew.below hb1 HBX.out.2.drew.lt))
              clear hb1 c0 c1 c2 c3 c4 c5 d0 d1 d2 d3 d4 d5 l5 m5 ckx dky
              simp only [List.getElem_toArray, List.getElem_cons_zero, List.getElem_cons_succ, Act.put, List.setIfInBounds_toArray, List.set_cons_zero, List.set_cons_succ]
              refine region_seg [false, false, false, false, false, false, false, false, false, false, false, false, false, false, false, false, false, false, false, false, false, false, false, false, false, false, false, true, true] 0 (by kernel_rfl) (by kernel_rfl) (by kernel_rfl) rfl (fun _ _ d _ _ h => by cases d <;> exact h) ?_
              repeat (first | with_reducible refine wpMask_pass ?_ | (refine wpMask_want (by rfl) (fun K hK => ?_); go_big_quiet_op; refine hK _ ?_; clear hK K))
              with_reducible refine wpMask_nil ?_
              refine region_end (by kernel_rfl) ?_
              cases hv : VT.eqv f x y with
              | false =>
                have HF := Lib.hid (HFAIL.out hv)
                clear hv
                go_wp2_with fail
                go_ret
                exact ⟨ret_bool HF.out.symm, HB1.out⟩
              | true =>
                have HS := Lib.hid (HSTEP.out HKK.out hv)
                clear hv
                go_wp2_with fail
                go_roundw
                case rel => exact ⟨k + 1, by omega, by go_num, HS, HB1, HBX1⟩
                case measure => simp [intOf]; omega
            · have hs := str_ne hkk
              have hs' : (kx.toList != ky.toList) = true := by rw [bne, hs]; rfl
              have HF := Lib.hid (HFK.out hkk)
              clear hkk
              refine region_seg [true, true, true, true, true, true, true, true, true, true, true, true, true, true, true, true, true, true, true, true, true, true, true, true, true, true] 3 (by kernel_rfl) (by kernel_rfl) (by kernel_rfl) rfl (fun _ _ d _ _ h => by cases d <;> exact h) ?_
              iterate 14 (refine wpMask_want (by rfl) (fun K hK => ?_); go_big_quiet_op; refine hK _ ?_; clear hK K)
              iterate 12 ((with_reducible refine wpMask_skip (by kernel_rfl) ?_); simp only [List.getElem_toArray, List.getElem_cons_zero, List.getElem_cons_succ, Act.put, List.setIfInBounds_toArray, List.set_cons_zero, List.set_cons_succ])
              with_reducible refine wpMask_nil ?_
              refine region_skip 26 (by kernel_rfl) rfl (by kernel_rfl) ?_
              simp only [List.getElem_toArray, List.getElem_cons_zero, List.getElem_cons_succ, Act.put, List.setIfInBounds_toArray, List.set_cons_zero, List.set_cons_succ]
              refine region_seg [false, false, false, false, false, false, false, false, false, false, false, false, false, false, false, false, false, false, false, false, false, false, false, false, false, false, false, true, true] 0 (by kernel_rfl) (by kernel_rfl) (by kernel_rfl) rfl (fun _ _ d _ _ h => by cases d <;> exact h) ?_
              iterate 27 (with_reducible refine wpMask_pass ?_)
              ((with_reducible refine wpMask_skip (by kernel_rfl) ?_); simp only [List.getElem_toArray, List.getElem_cons_zero, List.getElem_cons_succ, Act.put, List.setIfInBounds_toArray, List.set_cons_zero, List.set_cons_succ])
              (refine wpMask_want (by rfl) (fun K hK => ?_); go_big_quiet_op; refine hK _ ?_; clear hK K)
              with_reducible refine wpMask_nil ?_
              refine region_end (by kernel_rfl) ?_
              go_wp2_with fail
              go_ret
              exact ⟨ret_bool HF.out.symm, HB.out.trans (Bel.drew wr)⟩
          · obtain rfl : m = k := by omega
            have HE := Lib.hid (VT.eqv_good (f := f) HH.out HALL1.out (by rw [← HM.out.1]; exact HALL.out))
            go_wp2_with fail
            go_ret
            exact ⟨ret_bool HE.out.symm, HB.out⟩
    · go_ret
      exact ⟨ret_bool (VT.eqv_head (by rintro ⟨e1, e2, e3, e4, e5, e6⟩; simp_all)).symm, (Bel.alloc _ _).trans (Bel.alloc _ _)⟩
    · go_ret
      exact ⟨ret_bool (VT.eqv_head (by rintro ⟨e1, e2, e3, e4, e5, e6⟩; simp_all)).symm, (Bel.alloc _ _).trans (Bel.alloc _ _)⟩
    · go_ret
      exact ⟨ret_bool (VT.eqv_head (by rintro ⟨e1, e2, e3, e4, e5, e6⟩; simp_all)).symm, (Bel.alloc _ _).trans (Bel.alloc _ _)⟩
    · go_ret
      exact ⟨ret_bool (VT.eqv_head (by rintro ⟨e1, e2, e3, e4, e5, e6⟩; simp_all)).symm, (Bel.alloc _ _).trans (Bel.alloc _ _)⟩
    · go_ret
      exact ⟨ret_bool (VT.eqv_head (by rintro ⟨e1, e2, e3, e4, e5, e6⟩; simp_all)).symm, (Bel.alloc _ _).trans (Bel.alloc _ _)⟩
end Go.Proofs.Ytollcekcmnokaaa
