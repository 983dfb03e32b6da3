/-
  Contract: value.Equal.
-/
import Derived.Test.YtmgnomahnndeaaaDoorEq9
namespace Go.Proofs.YtmgnomahnndeaaaDoor
open Go.RowKit Go.BigFrame
set_option linter.unusedVariables false
set_option linter.unusedSimpArgs false

theorem VT.eqv_chain (f : Nat) (a b : VT) : VT.eqv (f + 1) a b = (decide (a.k = b.k) && decide (a.s = b.s) && decide (a.n = b.n) && decide (a.b = b.b) &&
    (decide (a.xs.length = b.xs.length) && allB (fun i => VT.eqv f (a.item i) (b.item i)) a.xs.length) && (decide (a.vs.length = b.vs.length) && allB (fun i => decide (a.key i = b.key i) && VT.eqv f (a.value i) (b.value i)) a.vs.length)) := by
  rw [Bool.eq_iff_iff]
  simp only [VT.eqv, allB, Bool.and_eq_true, decide_eq_true_eq, beq_iff_eq]
  constructor
  · rintro ⟨⟨⟨⟨⟨⟨⟨h1, h2⟩, h3⟩, h4⟩, h5⟩, h6⟩, h7⟩, h8⟩
    exact ⟨⟨⟨⟨⟨h1, h2⟩, h3⟩, h4⟩, h5, h7⟩, h6, h8⟩
  · rintro ⟨⟨⟨⟨⟨h1, h2⟩, h3⟩, h4⟩, h5, h7⟩, h6, h8⟩
    exact ⟨⟨⟨⟨⟨⟨⟨h1, h2⟩, h3⟩, h4⟩, h5⟩, h6⟩, h7⟩, h8⟩
theorem blk2 (w : World) (T : TypeId) (xs ys : List Value) : Blk ((w.alloc (.cells xs.toArray T)).alloc (.cells ys.toArray T)) w.heap.size T xs ∧ Blk ((w.alloc (.cells xs.toArray T)).alloc (.cells ys.toArray T)) (w.heap.size + 1) T ys := by
  refine ⟨(Blk.new w T xs).alloc _, ?_⟩
  have := Blk.new (w.alloc (.cells xs.toArray T)) T ys
  have e : (w.alloc (.cells xs.toArray T)).heap.size = w.heap.size + 1 := by simp
  rw [e] at this
  exact this

set_option maxRecDepth 100000 in
set_option maxHeartbeats 3200000 in
theorem equalV_c : ∀ (f : Nat) (a b : VT) (w : World) (hf : SizeOf.sizeOf a < f) (hA : a.In w (· < w.heap.size)) (hB : b.In w (· < w.heap.size)),
    Calls Tryd.prog 20 #[a.val, b.val] w (EqPost (VT.eqv f a b) w) := by
  intro f
  induction f with
  | zero => intro a b w hf; omega
  | succ f ih =>
    intro a b w hf hA hB
    rw [VT.val_eq, VT.val_eq, VT.eqv_chain]
    have HE1 : Hid (∀ W, Bel w W → Calls Tryd.prog 37 #[.slice a.A a.xs.length a.c, .slice b.A b.xs.length b.c, .func (.func 20) #[] #[]] W (EqPost (decide (a.xs.length = b.xs.length) && allB (fun i => VT.eqv f (a.item i) (b.item i)) a.xs.length) W)) :=
      Lib.hid (fun W hb => eqItems_c a b _ W (hA.bel hb) (hB.bel hb) (fun i h1 h2 W' hb' => ih _ _ W' (by have := VT.item_size h1; omega) ((hA.item h1).bel (hb.trans hb')) ((hB.item h2).bel (hb.trans hb'))))
    have HE2 : Hid (∀ W, Bel w W → Calls Tryd.prog 38 #[.slice a.F a.vs.length a.d, .slice b.F b.vs.length b.d, .func (.func 39) #[] #[]] W (EqPost (decide (a.vs.length = b.vs.length) && allB (fun i => decide (a.key i = b.key i) && VT.eqv f (a.value i) (b.value i)) a.vs.length) W)) :=
      Lib.hid (fun W hb => eqFields_c a b _ W (hA.bel hb) (hB.bel hb) (fun i h1 h2 W' hb' => equalFields_c _ _ _ _ _ W' (fun W2 hb2 => ih _ _ W2 (by have := VT.value_size h1; omega) ((hA.value h1).bel (hb.trans (hb'.trans hb2))) ((hB.value h2).bel (hb.trans (hb'.trans hb2))))))
    generalize (decide (a.xs.length = b.xs.length) && allB (fun i => VT.eqv f (a.item i) (b.item i)) a.xs.length) = E1 at *
    generalize (decide (a.vs.length = b.vs.length) && allB (fun i => decide (a.key i = b.key i) && VT.eqv f (a.value i) (b.value i)) a.vs.length) = E2 at *
    clear ih hA hB hf
    generalize a.k = ak
    generalize a.s = sa
    generalize a.n = an
    generalize a.b = ab
    generalize b.k = bk
    generalize b.s = bs
    generalize b.n = bn
    generalize b.b = bb
    by_cases q1 : ak = bk
    · subst q1
      by_cases q2 : sa = bs
      · subst q2
        by_cases q3 : an = bn
        · subst q3
          by_cases q4 : ab = bb
          · subst q4
            simp only [decide_true, Bool.true_and]
            have HB2 : Hid (Bel w ((w.alloc (.cells #[.int .i64 ak, .string sa, .int .i64 an, .bool ab, .slice a.A a.xs.length a.c, .slice a.F a.vs.length a.d] 34)).alloc (.cells #[.int .i64 ak, .string sa, .int .i64 an, .bool ab, .slice b.A b.xs.length b.c, .slice b.F b.vs.length b.d] 34))) := Lib.hid ((Bel.alloc _ _).trans (Bel.alloc _ _))
            have HBX := Lib.hid (blk2 w 34 [.int .i64 ak, .string sa, .int .i64 an, .bool ab, .slice a.A a.xs.length a.c, .slice a.F a.vs.length a.d] [.int .i64 ak, .string sa, .int .i64 an, .bool ab, .slice b.A b.xs.length b.c, .slice b.F b.vs.length b.d])
            have hs := str_eq (rfl : sa = sa)
            cases E1 with
            | false =>
              rw [Bool.false_and]
              go_enter Tryd.func20, Tryd.ntmps20
              go_wp2_with (go_at_call 37; refine (HE1.out _ HB2.out).mono ?_; rintro e w1 ⟨rfl, hb1⟩; have HB3 := Lib.hid (HB2.out.trans hb1); clear hb1)
              go_ret
              exact ⟨rfl, HB3.out⟩
            | true =>
              rw [Bool.true_and]
              go_enter Tryd.func20, Tryd.ntmps20
              go_wp2_with (first | (go_at_call 37; refine (HE1.out _ HB2.out).mono ?_; rintro e w1 ⟨rfl, hb1⟩; have HB3 := Lib.hid (HB2.out.trans hb1); have HX := HBX.out.1.below hb1 HBX.out.1.lt; have HY := HBX.out.2.below hb1 HBX.out.2.lt; have x5 := HX.cell 5; have y5 := HY.cell 5; clear hb1 HX HY) | (go_at_call 38; refine (HE2.out _ HB3.out).mono ?_; rintro e w2 ⟨rfl, hb1⟩; have HB4 := Lib.hid (HB3.out.trans hb1); clear hb1))
              go_ret
              exact ⟨rfl, HB4.out⟩
          · rw [decide_eq_false q4]
            have hs := str_eq (rfl : sa = sa)
            simp only [decide_true, Bool.true_and, Bool.and_false, Bool.false_and]
            go_enter Tryd.func20, Tryd.ntmps20
            go_wp2_with fail
            go_ret
            exact ⟨rfl, (Bel.alloc _ _).trans (Bel.alloc _ _)⟩
        · rw [decide_eq_false q3]
          have hs := str_eq (rfl : sa = sa)
          simp only [decide_true, Bool.true_and, Bool.and_false, Bool.false_and]
          go_enter Tryd.func20, Tryd.ntmps20
          go_wp2_with fail
          go_ret
          exact ⟨rfl, (Bel.alloc _ _).trans (Bel.alloc _ _)⟩
      · rw [decide_eq_false q2]
        have hs := str_ne q2
        clear q2
        simp only [decide_true, Bool.true_and, Bool.and_false, Bool.false_and]
        go_enter Tryd.func20, Tryd.ntmps20
        go_wp2_with fail
        go_ret
        exact ⟨rfl, (Bel.alloc _ _).trans (Bel.alloc _ _)⟩
    · rw [decide_eq_false q1]
      simp only [decide_true, Bool.true_and, Bool.and_false, Bool.false_and]
      go_enter Tryd.func20, Tryd.ntmps20
      go_wp2_with fail
      go_ret
      exact ⟨rfl, (Bel.alloc _ _).trans (Bel.alloc _ _)⟩
end Go.Proofs.YtmgnomahnndeaaaDoor
