/-
  Contracts: value.Equal, slices.EqualFunc over it, equalFields.
-/
import Derived.Test.YtmgnomahnndeaaaDoorRefEq
namespace Go.Proofs.YtmgnomahnndeaaaDoor
open Go.RowKit Go.BigFrame
set_option linter.unusedVariables false
set_option linter.unusedSimpArgs false

/-- All of the first n, or not. -/
def allB (g : Nat → Bool) (n : Nat) : Bool := (List.range n).all g
theorem allB_bad {g : Nat → Bool} {n k : Nat} (hk : k < n) (h : g k = false) : allB g n = false := by
  rw [Bool.eq_false_iff]
  intro he
  have := List.all_eq_true.1 he k (List.mem_range.2 hk)
  rw [h] at this
  cases this
theorem allB_good {g : Nat → Bool} {n : Nat} (h : ∀ i, i < n → g i = true) : allB g n = true := List.all_eq_true.2 fun i hi => h i (List.mem_range.1 hi)

set_option maxRecDepth 100000 in
set_option maxHeartbeats 3200000 in
theorem eqItems_c (a b : VT) (g : Nat → Bool) (w : World) (hA : a.In w (· < w.heap.size)) (hB : b.In w (· < w.heap.size))
    (hg : ∀ i, i < a.xs.length → i < b.xs.length → ∀ W, Bel w W → Calls Tryd.prog 20 #[.agg #[.int .i64 (a.item i).k, .string (a.item i).s, .int .i64 (a.item i).n, .bool (a.item i).b, .slice (a.item i).A (a.item i).xs.length (a.item i).c, .slice (a.item i).F (a.item i).vs.length (a.item i).d], .agg #[.int .i64 (b.item i).k, .string (b.item i).s, .int .i64 (b.item i).n, .bool (b.item i).b, .slice (b.item i).A (b.item i).xs.length (b.item i).c, .slice (b.item i).F (b.item i).vs.length (b.item i).d]] W (EqPost (g i) W)) :
    Calls Tryd.prog 37 #[.slice a.A a.xs.length a.c, .slice b.A b.xs.length b.c, .func (.func 20) #[] #[]] w (EqPost (decide (a.xs.length = b.xs.length) && allB g a.xs.length) w) := by
  obtain ⟨hx1, hx2⟩ := hA.lens
  obtain ⟨_, _, _, hc1, hc2, hd1, hd2, _⟩ := hA.bounds
  obtain ⟨hy1, hy2⟩ := hB.lens
  obtain ⟨_, _, _, hc3, hc4, hd3, hd4, _⟩ := hB.bounds
  have HI := Lib.hid hA
  have HJ := Lib.hid hB
  have HG := Lib.hid hg
  clear hA hB hg
  by_cases hn : a.xs.length = b.xs.length
  · obtain ⟨n, hna⟩ : ∃ n, n = a.xs.length := ⟨_, rfl⟩
    have hnb : n = b.xs.length := hna.trans hn
    rw [decide_eq_true hn, Bool.true_and]
    rw [← hna] at hx1 hc1 ⊢
    rw [← hnb] at hy1 hc3 ⊢
    have HN := Lib.hid (And.intro hna hnb)
    clear hn hna hnb
    go_enter Tryd.func37, Tryd.ntmps37
    go_wp2_with fail
    go_loopw [17] (fun s17 wr => ∃ k : Nat, k ≤ n ∧ s17 = .int .i64 k ∧ Hid (Bel w wr) ∧ Hid (∀ i, i < k → g i = true)) (fun s17 _ => n - (intOf s17).toNat)
    case atStart => exact ⟨0, Nat.zero_le _, rfl, Lib.hid (Bel.refl _), Lib.hid (fun i hi => absurd hi (Nat.not_lt_zero _))⟩
    case round =>
      obtain ⟨k, hk, rfl, HB, HALL⟩ := hrel
      by_cases hlt : k < n
      · have hka : k < a.xs.length := by have := HN.out.1; omega
        have hkb : k < b.xs.length := by have := HN.out.2; omega
        obtain ⟨ga, oa, hAA, cg, hca⟩ := HI.out.items (by omega)
        obtain ⟨gb, ob, hAB, dg, hcb⟩ := HJ.out.items (by omega)
        obtain ⟨c0, c1, c2, c3, c4, c5⟩ := VT.Cells.bel (hca k hka) cg HB.out
        obtain ⟨d0, d1, d2, d3, d4, d5⟩ := VT.Cells.bel (hcb k hkb) dg HB.out
        have hgb : gb < wr.heap.size := Nat.lt_of_lt_of_le dg HB.out.size
        have HCALL := Lib.hid (HG.out k hka hkb)
        have HBAD : Hid (g k = false → allB g n = false) := Lib.hid (fun h => allB_bad hlt h)
        have HSTEP : Hid (g k = true → ∀ i, i < k + 1 → g i = true) := Lib.hid fun h i hi => by
          by_cases e : i = k
          · subst e; exact h
          · exact HALL.out i (by omega)
        rw [hAA, hAB]
        clear hca hcb hka hkb hAA hAB
        generalize a.item k = x at *
        generalize b.item k = y at *
        have HX := Lib.hid (Blk.new wr 34 [.int .i64 x.k, .string x.s, .int .i64 x.n, .bool x.b, .slice x.A x.xs.length x.c, .slice x.F x.vs.length x.d])
        have HY := Lib.hid (Blk.new (wr.alloc (.cells #[.int .i64 x.k, .string x.s, .int .i64 x.n, .bool x.b, .slice x.A x.xs.length x.c, .slice x.F x.vs.length x.d] 34)) 34 [.int .i64 y.k, .string y.s, .int .i64 y.n, .bool y.b, .slice y.A y.xs.length y.c, .slice y.F y.vs.length y.d])
        have HB2 : Hid (Bel w ((wr.alloc (.cells #[.int .i64 x.k, .string x.s, .int .i64 x.n, .bool x.b, .slice x.A x.xs.length x.c, .slice x.F x.vs.length x.d] 34)).alloc (.cells #[.int .i64 y.k, .string y.s, .int .i64 y.n, .bool y.b, .slice y.A y.xs.length y.c, .slice y.F y.vs.length y.d] 34))) := Lib.hid (HB.out.trans ((Bel.alloc _ _).trans (Bel.alloc _ _)))
        cases hv : g k with
        | false =>
          have HR := Lib.hid (HBAD.out hv)
          rw [hv] at HCALL
          clear hv
          go_wp2_with (go_at_call 20; refine (HCALL.out _ HB2.out).mono ?_; rintro e w1 ⟨rfl, hb1⟩; have HB3 := Lib.hid (HB2.out.trans hb1); clear hb1)
          go_ret
          exact ⟨ret_bool HR.out.symm, HB3.out⟩
        | true =>
          have HS := Lib.hid (HSTEP.out hv)
          rw [hv] at HCALL
          clear hv
          go_wp2_with (go_at_call 20; refine (HCALL.out _ HB2.out).mono ?_; rintro e w1 ⟨rfl, hb1⟩; have HB3 := Lib.hid (HB2.out.trans hb1); clear hb1)
          go_roundw
          case rel => exact ⟨k + 1, by omega, by go_num, HB3, HS⟩
          case measure => simp [intOf]; omega
      · obtain rfl : n = k := by omega
        have HR := Lib.hid (allB_good HALL.out)
        go_wp2_with fail
        go_ret
        exact ⟨ret_bool HR.out.symm, HB.out⟩
  · rw [decide_eq_false hn, Bool.false_and]
    have hn2 : ¬ (a.xs.length : Int) = b.xs.length := by omega
    have hn3 : ((a.xs.length : Int) != b.xs.length) = true := by simpa using hn2
    clear hn
    go_enter Tryd.func37, Tryd.ntmps37
    go_wp2_with fail
    go_ret
    exact ⟨rfl, Bel.refl _⟩

set_option maxRecDepth 100000 in
set_option maxHeartbeats 3200000 in
theorem eqFields_c (a b : VT) (g : Nat → Bool) (w : World) (hA : a.In w (· < w.heap.size)) (hB : b.In w (· < w.heap.size))
    (hg : ∀ i, i < a.vs.length → i < b.vs.length → ∀ W, Bel w W → Calls Tryd.prog 39 #[.agg #[.string (a.key i), .int .i64 (a.value i).k, .string (a.value i).s, .int .i64 (a.value i).n, .bool (a.value i).b, .slice (a.value i).A (a.value i).xs.length (a.value i).c, .slice (a.value i).F (a.value i).vs.length (a.value i).d], .agg #[.string (b.key i), .int .i64 (b.value i).k, .string (b.value i).s, .int .i64 (b.value i).n, .bool (b.value i).b, .slice (b.value i).A (b.value i).xs.length (b.value i).c, .slice (b.value i).F (b.value i).vs.length (b.value i).d]] W (EqPost (g i) W)) :
    Calls Tryd.prog 38 #[.slice a.F a.vs.length a.d, .slice b.F b.vs.length b.d, .func (.func 39) #[] #[]] w (EqPost (decide (a.vs.length = b.vs.length) && allB g a.vs.length) w) := by
  obtain ⟨hx1, hx2⟩ := hA.lens
  obtain ⟨_, _, _, hc1, hc2, hd1, hd2, _⟩ := hA.bounds
  obtain ⟨hy1, hy2⟩ := hB.lens
  obtain ⟨_, _, _, hc3, hc4, hd3, hd4, _⟩ := hB.bounds
  have HI := Lib.hid hA
  have HJ := Lib.hid hB
  have HG := Lib.hid hg
  clear hA hB hg
  by_cases hn : a.vs.length = b.vs.length
  · obtain ⟨n, hna⟩ : ∃ n, n = a.vs.length := ⟨_, rfl⟩
    have hnb : n = b.vs.length := hna.trans hn
    rw [decide_eq_true hn, Bool.true_and]
    rw [← hna] at hx2 hd1 ⊢
    rw [← hnb] at hy2 hd3 ⊢
    have HN := Lib.hid (And.intro hna hnb)
    clear hn hna hnb
    go_enter Tryd.func38, Tryd.ntmps38
    go_wp2_with fail
    go_loopw [17] (fun s17 wr => ∃ k : Nat, k ≤ n ∧ s17 = .int .i64 k ∧ Hid (Bel w wr) ∧ Hid (∀ i, i < k → g i = true)) (fun s17 _ => n - (intOf s17).toNat)
    case atStart => exact ⟨0, Nat.zero_le _, rfl, Lib.hid (Bel.refl _), Lib.hid (fun i hi => absurd hi (Nat.not_lt_zero _))⟩
    case round =>
      obtain ⟨k, hk, rfl, HB, HALL⟩ := hrel
      by_cases hlt : k < n
      · have hka : k < a.vs.length := by have := HN.out.1; omega
        have hkb : k < b.vs.length := by have := HN.out.2; omega
        obtain ⟨ga, oa, hAA, cg, hca⟩ := HI.out.fields (by omega)
        obtain ⟨gb, ob, hAB, dg, hcb⟩ := HJ.out.fields (by omega)
        obtain ⟨c0, c1, c2, c3, c4, c5⟩ := VT.Cells.bel (hca k hka).2 cg HB.out
        obtain ⟨d0, d1, d2, d3, d4, d5⟩ := VT.Cells.bel (hcb k hkb).2 dg HB.out
        have c6 := (HB.out.cell cg).trans (hca k hka).1
        have d6 := (HB.out.cell dg).trans (hcb k hkb).1
        have hgb : gb < wr.heap.size := Nat.lt_of_lt_of_le dg HB.out.size
        have HCALL := Lib.hid (HG.out k hka hkb)
        have HBAD : Hid (g k = false → allB g n = false) := Lib.hid (fun h => allB_bad hlt h)
        have HSTEP : Hid (g k = true → ∀ i, i < k + 1 → g i = true) := Lib.hid fun h i hi => by
          by_cases e : i = k
          · subst e; exact h
          · exact HALL.out i (by omega)
        rw [hAA, hAB]
        clear hca hcb hka hkb hAA hAB
        generalize a.value k = x at *
        generalize b.value k = y at *
        generalize a.key k = kx at *
        generalize b.key k = ky at *
        have HX := Lib.hid (Blk.new wr 57 [.string kx, .int .i64 x.k, .string x.s, .int .i64 x.n, .bool x.b, .slice x.A x.xs.length x.c, .slice x.F x.vs.length x.d])
        have HY := Lib.hid (Blk.new (wr.alloc (.cells #[.string kx, .int .i64 x.k, .string x.s, .int .i64 x.n, .bool x.b, .slice x.A x.xs.length x.c, .slice x.F x.vs.length x.d] 57)) 57 [.string ky, .int .i64 y.k, .string y.s, .int .i64 y.n, .bool y.b, .slice y.A y.xs.length y.c, .slice y.F y.vs.length y.d])
        have HB2 : Hid (Bel w ((wr.alloc (.cells #[.string kx, .int .i64 x.k, .string x.s, .int .i64 x.n, .bool x.b, .slice x.A x.xs.length x.c, .slice x.F x.vs.length x.d] 57)).alloc (.cells #[.string ky, .int .i64 y.k, .string y.s, .int .i64 y.n, .bool y.b, .slice y.A y.xs.length y.c, .slice y.F y.vs.length y.d] 57))) := Lib.hid (HB.out.trans ((Bel.alloc _ _).trans (Bel.alloc _ _)))
        cases hv : g k with
        | false =>
          have HR := Lib.hid (HBAD.out hv)
          rw [hv] at HCALL
          clear hv
          go_wp2_with (go_at_call 39; refine (HCALL.out _ HB2.out).mono ?_; rintro e w1 ⟨rfl, hb1⟩; have HB3 := Lib.hid (HB2.out.trans hb1); clear hb1)
          go_ret
          exact ⟨ret_bool HR.out.symm, HB3.out⟩
        | true =>
          have HS := Lib.hid (HSTEP.out hv)
          rw [hv] at HCALL
          clear hv
          go_wp2_with (go_at_call 39; refine (HCALL.out _ HB2.out).mono ?_; rintro e w1 ⟨rfl, hb1⟩; have HB3 := Lib.hid (HB2.out.trans hb1); clear hb1)
          go_roundw
          case rel => exact ⟨k + 1, by omega, by go_num, HB3, HS⟩
          case measure => simp [intOf]; omega
      · obtain rfl : n = k := by omega
        have HR := Lib.hid (allB_good HALL.out)
        go_wp2_with fail
        go_ret
        exact ⟨ret_bool HR.out.symm, HB.out⟩
  · rw [decide_eq_false hn, Bool.false_and]
    have hn2 : ¬ (a.vs.length : Int) = b.vs.length := by omega
    have hn3 : ((a.vs.length : Int) != b.vs.length) = true := by simpa using hn2
    clear hn
    go_enter Tryd.func38, Tryd.ntmps38
    go_wp2_with fail
    go_ret
    exact ⟨rfl, Bel.refl _⟩

set_option maxRecDepth 100000 in
set_option maxHeartbeats 3200000 in
theorem equalFields_c (kx ky : ByteArray) (x y : VT) (r : Bool) (w : World) (hr : ∀ W, Bel w W → Calls Tryd.prog 20 #[.agg #[.int .i64 x.k, .string x.s, .int .i64 x.n, .bool x.b, .slice x.A x.xs.length x.c, .slice x.F x.vs.length x.d], .agg #[.int .i64 y.k, .string y.s, .int .i64 y.n, .bool y.b, .slice y.A y.xs.length y.c, .slice y.F y.vs.length y.d]] W (EqPost r W)) :
    Calls Tryd.prog 39 #[.agg #[.string kx, .int .i64 x.k, .string x.s, .int .i64 x.n, .bool x.b, .slice x.A x.xs.length x.c, .slice x.F x.vs.length x.d], .agg #[.string ky, .int .i64 y.k, .string y.s, .int .i64 y.n, .bool y.b, .slice y.A y.xs.length y.c, .slice y.F y.vs.length y.d]] w (EqPost (decide (kx = ky) && r) w) := by
  have HR := Lib.hid hr
  clear hr
  have HW0 : Hid (Bel w ((w.alloc (.cells #[.string kx, .int .i64 x.k, .string x.s, .int .i64 x.n, .bool x.b, .slice x.A x.xs.length x.c, .slice x.F x.vs.length x.d] 57)).alloc (.cells #[.string ky, .int .i64 y.k, .string y.s, .int .i64 y.n, .bool y.b, .slice y.A y.xs.length y.c, .slice y.F y.vs.length y.d] 57))) := Lib.hid ((Bel.alloc _ _).trans (Bel.alloc _ _))
  by_cases hk : kx = ky
  · have hs := str_eq hk
    rw [decide_eq_true hk, Bool.true_and]
    clear hk
    go_enter Tryd.func39, Tryd.ntmps39
    go_wp2_with (go_at_call 20; refine (HR.out _ HW0.out).mono ?_; rintro e w1 ⟨rfl, hb1⟩; have HB3 := Lib.hid (HW0.out.trans hb1); clear hb1)
    go_ret
    exact ⟨rfl, HB3.out⟩
  · have hs := str_ne hk
    rw [decide_eq_false hk, Bool.false_and]
    clear hk
    go_enter Tryd.func39, Tryd.ntmps39
    go_wp2_with fail
    go_ret
    exact ⟨rfl, HW0.out⟩
end Go.Proofs.YtmgnomahnndeaaaDoor
