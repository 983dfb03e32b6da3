/-
  The program of layer 16: After and Infer.
  slices.Equal of instructions.
  The program of layer 17: node and list by induction.
  The program of layer 17: a part of the code (the main nodes, or the Body of a definition).
  The program of layer 17: Code, its exits with an error; its state while the definitions follow.
-/
import Derived.Test.YtpcapmdfjmpdiaaGreatDoorZPf17
import Derived.Test.YtpcapmdfjmpdiaaGreatDoorZPure12
import Derived.Test.YtpcapmdfjmpdiaaGreatDoorZPc17
import Derived.Test.YtpcapmdfjmpdiaaGreatDoorZPb17
import Derived.Test.YtpcapmdfjmpdiaaGreatDoorZPk14
namespace Go.Proofs.YtpcapmdfjmpdiaaGreatDoor
open Go.RowKit Go.BigFrame NT
set_option linter.unusedVariables false
set_option linter.unusedSimpArgs false
set_option maxRecDepth 100000

theorem Bel.trans_below {w w1 w2 : World} (h : Bel w w1) (h2 : Below w.heap.size w1 w2) : Bel w w2 := Below.trans h h2
theorem an_new (w w1 : World) (h : w.heap.size ≤ w1.heap.size) : An w.heap.size w1.heap.size (w1.alloc (.cells #[.slice none 0 0] 72)) none 0 0 [] :=
  ⟨Blk.new w1 72 [.slice none 0 0], rfl, RowAt.nil _ _, h, by simp [rowT]⟩
set_option maxHeartbeats 6400000 in
theorem infer_c {l : List NT} {X : Option Addr} {c0 : Nat} {w : World} (hX : Row w (Lt w) X c0 l) (ht : tots l ≤ 100000) :
    Calls Tryz.prog 17 #[.slice X l.length c0] w (InP (inferI l) w) := by
  have HA := Lib.hid (an_new w w (Nat.le_refl _))
  have HB := Lib.hid (Bel.alloc w (.cells #[.slice none 0 0] 72))
  have HC := Lib.hid (show Calls Tryz.prog 31 #[.pointer (some ⟨w.heap.size, 0, none⟩), .agg #[.int .i64 0, .string ⟨#[]⟩, .string ⟨#[]⟩, .string ⟨#[]⟩], .slice X l.length c0] (w.alloc (.cells #[.slice none 0 0] 72)) (PP (listI (s0 0) l) [] w.heap.size w.heap.size (w.alloc (.cells #[.slice none 0 0] 72)) none) from plist_c hX w.heap.size (s0 0) Inv.init _ none 0 0 [] HB.out HA.out (by omega))
  have hln := hX.len
  have hgp := st_guard
  unfold inferI
  cases hr : listI (s0 0) l with
  | no a k =>
    rw [hr] at HC
    have he := listI_err hr
    have hk0 : (k : Int) ≠ 0 := by omega
    have hk1 : ((k : Int) != 0) = true := bne_iff_ne.2 hk0
    clear hr he hX ht
    go_enter Tryz.func17, Tryz.ntmps17
    go_wp2_with (go_at_call 31; ((with_reducible refine (HC.out).mono ?_); rintro e w2 ⟨t, a', k', A', n', c', es, rfl, hE, hQ⟩; obtain ⟨ht, rfl, rfl, hne⟩ := hQ.out; have HB2 := Lib.hid ((show Bel w w2 from HB.out.trans_below (hE.out.below HA.out)).trans (Bel.alloc w2 (.cells #[.int .i64 (t.c : Nat), .string (ofL t.n), .string (ofL t.a), .string (ofL t.p)] 74))); clear hE hQ hne ht))
    go_ret3
    exact InP.nil rfl HB2.out
  | ok s1 es1 =>
    rw [hr] at HC
    dsimp only
    cases hq : eqH s1 (s0 0) with
    | true =>
      have hcmp : ∀ W, (binOp .neq 74 (.agg #[.int .i64 (s1.c : Nat), .string (ofL s1.n), .string (ofL s1.a), .string (ofL s1.p)]) (.agg #[.int .i64 0, .string ⟨#[]⟩, .string ⟨#[]⟩, .string ⟨#[]⟩])).run Tryz.prog W = .ok (.bool false) W := fun W => by have h := pst_neq s1 (s0 0) W; rw [hq] at h; exact h
      clear hq hr hX ht
      rw [if_pos rfl]
      go_enter Tryz.func17, Tryz.ntmps17
      go_wp2_with (go_at_call 31; ((with_reducible refine (HC.out).mono ?_); rintro e w2 ⟨t, a', k', A', n', c', es, rfl, hE, hQ⟩; obtain ⟨rfl, rfl, rfl, hes⟩ := hQ.out; have HB2 := Lib.hid ((show Bel w w2 from HB.out.trans_below (hE.out.below HA.out)).trans (Bel.alloc w2 (.cells #[.int .i64 (t.c : Nat), .string (ofL t.n), .string (ofL t.a), .string (ofL t.p)] 74))); have HE2 := Lib.hid (hE.out.an.bel (Bel.alloc w2 (.cells #[.int .i64 (t.c : Nat), .string (ofL t.n), .string (ofL t.a), .string (ofL t.p)] 74))); rw [List.nil_append] at hes; subst hes; have d0 := HE2.out.blk.cell 0; clear hE hQ))
      go_ret3
      exact ⟨HB2.out, A', n', c', rfl, Lib.hid ⟨HE2.out.len, HE2.out.row, HE2.out.low⟩⟩
    | false =>
      have hcmp : ∀ W, (binOp .neq 74 (.agg #[.int .i64 (s1.c : Nat), .string (ofL s1.n), .string (ofL s1.a), .string (ofL s1.p)]) (.agg #[.int .i64 0, .string ⟨#[]⟩, .string ⟨#[]⟩, .string ⟨#[]⟩])).run Tryz.prog W = .ok (.bool true) W := fun W => by have h := pst_neq s1 (s0 0) W; rw [hq] at h; exact h
      have hne : l ≠ [] := by
        rintro rfl
        rw [listI_nil] at hr
        injection hr with h1 h2
        rw [← h1, eqH_self] at hq
        cases hq
      obtain ⟨x, hx, hxa⟩ := last_of hne
      obtain ⟨n, hn⟩ : ∃ n, n = l.length := ⟨_, rfl⟩
      have hn1 : 0 < n := by rw [hn]; exact List.length_pos_iff.2 hne
      obtain ⟨j, hj⟩ : ∃ j, j = l.length - 1 := ⟨_, rfl⟩
      rw [← hj] at hx
      obtain ⟨g, o, rfl, hg, ha⟩ := hX.cells hx
      rw [hxa, if_neg (by decide)]
      rw [← hn] at hj hln HC ⊢
      have hi1 : IntKind.i64.wrap ((n : Int) - 1) = (j : Int) := (IntWalk.i64_in _ (by omega)).trans (by omega)
      have hi2 : (n : Int) - 1 = (j : Int) := by omega
      have hi3 : j < n := by omega
      have HAA := Lib.hid ha
      clear hq hr hX ht hx hxa hn hne ha hj
      go_enter Tryz.func17, Tryz.ntmps17
      go_wp2_with (go_at_call 31; ((with_reducible refine (HC.out).mono ?_); rintro e w2 ⟨t, a', k', A', n', c', es, rfl, hE, hQ⟩; obtain ⟨rfl, rfl, rfl, hes⟩ := hQ.out; have HB2 := Lib.hid ((show Bel w w2 from HB.out.trans_below (hE.out.below HA.out)).trans (Bel.alloc w2 (.cells #[.int .i64 (t.c : Nat), .string (ofL t.n), .string (ofL t.a), .string (ofL t.p)] 74))); clear hE hQ hes))
      refine region_begin (T := []) (by kernel_rfl) ?_
      have HBd := Lib.hid (HB2.out.trans (Bel.drew _))
      generalize (World.alloc w2 _).drew = W at HBd ⊢
      have b1 := fun X : Later [] W => (HAA.out X.w (HBd.out.trans (bel_of_only X.h))).2.1
      refine region_seg [true, true, true, true, true, true, true, true, true, true] 0 (by kernel_rfl) (by kernel_rfl) (by kernel_rfl) rfl (fun _ _ d _ _ h => by cases d <;> exact h) ?_
      repeat (first | with_reducible refine wpMask_pass ?_ | (refine wpMask_want (by rfl) (fun K hK => ?_); go_big_quiet_op; refine hK _ ?_; clear hK K))
      with_reducible refine wpMask_nil ?_
      refine region_end (by kernel_rfl) ?_
      go_wp2_with fail
      go_ret3
      exact InP.nil rfl HBd.out
end Go.Proofs.YtpcapmdfjmpdiaaGreatDoor

namespace Go.Proofs.YtpcapmdfjmpdiaaGreatDoor
open Go.RowKit Go.BigFrame NT
set_option linter.unusedVariables false
set_option linter.unusedSimpArgs false
set_option maxRecDepth 100000

instance : DecidableEq XI := fun x y => by
  cases x; cases y
  simp only [XI.mk.injEq]
  infer_instance
theorem ins_neq (x y : XI) (w : World) : (binOp .neq 31 (.agg #[.int .i64 x.o, .string x.s, .string x.p, .bool x.h, .int .i64 x.e, .int .i64 x.t]) (.agg #[.int .i64 y.o, .string y.s, .string y.p, .bool y.h, .int .i64 y.e, .int .i64 y.t])).run Tryz.prog w = .ok (.bool (!decide (x = y))) w := by
  have u3 := Tryz.underlying3
  have a3 := Tryz.isAgg3
  have z3 := Tryz.sizeOf3
  have u9 := Tryz.underlying9
  have a9 := Tryz.isAgg9
  have z9 := Tryz.sizeOf9
  have u4 := Tryz.underlying4
  have a4 := Tryz.isAgg4
  have z4 := Tryz.sizeOf4
  have hS : Tryz.prog.underlying 31 = some (.struct (Tryz.prog.fieldsOf 31)) := by kernel_rfl
  have hp : Tryz.prog.stoodInHeld 31 = false := by kernel_rfl
  rw [run_neq_struct, show (10000 : Nat) = 9999 + 1 from rfl, run_equalIn_agg w 9999 31 _ _ hS hp]
  simp only [Program.fieldsOf, Tryz.underlying31]
  go_simp
  obtain ⟨xo, xs, xp, xh, xe, xt⟩ := x
  obtain ⟨yo, ys, yp, yh, ye, yt⟩ := y
  simp only [XI.mk.injEq, toL_beq17]
  have hl : ∀ a b : ByteArray, (a.toList = b.toList) = (a = b) := fun a b => by
    have h := toL_beq17 a b
    rw [Bool.eq_iff_iff, beq_iff_eq, decide_eq_true_iff] at h
    exact propext h
  simp only [hl]
  by_cases h1 : xo = yo <;> by_cases h2 : xs = ys <;> by_cases h3 : xp = yp <;> by_cases h4 : xh = yh <;> by_cases h5 : xe = ye <;> by_cases h6 : xt = yt <;> simp [h1, h2, h3, h4, h5, h6]
theorem list_ext_of17 {α : Type} {l m : List α} (hlen : l.length = m.length) (h : ∀ (i : Nat) (x y : α), l[i]? = some x → m[i]? = some y → x = y) : l = m := by
  apply List.ext_getElem?
  intro i
  by_cases hi : i < l.length
  · rw [List.getElem?_eq_getElem hi, List.getElem?_eq_getElem (by omega)]
    rw [h i _ _ (List.getElem?_eq_getElem hi) (List.getElem?_eq_getElem (by omega))]
  · rw [List.getElem?_eq_none (by omega), List.getElem?_eq_none (by omega)]
set_option maxHeartbeats 3200000 in
theorem insEqual_c {w : World} {A B : Option Addr} {c d : Nat} {l m : List XI} (hA : Xr w A c l) (hB : Xr w B d m) (hl : l.length ≤ 1000000000) (hm : m.length ≤ 1000000000) :
    Calls Tryz.prog 12 #[.slice A l.length c, .slice B m.length d] w fun e w' => e = .returned (.bool (decide (l = m))) ∧ Bel w w' := by
  obtain ⟨R, hR⟩ : ∃ R, R = decide (l = m) := ⟨_, rfl⟩
  rw [← hR]
  obtain ⟨n, hn⟩ : ∃ n, n = l.length := ⟨_, rfl⟩
  obtain ⟨k, hk⟩ : ∃ k, k = m.length := ⟨_, rfl⟩
  rw [← hn] at hl ⊢
  rw [← hk] at hm ⊢
  have HN := Lib.hid hn
  have HK := Lib.hid hk
  have HA := Lib.hid hA
  have HB := Lib.hid hB
  have HR := Lib.hid hR
  have hcmp := ins_neq
  clear hA hB hn hk hR
  by_cases hnk : n = k
  · subst hnk
    go_enter Tryz.func12, Tryz.ntmps12
    go_wp2_with fail
    go_loopw [13] (fun s13 wr => ∃ i : Nat, i ≤ n ∧ s13 = .int .i64 i ∧ Hid (∀ j x y, j < i → l[j]? = some x → m[j]? = some y → x = y) ∧ Hid (Bel w wr)) (fun s13 _ => n - (intOf s13).toNat)
    case atStart => exact ⟨0, Nat.zero_le _, rfl, Lib.hid (fun j x y hj => by omega), Lib.hid (Bel.refl _)⟩
    case round =>
      obtain ⟨i, hin, rfl, HS, HW⟩ := hrel
      by_cases hlt : i < n
      · have hx := List.getElem?_eq_getElem (l := l) (i := i) (by have := HN.out; omega)
        generalize l[i]'(by have := HN.out; omega) = x at hx
        have hy := List.getElem?_eq_getElem (l := m) (i := i) (by have := HK.out; omega)
        generalize m[i]'(by have := HK.out; omega) = y at hy
        obtain ⟨g1, o1, rfl, hc1⟩ := HA.out.2 i x hx
        obtain ⟨g2, o2, rfl, hc2⟩ := HB.out.2 i y hy
        have HX := Lib.hid hx
        have HY := Lib.hid hy
        have HC1 := Lib.hid hc1
        have HC2 := Lib.hid hc2
        have HWd := Lib.hid (HW.out.trans (Bel.drew16 wr))
        clear hx hy hc1 hc2
        go_wp2_with fail
        refine region_begin (T := []) (by kernel_rfl) ?_
        have a0 := fun X : Later [] wr.drew => HC1.out X.w (HWd.out.trans (bel_of_only X.h)) 0 _ rfl
        have a1 := fun X : Later [] wr.drew => HC1.out X.w (HWd.out.trans (bel_of_only X.h)) 1 _ rfl
        have a2 := fun X : Later [] wr.drew => HC1.out X.w (HWd.out.trans (bel_of_only X.h)) 2 _ rfl
        have a3 := fun X : Later [] wr.drew => HC1.out X.w (HWd.out.trans (bel_of_only X.h)) 3 _ rfl
        have a4 := fun X : Later [] wr.drew => HC1.out X.w (HWd.out.trans (bel_of_only X.h)) 4 _ rfl
        have a5 := fun X : Later [] wr.drew => HC1.out X.w (HWd.out.trans (bel_of_only X.h)) 5 _ rfl
        have b0 := fun X : Later [] wr.drew => HC2.out X.w (HWd.out.trans (bel_of_only X.h)) 0 _ rfl
        have b1 := fun X : Later [] wr.drew => HC2.out X.w (HWd.out.trans (bel_of_only X.h)) 1 _ rfl
        have b2 := fun X : Later [] wr.drew => HC2.out X.w (HWd.out.trans (bel_of_only X.h)) 2 _ rfl
        have b3 := fun X : Later [] wr.drew => HC2.out X.w (HWd.out.trans (bel_of_only X.h)) 3 _ rfl
        have b4 := fun X : Later [] wr.drew => HC2.out X.w (HWd.out.trans (bel_of_only X.h)) 4 _ rfl
        have b5 := fun X : Later [] wr.drew => HC2.out X.w (HWd.out.trans (bel_of_only X.h)) 5 _ rfl
        simp only [Nat.add_zero] at a0 b0
        refine region_seg [true, true, true, true, true, true, true, true, true] 0 (by kernel_rfl) (by kernel_rfl) (by kernel_rfl) rfl (fun _ _ d _ _ h => by cases d <;> exact h) ?_
        repeat (first | with_reducible refine wpMask_pass ?_ | (refine wpMask_want (by rfl) (fun K hK => ?_); go_big_quiet_op; refine hK _ ?_; clear hK K))
        with_reducible refine wpMask_nil ?_
        refine region_end (by kernel_rfl) ?_
        clear a0 a1 a2 a3 a4 a5 b0 b1 b2 b3 b4 b5
        obtain ⟨bq, hbq⟩ : ∃ bq, bq = !decide (x = y) := ⟨_, rfl⟩
        rw [← hbq]
        have HBQ := Lib.hid hbq
        clear hbq hcmp
        cases bq with
        | false =>
          have HXY : Hid (x = y) := Lib.hid (by have h := HBQ.out; simpa using h)
          go_wp2_with fail
          go_roundw
          case rel =>
            refine ⟨i + 1, by omega, by go_num, Lib.hid (fun j z u hj hz hu => ?_), HWd⟩
            by_cases hji : j = i
            · subst hji
              rw [HX.out] at hz
              rw [HY.out] at hu
              injection hz with hz
              injection hu with hu
              subst hz hu
              exact HXY.out
            · exact HS.out j z u (by omega) hz hu
          case measure => simp [intOf]; omega
        | true =>
          have HXY : Hid (¬ x = y) := Lib.hid (by have h := HBQ.out; simpa using h)
          have hR0 : R = false := by
            rw [HR.out]
            refine decide_eq_false (fun e => HXY.out ?_)
            have h1 := HX.out
            rw [e, HY.out] at h1
            injection h1 with h1
            exact h1.symm
          subst hR0
          go_wp2_with fail
          go_ret
          exact ⟨rfl, HWd.out⟩
      · obtain rfl : i = n := by omega
        have hR1 : R = true := by
          rw [HR.out]
          exact decide_eq_true (list_ext_of17 (by rw [← HN.out, ← HK.out]) (fun j x y hx hy => HS.out j x y (by have := (List.getElem?_eq_some_iff.1 hx).1; have := HN.out; omega) hx hy))
        subst hR1
        go_wp2_with fail
        go_ret
        exact ⟨rfl, HW.out⟩
  · have hne : ¬ (n : Int) = (k : Int) := by omega
    have hR0 : R = false := by
      rw [HR.out]
      exact decide_eq_false (fun e => hnk (by rw [HN.out, HK.out, e]))
    subst hR0
    clear hnk
    go_enter Tryz.func12, Tryz.ntmps12
    go_wp2_with fail
    go_ret
    exact ⟨rfl, Bel.refl _⟩
theorem insEqual_n {w : World} {A B : Option Addr} {c d n k : Nat} {l m : List XI} (hA : Xr w A c l) (hB : Xr w B d m) (hn : l.length = n) (hk : m.length = k) (hl : n ≤ 1000000000) (hm : k ≤ 1000000000) :
    Calls Tryz.prog 12 #[.slice A n c, .slice B k d] w fun e w' => e = .returned (.bool (decide (l = m))) ∧ Bel w w' := by
  subst hn hk
  exact insEqual_c hA hB hl hm
end Go.Proofs.YtpcapmdfjmpdiaaGreatDoor

namespace Go.Proofs.YtpcapmdfjmpdiaaGreatDoor
open Go.RowKit Go.BigFrame NT
set_option linter.unusedVariables false
set_option linter.unusedSimpArgs false
set_option maxRecDepth 100000

section
variable {Q : Nat → Prop} {rr : Nat} {w : World} {v : AV}
set_option maxHeartbeats 3200000 in
theorem pn_if (x : NT) (hk : x.k = 2) {code : CE} {ks : List CK} (h : As Q rr w v) (hc : Calls Tryz.prog 109 #[.pointer (some ⟨rr, 0, none⟩), nV17 x] (wN w x) (NdP Q rr (wN w x) v code ks)) :
    Calls Tryz.prog 92 #[.pointer (some ⟨rr, 0, none⟩), nV17 x] w (NdP Q rr w v code ks) := by
  have k0 : (x.k == 0) = false := by rw [hk]; rfl
  have k1 : (x.k == 1) = false := by rw [hk]; rfl
  have k2 : (x.k == 2) = true := by rw [hk]; rfl
  obtain ⟨x0, x1, x2, x3, x4, x5, x6, x7⟩ := node_cells (show Blk (wN w x) w.heap.size 69 x.cs from Blk.new w 69 x.cs)
  have HC := Lib.hid hc
  have HE := Lib.hid (ev_n h x)
  clear h hk hc
  go_enter Tryz.func92, Tryz.ntmps92
  go_wp2_with (go_at_call 109; ((with_reducible refine HC.out.mono ?_); rintro e w2 ⟨rfl, v', hE, hS⟩))
  go_end0
  exact asP_then HE.out rfl ⟨rfl, v', hE, hS⟩
set_option maxHeartbeats 3200000 in
theorem pn_range (x : NT) (hk : x.k = 3) {code : CE} {ks : List CK} (h : As Q rr w v) (hc : Calls Tryz.prog 110 #[.pointer (some ⟨rr, 0, none⟩), nV17 x] (wN w x) (NdP Q rr (wN w x) v code ks)) :
    Calls Tryz.prog 92 #[.pointer (some ⟨rr, 0, none⟩), nV17 x] w (NdP Q rr w v code ks) := by
  have k0 : (x.k == 0) = false := by rw [hk]; rfl
  have k1 : (x.k == 1) = false := by rw [hk]; rfl
  have k2 : (x.k == 2) = false := by rw [hk]; rfl
  have k3 : (x.k == 3) = true := by rw [hk]; rfl
  obtain ⟨x0, x1, x2, x3, x4, x5, x6, x7⟩ := node_cells (show Blk (wN w x) w.heap.size 69 x.cs from Blk.new w 69 x.cs)
  have HC := Lib.hid hc
  have HE := Lib.hid (ev_n h x)
  clear h hk hc
  go_enter Tryz.func92, Tryz.ntmps92
  go_wp2_with (go_at_call 110; ((with_reducible refine HC.out.mono ?_); rintro e w2 ⟨rfl, v', hE, hS⟩))
  go_end0
  exact asP_then HE.out rfl ⟨rfl, v', hE, hS⟩
end
/-- node does so, in whatever world. -/
def PM17 (x : NT) : Prop := ∀ (Q : Nat → Prop) (rr : Nat) (w : World) (v : AV) (n : Bool), Wk n x → As Q rr w v → x.In w Q → x.prn ≤ v.es.length → v.L.length + x.siz ≤ 90000 → v.ks.length + x.siz ≤ 90000 → PnC Q rr w v x
section
variable {Q : Nat → Prop} {rr : Nat} {w : World} {v : AV}
set_option maxHeartbeats 6400000 in
theorem plist17_row (l : List NT) (ih : ∀ x ∈ l, PM17 x) (hw : ∀ x, x ∈ l → ∃ n, Wk n x) (X : Option Addr) (c0 : Nat) (h : As Q rr w v) (hX : Row w Q X c0 l) (hm : prns l ≤ v.es.length) (hle : v.L.length + sizs l ≤ 90000) (hkl : v.ks.length + sizs l ≤ 90000) : PlC Q rr w v X c0 l := by
  unfold PlC
  obtain ⟨n, hn⟩ : ∃ n, n = l.length := ⟨_, rfl⟩
  have hn5 := hX.len
  rw [← hn] at hn5 ⊢
  have HX := Lib.hid hX
  have HI := Lib.hid ih
  have HW := Lib.hid hw
  have HN := Lib.hid hn
  have HA := Lib.hid h
  have HM := Lib.hid hm
  have HLE := Lib.hid hle
  have HKL := Lib.hid hkl
  have HST := Lib.hid (Ev17.refl h)
  clear hX ih hw hn h hm hle hkl
  go_enter Tryz.func66, Tryz.ntmps66
  go_wp2_with fail
  go_loopw [8] (fun s8 wr => ∃ (i : Nat) (v' : AV), i ≤ n ∧ s8 = .int .i64 i ∧ Hid (Ev17 Q rr w v wr v') ∧ Hid (St17 v' (v.L ++ (listC Z0 v.L.length v.es (l.take i)).1) (listC Z0 v.L.length v.es (l.take i)).2 (v.ks ++ listK v.L.length (l.take i)) v.M)) (fun s8 _ => n - (intOf s8).toNat)
  case atStart => exact ⟨0, v, Nat.zero_le _, rfl, HST, Lib.hid ⟨by rw [List.take_zero, listC_nil, List.append_nil], by rw [List.take_zero, listC_nil], by rw [List.take_zero, listK_nil, List.append_nil], rfl⟩⟩
  case round =>
    obtain ⟨i, v', hin, rfl, HE, HS⟩ := hrel
    by_cases hlt : i < n
    · have hxt := List.getElem?_eq_getElem (l := l) (i := i) (by have := HN.out; omega)
      generalize l[i]'(by have := HN.out; omega) = x at hxt
      have hxm := List.mem_of_getElem? hxt
      obtain ⟨g0, o, hAA, hg, hc, hxin⟩ := HX.out.at_ hxt
      subst hAA
      obtain ⟨m, hwk⟩ := HW.out x hxm
      have hs1 := sizs_take hxt
      have hp1 := prns_take hxt
      have hs2 := sizs_take_le l (i + 1)
      have hp2 := prns_take_le l (i + 1)
      have hok := listC_ok Z0 (l.take i) v.L.length v.es
      have hkl := listK_len (l.take i) v.L.length
      have hls : v'.L.length = v.L.length + sizs (l.take i) := by rw [HS.out.L, List.length_append, hok.len]
      have HC := Lib.hid (HI.out x hxm Q rr (wN wr x) v' m hwk (as_n HE.out.st x) ((HE.out.in_ HA.out hxin).same (fun _ h => h) (fun g p hg => Below.cell (p := ⟨g, p, none⟩) (Bel.alloc wr _) (HE.out.st.fr g hg).1))
        (by rw [HS.out.es, hok.es, List.length_drop]; have := HM.out; omega) (by rw [hls]; have := HLE.out; omega) (by rw [HS.out.ks, List.length_append]; have := HKL.out; omega))
      unfold PnC at HC
      have HT1 := Lib.hid (listC_take (ad := Z0) hxt v.L.length v.es)
      have HT2 := Lib.hid (listK_take hxt v.L.length)
      have HEN := Lib.hid (HE.out.bel (Bel.alloc wr (.cells #[.int .i64 x.k, .int .i64 x.a, .string x.s, .string x.p, .bool x.h, .bool x.e, .slice x.A x.b.length x.c, .slice x.B x.l.length x.d] 69)))
      have HLS := Lib.hid hls
      have HOK := Lib.hid hok.len
      obtain ⟨b0, b1, b2, b3, b4, b5, b6, b7⟩ := (hc.same (w' := wr) fun p => HE.out.q HA.out g0 p hg).all
      clear hxt hxm hg hc hxin hwk hs1 hp1 hs2 hp2 hok hkl hls
      go_wp2_with (go_at_call 92; ((with_reducible refine HC.out.mono ?_); rintro e w2 ⟨rfl, v2, hE2, hS2⟩))
      go_roundw
      case rel =>
        refine ⟨i + 1, v2, by omega, by go_num, Lib.hid (HEN.out.trans hE2.out), Lib.hid ⟨?_, ?_, ?_, ?_⟩⟩
        · rw [hS2.out.L, HT1.out, HLS.out, HS.out.es, HS.out.L, List.append_assoc, ← HOK.out]
          rfl
        · rw [hS2.out.es, HT1.out, HLS.out, HS.out.es, ← HOK.out]
          rfl
        · rw [hS2.out.ks, HT2.out, HLS.out, HS.out.ks, List.append_assoc]
        · rw [hS2.out.M, HS.out.M]
      case measure => simp [intOf]; omega
    · obtain rfl : i = n := by omega
      have HF : Hid (St17 v' (v.L ++ (listC Z0 v.L.length v.es l).1) (listC Z0 v.L.length v.es l).2 (v.ks ++ listK v.L.length l) v.M) := by have h := HS; rwa [HN.out, List.take_length] at h
      go_wp2_with fail
      go_end0
      exact ⟨rfl, v', HE, HF⟩
end
theorem pnode17_all (x : NT) : PM17 x := by
  refine NT.ind (M := PM17) (fun t h1 h2 => ?_) x
  intro Q rr w v n hw h hx hp hs hk
  have hbw : ∀ y, y ∈ t.b → ∃ m, Wk m y := fun y hy => ⟨true, hw.body y hy⟩
  have hlw : ∀ y, y ∈ t.l → ∃ m, Wk m y := fun y hy => ⟨true, hw.els y hy⟩
  obtain ⟨f1, f2, f3, f4, f5, f6⟩ := hw.facts
  have HA := as_n h t
  have hxn : t.In (wN w t) Q := hx.same (fun _ h => h) (fun g p hg => Below.cell (p := ⟨g, p, none⟩) (Bel.alloc w _) (h.fr g hg).1)
  have HB : PlM Q rr (wN w t) v t.A t.c t.b := fun W v' hE a b c => plist17_row t.b h1 hbw t.A t.c hE.st (hE.row HA hxn.body) a b c
  have HL : PlM Q rr (wN w t) v t.B t.d t.l := fun W v' hE a b c => plist17_row t.l h2 hlw t.B t.d hE.st (hE.row HA hxn.els) a b c
  have hsz := siz_eq t
  have hpr := prn_eq t
  have hk6 : t.k = 0 ∨ t.k = 1 ∨ t.k = 2 ∨ t.k = 3 ∨ t.k = 4 ∨ t.k = 5 ∨ t.k = 6 := by omega
  rcases hk6 with g | g | g | g | g | g | g
  · rw [g] at hsz
    simp at hsz
    exact pn_text t h g (by omega)
  · rw [g] at hsz hpr
    simp at hsz hpr
    exact pn_print t h g (by omega) (by omega)
  · rw [g] at hsz hpr
    simp at hsz hpr
    unfold PnC
    rw [nodeC_eq, if_neg (by omega), if_neg (by omega), if_pos g, nodeK_eq, if_pos g]
    cases he : t.e with
    | true =>
      rw [he] at hsz hpr
      simp at hsz hpr
      rw [if_pos rfl]
      exact pn_if t g h (branches_else t HA he (by omega) (by omega) (by omega) HB HL)
    | false =>
      rw [he] at hsz hpr
      simp at hsz hpr
      rw [if_neg (by decide), List.append_nil]
      exact pn_if t g h (branches_no t HA he (f4 he) (by omega) (by omega) (by omega) HB HL)
  · rw [g] at hsz hpr
    simp at hsz hpr
    unfold PnC
    rw [nodeC_eq, if_neg (by omega), if_neg (by omega), if_neg (by omega), if_pos g, nodeK_eq, if_neg (by omega), if_pos g]
    exact pn_range t g h (loop_c t HA (by omega) (by omega) (by omega) HB)
  · rw [g] at hsz
    simp at hsz
    exact pn_call t h g (by omega) (by omega)
  · rw [g] at hsz
    simp at hsz
    exact pn_flush t h g (by omega)
  · exact pn_other t h (by omega)
theorem plist17_c {Q : Nat → Prop} {rr : Nat} {w : World} {v : AV} {l : List NT} {X : Option Addr} {c0 : Nat} (h : As Q rr w v) (hX : Row w Q X c0 l) (hw : ∀ x, x ∈ l → ∃ n, Wk n x) (hm : prns l ≤ v.es.length) (hle : v.L.length + sizs l ≤ 90000) (hkl : v.ks.length + sizs l ≤ 90000) : PlC Q rr w v X c0 l :=
  plist17_row l (fun x _ => pnode17_all x) hw X c0 h hX hm hle hkl
end Go.Proofs.YtpcapmdfjmpdiaaGreatDoor

namespace Go.Proofs.YtpcapmdfjmpdiaaGreatDoor
open Go.RowKit Go.BigFrame NT
set_option linter.unusedVariables false
set_option linter.unusedSimpArgs false
set_option maxRecDepth 100000

/-- Other escapers. -/
theorem As.esc {Q : Nat → Prop} {rr : Nat} {w : World} {v : AV} (h : As Q rr w v) {A : Option Addr} {n c : Nat} {es : List Nat} (hn : n = es.length) (hE : RowAt w 3 A n c (vin es)) :
    Ev17 Q rr w v (w.setCell ⟨rr, 1, none⟩ (.slice A n c)) { v with E := A, ce := c, es := es } := by
  subst hn
  have hO : Only [rr] w (w.setCell ⟨rr, 1, none⟩ (.slice A es.length c)) := (Only.refl _ _).setCell (.inl (by simp)) _
  refine ⟨⟨h.blk.set_ 1 (.slice A es.length c), ?_, ?_, ?_, fun g hg => ⟨by have := hO.size; have := (h.fr g hg).1; omega, (h.fr g hg).2⟩⟩, hO.more (fun k hk => by rw [List.mem_singleton] at hk; simp [hk]), fun k hk => .inl hk, fun k hk => .inl hk⟩
  · exact h.code.only hO (fun k hk hm => by rw [List.mem_singleton] at hm; subst hm; exact h.ne_ra hk)
  · exact hE.only hO (fun k hk hm => by
      rw [List.mem_singleton] at hm
      subst hm
      exact hE.ne_blk h.blk (by decide) hk)
  · exact h.calls.only hO (fun k hk hm => by rw [List.mem_singleton] at hm; subst hm; exact h.ne_rk hk)
section
variable {Q : Nat → Prop} {rr : Nat} {w : World} {v : AV}
set_option maxHeartbeats 6400000 in
theorem part_c {l : List NT} {X : Option Addr} {c0 : Nat} (op : Nat) (h : As Q rr w v) (hX : Row w Q X c0 l) (hw : ∀ x, x ∈ l → ∃ n, Wk n x) (ht : tots l ≤ 100000) {es : List Nat} (hi : inferI l = (es, 0, 0)) (hm : prns l ≤ es.length) (hle : v.L.length + sizs l ≤ 80000) (hkl : v.ks.length + sizs l ≤ 80000) :
    Calls Tryz.prog 40 #[.pointer (some ⟨rr, 0, none⟩), .slice X l.length c0, .int .i64 (op : Nat)] w
      (AsP Q rr w v (.tuple #[]) (v.L ++ ((listC Z0 v.L.length es l).1 ++ [⟨op, eB, eB, false, 0, 0⟩])) (listC Z0 v.L.length es l).2 (v.ks ++ listK v.L.length l)) := by
  obtain ⟨n, hn⟩ : ∃ n, n = l.length := ⟨_, rfl⟩
  have hn5 := hX.len
  have HIN := Lib.hid (infer_c (hX.same (Q' := Lt w) (fun g hg => (h.fr g hg).1) (fun _ _ _ => rfl)) ht)
  have HX := Lib.hid hX
  have HLI := Lib.hid (fun (W : World) (v' : AV) (h' : As Q rr W v') (hr : Row W Q X c0 l) => plist17_c h' hr hw)
  have HAD := Lib.hid (fun W v' (h' : As Q rr W v') (hle' : v'.L.length + 1 ≤ 100000) => show Calls Tryz.prog 67 #[.pointer (some ⟨rr, 0, none⟩), .agg #[.int .i64 (op : Nat), .string ⟨#[]⟩, .string ⟨#[]⟩, .bool false, .int .i64 0, .int .i64 0]] W (AsP Q rr W v' (.int .i64 (v'.L.length : Nat)) (v'.L ++ [⟨op, eB, eB, false, 0, 0⟩]) v'.es v'.ks) from add_c h' ⟨op, eB, eB, false, 0, 0⟩ hle')
  have HA := Lib.hid h
  have HOK := Lib.hid (listC_ok Z0 l v.L.length es)
  have HM := Lib.hid hm
  have HLE := Lib.hid hle
  have HKL := Lib.hid hkl
  rw [hi] at HIN
  unfold PlC at HLI
  rw [← hn] at hn5 HIN HLI ⊢
  clear h hX hw ht hi hm hle hkl hn
  go_enter Tryz.func40, Tryz.ntmps40
  go_wp2_with (first
    | (go_at_call 17; ((with_reducible refine HIN.out.mono ?_); rintro e w2 ⟨hb, A2, n2, c2, rfl, hE⟩; have HA2 := Lib.hid (HA.out.bel hb); have HE2 := Lib.hid ((Ev17.refl HA.out).bel hb); have HT2 := Lib.hid (HA2.out.esc hE.out.1 hE.out.2.1); have HE3 := Lib.hid (HE2.out.trans HT2.out); have g1 := HA2.out.blk.cell 1; have f1 := HA2.out.blk.free 1; clear hb hE))
    | (go_at_call 66; ((with_reducible refine (HLI.out _ _ HE3.out.st (HE3.out.row HA.out HX.out) HM.out (by have := HLE.out; show v.L.length + _ ≤ _; omega) (by have := HKL.out; show v.ks.length + _ ≤ _; omega)).mono ?_); rintro e w4 ⟨rfl, v4, hE4, hS4⟩; have HE4 := Lib.hid (HE3.out.trans hE4.out); have hl4 : v4.L.length ≤ 80000 := (by rw [hS4.out.L, List.length_append]; show v.L.length + (listC Z0 v.L.length es l).1.length ≤ _; rw [HOK.out.len]; exact HLE.out)))
    | (go_at_call 67; ((with_reducible refine (HAD.out w4 v4 hE4.out.st (by omega)).mono ?_); rintro e w5 ⟨rfl, v5, hE5, hS5⟩)))
  go_end0
  refine ⟨rfl, v5, Lib.hid (HE4.out.trans hE5.out), Lib.hid ⟨?_, ?_, ?_, ?_⟩⟩
  · rw [hS5.out.L, hS4.out.L, List.append_assoc]
  · rw [hS5.out.es, hS4.out.es]
  · rw [hS5.out.ks, hS4.out.ks]
  · rw [hS5.out.M, hS4.out.M]
end
end Go.Proofs.YtpcapmdfjmpdiaaGreatDoor

namespace Go.Proofs.YtpcapmdfjmpdiaaGreatDoor
open Go.RowKit Go.BigFrame NT
set_option linter.unusedVariables false
set_option linter.unusedSimpArgs false
set_option maxRecDepth 100000

abbrev PcC (l : List NT) (A : Option Addr) (c : Nat) (w : World) : Prop := Calls Tryz.prog 21 #[.slice A l.length c] w (CdP (codeN l) w)
set_option maxHeartbeats 6400000 in
theorem pcode_check {l : List NT} {A : Option Addr} {c : Nat} {w : World} (hA : Row w (Lt w) A c l) (ht : tots l ≤ 5000) (hk : (checkN l).2 ≠ 0) : PcC l A c w := by
  have HCK := Lib.hid (dcheckK_c hA ht)
  have hR : codeN l = ([], checkN l) := by unfold codeN; rw [if_pos hk]
  unfold PcC
  rw [hR]
  generalize checkN l = R at hk HCK
  obtain ⟨a, k⟩ := R
  dsimp only at hk HCK
  have hk1 : ((k : Int) != 0) = true := bne_iff_ne.2 (by omega)
  clear hA ht hR hk
  go_enter Tryz.func21, Tryz.ntmps21
  go_wp2_with (go_at_call 16; ((with_reducible refine (HCK.out).mono ?_); rintro e w2 ⟨hb, rfl⟩; have HB := Lib.hid hb; clear hb))
  go_ret3
  exact CdP.nil rfl HB.out
set_option maxHeartbeats 6400000 in
theorem pcode_infer {l : List NT} {A : Option Addr} {c : Nat} {w : World} (hA : Row w (Lt w) A c l) (ht : tots l ≤ 5000) (hk0 : (checkN l).2 = 0) (hk : (inferI l).2.2 ≠ 0) : PcC l A c w := by
  have HCK := Lib.hid (dcheckK_c hA ht)
  have HA := Lib.hid hA
  have HI := Lib.hid (fun (W : World) (h : Row W (Lt W) A c l) => infer_c h (by omega))
  have hR : codeN l = ([], (inferI l).2) := by unfold codeN; rw [if_neg (by simpa using hk0), if_pos hk]
  unfold PcC
  rw [hR]
  generalize checkN l = R at hk0 HCK
  generalize inferI l = I at hk HI
  obtain ⟨a, k⟩ := R
  obtain ⟨es, b, m⟩ := I
  dsimp only at hk0 hk HCK HI
  subst hk0
  have hk1 : ((m : Int) != 0) = true := bne_iff_ne.2 (by omega)
  clear hA ht hR hk
  go_enter Tryz.func21, Tryz.ntmps21
  go_wp2_with (first
    | (go_at_call 16; ((with_reducible refine (HCK.out).mono ?_); rintro e w2 ⟨hb, rfl⟩; have HB := Lib.hid hb; clear hb))
    | (go_at_call 17; ((with_reducible refine (HI.out _ (HA.out.bel HB.out)).mono ?_); rintro e w3 ⟨hb, A3, n3, c3, rfl, hE⟩; have HB3 := Lib.hid (HB.out.trans hb); clear hb hE)))
  go_ret3
  exact CdP.nil rfl HB3.out
/-! ### While the definitions follow -/
theorem SMap.not_blk {w : World} {M n : Nat} {f : ByteArray → Option Value} (h : SMap w M n f) {g : Nat} {t : TypeId} {cs : List Value} (hB : Blk w g t cs) : M ≠ g := by
  rintro rfl
  obtain ⟨D, h1, _⟩ := h
  obtain ⟨es, clock, e, _⟩ := h1
  unfold Blk at hB
  rw [hB] at e
  cases e
theorem As.ne_map {Q : Nat → Prop} {rr : Nat} {w : World} {v : AV} (h : As Q rr w v) {M n : Nat} {f : ByteArray → Option Value} (hM : SMap w M n f) : M ∉ v.T rr ∧ M ∉ rowT v.E := by
  refine ⟨?_, fun hk => ?_⟩
  · rw [List.mem_cons, List.mem_append, not_or, not_or]
    refine ⟨hM.not_blk h.blk, fun hk => ?_, fun hk => ?_⟩
    · obtain ⟨ad, ha, hg⟩ := mem_rowT.1 hk
      obtain ⟨g', o, cur, rfl, hb, _⟩ := RowK.some_ h.code ad ha
      exact hM.not_blk hb hg.symm
    · obtain ⟨ad, ha, hg⟩ := mem_rowT.1 hk
      obtain ⟨g', o, cur, rfl, hb, _⟩ := RowK.some_ h.calls ad ha
      exact hM.not_blk hb hg.symm
  · obtain ⟨ad, ha, hg⟩ := mem_rowT.1 hk
    obtain ⟨g', o, cur, rfl, hb, _⟩ := h.escs.some_ ad ha
    exact hM.not_blk hb hg.symm
theorem As.far {Q : Nat → Prop} {rr : Nat} {w w' : World} {v : AV} (h : As Q rr w v) {M : Nat} (hO : Only [M] w w') (h1 : M ∉ v.T rr) (h2 : M ∉ rowT v.E) : As Q rr w' v := by
  have ne : ∀ k, k ∈ v.T rr → k ∉ [M] := fun k hk hm => by rw [List.mem_singleton] at hm; subst hm; exact h1 hk
  exact ⟨h.blk.only hO (ne rr (by simp)), h.code.only hO (fun k hk => ne k (by simp [hk])), h.escs.only hO (fun k hk hm => by rw [List.mem_singleton] at hm; subst hm; exact h2 hk), h.calls.only hO (fun k hk => ne k (by simp [hk])), fun g hg => ⟨by have := hO.size; have := (h.fr g hg).1; omega, (h.fr g hg).2⟩⟩
theorem As.weaken {Q Q2 : Nat → Prop} {rr : Nat} {w : World} {v : AV} (h : As Q rr w v) (hq : ∀ g, Q2 g → Q g) : As Q2 rr w v := ⟨h.blk, h.code, h.escs, h.calls, fun g hg => h.fr g (hq g hg)⟩
/-- The state. -/
structure CgS (w : World) (rr M : Nat) (wr : World) (v : AV) (k : Nat) (f : ByteArray → Option Value) (L : List IN) (ks : List CK) : Prop where
  st : As (Lt w) rr wr v
  bel : Bel w wr
  lo : w.heap.size ≤ rr
  loM : w.heap.size ≤ M
  vM : v.M = M
  lowA : ∀ q, q ∈ rowT v.A → w.heap.size ≤ q
  lowK : ∀ q, q ∈ rowT v.K → w.heap.size ≤ q
  map : SMap wr M k f
  L : v.L = L
  ks : v.ks = ks
section
variable {w : World} {rr M : Nat} {wr : World} {v : AV} {k : Nat} {f : ByteArray → Option Value} {L : List IN} {ks : List CK}
theorem CgS.later (h : CgS w rr M wr v k f L ks) {w2 : World} (hb : Bel wr w2) : CgS w rr M w2 v k f L ks := ⟨h.st.bel hb, h.bel.trans hb, h.lo, h.loM, h.vM, h.lowA, h.lowK, h.map.bel hb, h.L, h.ks⟩
theorem CgS.low (h : CgS w rr M wr v k f L ks) : ∀ q, q ∈ v.T rr → w.heap.size ≤ q := fun q hq => by
  rcases List.mem_cons.1 hq with rfl | hq
  · exact h.lo
  · rcases List.mem_append.1 hq with hq | hq
    · exact h.lowA q hq
    · exact h.lowK q hq
theorem CgS.call (h : CgS w rr M wr v k f L ks) {w2 : World} {v2 : AV} (hE : Ev17 (Lt w) rr wr v w2 v2) {L2 : List IN} {es2 : List Nat} {ks2 : List CK} (hS : St17 v2 L2 es2 ks2 v.M) : CgS w rr M w2 v2 k f L2 ks2 :=
  ⟨hE.st, bel_of_only ((bel_only h.bel).join hE.only (fun q hq => .inr (h.low q hq))), h.lo, h.loM, hS.M.trans h.vM, fun q hq => by
    rcases hE.subA q hq with g | g
    · exact h.lowA q g
    · exact Nat.le_trans h.bel.size g, fun q hq => by
    rcases hE.subK q hq with g | g
    · exact h.lowK q g
    · exact Nat.le_trans h.bel.size g, h.map.only hE.only (h.st.ne_map h.map).1, hS.L, hS.ks⟩
theorem CgS.store (h : CgS w rr M wr v k f L ks) {w2 : World} {k2 : Nat} {f2 : ByteArray → Option Value} (hg : wr.grownBy w2 (some M)) (hM : SMap w2 M k2 f2) : CgS w rr M w2 v k2 f2 L ks := by
  have hO : Only [M] wr w2 := (Only.refl _ _).grown hg (fun q hq => by cases hq; exact .inl (by simp))
  obtain ⟨h1, h2⟩ := h.st.ne_map h.map
  exact ⟨h.st.far hO h1 h2, bel_of_only ((bel_only h.bel).join hO (fun q hq => by rw [List.mem_singleton] at hq; subst hq; exact .inr h.loM)), h.lo, h.loM, h.vM, h.lowA, h.lowK, hM, h.L, h.ks⟩
theorem CgS.grow (h : CgS w rr M wr v k f L ks) {k2 : Nat} (hk : k ≤ k2) : CgS w rr M wr v k2 f L ks := ⟨h.st, h.bel, h.lo, h.loM, h.vM, h.lowA, h.lowK, h.map.mono hk, h.L, h.ks⟩
end
theorem zeroInt17 (w : World) : (zeroValue 3).run Tryz.prog w = .ok (.int .i64 0) w := by kernel_rfl
end Go.Proofs.YtpcapmdfjmpdiaaGreatDoor
