/-
  The law DefinesChain, walked.
-/
import Derived.Test.YtkipmaoeejdncaaDoorLm14
import Derived.Test.YtkipmaoeejdncaaDoorRegion2
namespace Go.Proofs.YtkipmaoeejdncaaDoor
open Go.RowKit Go.BigFrame NT
set_option linter.unusedVariables false
set_option linter.unusedSimpArgs false

theorem pfL_len : ∀ (n j : Nat), (pfL j n).length ≤ 33 * n
  | 0, j => by simp [pfL]
  | n + 1, j => by
    have h7 : enL.length = 7 := rfl
    have := pfL_len n j
    have h1 : (callL (j + n + 1)).length ≤ 12 := by rw [callL_len, nm_len]; split <;> omega
    have h2 : (defL (j + n)).length ≤ 14 := by rw [defL_len, nm_len]; split <;> omega
    rw [pfL, List.length_append, List.length_append, List.length_append, h7]
    omega
theorem cat_pf (i : Nat) (h : i < 20) : ((ofL (pfL 10 i) ++ ((⟨#[123, 123, 100, 101, 102, 105, 110, 101, 32, 102]⟩ ++ decB (10 + i)) ++ ⟨#[125, 125]⟩)) ++ ((⟨#[123, 123, 99, 97, 108, 108, 32, 102]⟩ ++ decB (11 + i)) ++ ⟨#[125, 125]⟩)) ++ ⟨#[123, 123, 101, 110, 100, 125, 125]⟩ = ofL (pfL 10 (i + 1)) := by
  apply toL_inj
  simp only [toL_add14, toL_ofL, pfL, defL, callL]
  rw [nm_dec (i := 10 + i) (by omega), nm_dec (i := 10 + i + 1) (by omega), show 11 + i = 10 + i + 1 by omega]
  show ((pfL 10 i ++ (([123, 123, 100, 101, 102, 105, 110, 101, 32, 102] ++ Lib.decDigits (10 + i)) ++ [125, 125])) ++ (([123, 123, 99, 97, 108, 108, 32, 102] ++ Lib.decDigits (10 + i + 1)) ++ [125, 125])) ++ [123, 123, 101, 110, 100, 125, 125] = _
  simp [enL]
theorem cat_ch (q : Nat) (h : q < 20) : (ofL (pfL 10 q) ++ ((⟨#[123, 123, 100, 101, 102, 105, 110, 101, 32, 102]⟩ ++ decB (10 + q)) ++ ⟨#[125, 125]⟩)) ++ ⟨#[123, 123, 101, 110, 100, 125, 125]⟩ = ofL (chL 10 (q + 1)) := by
  apply toL_inj
  rw [chL_pf]
  simp only [toL_add14, toL_ofL, defL]
  rw [nm_dec (i := 10 + q) (by omega)]
  show (pfL 10 q ++ (([123, 123, 100, 101, 102, 105, 110, 101, 32, 102] ++ Lib.decDigits (10 + q)) ++ [125, 125])) ++ [123, 123, 101, 110, 100, 125, 125] = _
  simp [enL]
theorem cat_all (k : Nat) : ofL (chL 10 k) ++ ⟨#[123, 123, 99, 97, 108, 108, 32, 102, 49, 48, 125, 125]⟩ = ofL (chL 10 k ++ callL 10) := by
  apply toL_inj
  simp only [toL_add14, toL_ofL]
  rfl
theorem cat_last (k j : Nat) (h : j < 70) : ((ofL (chL 10 k) ++ ⟨#[123, 123, 105, 102, 32, 46, 97, 125, 125, 123, 123, 99, 97, 108, 108, 32, 102]⟩) ++ decB j) ++ ⟨#[125, 125, 123, 123, 101, 110, 100, 125, 125]⟩ = ofL (chL 10 k ++ (ifL ++ (callL j ++ enL))) := by
  apply toL_inj
  simp only [toL_add14, toL_ofL, callL]
  rw [nm_dec h]
  show ((chL 10 k ++ [123, 123, 105, 102, 32, 46, 97, 125, 125, 123, 123, 99, 97, 108, 108, 32, 102]) ++ Lib.decDigits j) ++ [125, 125, 123, 123, 101, 110, 100, 125, 125] = _
  simp [enL, ifL]
theorem cat_nm (j : Nat) (h : j < 70) : (⟨#[102]⟩ ++ decB j : ByteArray) = ofL (nmB j) := by
  apply toL_inj
  rw [toL_add14, toL_ofL, nm_dec h]
  rfl
/-- What stands after i rounds. -/
def preL (q i : Nat) : List UInt8 := if i ≤ q then pfL 10 i else chL 10 (q + 1)
theorem preL_len {q i : Nat} (h : q < 20) (hi : i ≤ q + 1) : (preL q i).length ≤ 700 := by
  unfold preL
  split
  · have := pfL_len i 10; omega
  · have := chL_len (q + 1) 10; omega
theorem rch_m {m l : List NT} {R : List ByteArray} (h : RchIs m R) (he : ers m = l) : RchIs l R := by rw [← he]; exact h.to_ers
set_option maxRecDepth 100000 in
set_option maxHeartbeats 6400000 in
theorem cnLaw (a : Int) (w : World) (hT : Tabs w) (ha : (Lit.int .u8 a).wf = true) :
    Calls Tryd.prog 4 #[.int .u8 a] w fun e w' => e = .returned (.bool true) ∧ Below w.heap.size w w' := by
  obtain ⟨h0, h1⟩ := u8_range14 ha
  obtain ⟨q, hr⟩ : ∃ r : Nat, (r : Int) = a.tmod 20 := ⟨(a.tmod 20).toNat, by rw [Int.toNat_of_nonneg (Int.tmod_nonneg 20 h0)]⟩
  have hq20 : q < 20 := by have := Int.tmod_lt_of_pos a (b := 20) (by decide); omega
  have e1 : IntKind.i64.wrap a = a := IntWalk.i64_in _ (by omega)
  have e2 : a.tmod 20 = (q : Int) := hr.symm
  have e4 : IntKind.i64.wrap (q : Int) = (q : Int) := IntWalk.i64_in _ (by omega)
  have HAL := Lib.hid (fun W => alive_c W)
  clear ha hr hT h0 h1
  go_enter Tryd.func4, Tryd.ntmps4
  go_wp2_with fail
  go_loopw [4, 14] (fun s4 s14 wr => ∃ i : Nat, i ≤ q + 1 ∧ s14 = .int .i64 i ∧ s4 = .string (ofL (preL q i)) ∧ Hid (Bel w wr)) (fun _ s14 _ => q + 1 - (intOf s14).toNat)
  case atStart => exact ⟨0, Nat.zero_le _, rfl, rfl, Lib.hid (Bel.refl _)⟩
  case round =>
    obtain ⟨i, hi, rfl, rfl, HB⟩ := hrel
    have hpl := preL_len hq20 hi
    by_cases hlt : i < q + 1
    · have e0 : preL q i = pfL 10 i := if_pos (by omega)
      have hsz : (ofL (preL q i)).size = (preL q i).length := rfl
      have hc1 := cat_pf i (by omega)
      have hc2 := cat_ch q hq20
      rw [e0] at hsz hpl ⊢
      have hd1 := decB_size (i := 10 + i) (by omega)
      have hd2 := decB_size (i := 11 + i) (by omega)
      have HI1 : Hid (∀ W, Calls Tryd.prog 5 #[.int .i64 (10 + (i : Int))] W fun e w' => e = .returned (.string (decB (10 + i))) ∧ w' = W) := Lib.hid fun W => by
        have h := itoa14 (10 + i) (by omega) W
        rwa [show ((10 + i : Nat) : Int) = 10 + (i : Int) by omega] at h
      have HI2 : Hid (∀ W, Calls Tryd.prog 5 #[.int .i64 (11 + (i : Int))] W fun e w' => e = .returned (.string (decB (11 + i))) ∧ w' = W) := Lib.hid fun W => by
        have h := itoa14 (11 + i) (by omega) W
        rwa [show ((11 + i : Nat) : Int) = 11 + (i : Int) by omega] at h
      by_cases hq : i < q
      · have e3 : preL q (i + 1) = pfL 10 (i + 1) := if_pos (by omega)
        obtain ⟨x, hx⟩ : ∃ x, x = ofL (pfL 10 i) := ⟨_, rfl⟩
        obtain ⟨y, hy⟩ : ∃ y, y = decB (10 + i) := ⟨_, rfl⟩
        obtain ⟨z, hz⟩ : ∃ z, z = decB (11 + i) := ⟨_, rfl⟩
        rw [← hx, ← hy, ← hz] at hc1
        rw [← hx] at hsz ⊢
        rw [← hy] at hd1 HI1
        rw [← hz] at hd2 HI2
        rw [← e3] at hc1
        have HC := Lib.hid hc1
        have hxs : x.size ≤ 2000 := by omega
        clear hx hy hz hc1 hc2 hsz hpl e0 e3
        go_wp2_with (first
          | (go_at_call 5; ((with_reducible refine (HI1.out _).mono ?_); rintro e w1 ⟨rfl, rfl⟩))
          | (go_at_call 5; ((with_reducible refine (HI2.out _).mono ?_); rintro e w2 ⟨rfl, rfl⟩)))
        go_roundw
        case rel => exact ⟨i + 1, by omega, by go_num, by rw [HC.out], HB⟩
        case measure => simp [intOf]; omega
      · obtain rfl : i = q := by omega
        have e3 : preL i (i + 1) = chL 10 (i + 1) := if_neg (by omega)
        obtain ⟨x, hx⟩ : ∃ x, x = ofL (pfL 10 i) := ⟨_, rfl⟩
        obtain ⟨y, hy⟩ : ∃ y, y = decB (10 + i) := ⟨_, rfl⟩
        rw [← hx, ← hy] at hc2
        rw [← hx] at hsz ⊢
        rw [← hy] at hd1 HI1
        rw [← e3] at hc2
        have HC := Lib.hid hc2
        have hxs : x.size ≤ 2000 := by omega
        clear hx hy hc1 hc2 hsz hpl e0 e3
        go_wp2_with (go_at_call 5; ((with_reducible refine (HI1.out _).mono ?_); rintro e w1 ⟨rfl, rfl⟩))
        go_roundw
        case rel => exact ⟨i + 1, by omega, by go_num, by rw [HC.out], HB⟩
        case measure => simp [intOf]
    · obtain rfl : i = q + 1 := by omega
      obtain ⟨k, hk⟩ : ∃ k, k = q + 1 := ⟨_, rfl⟩
      have hk1 : (1 : Int) + (q : Int) = (k : Int) := by omega
      have hk2 : (q : Int) + 1 = (k : Int) := by omega
      rw [hk1]
      have e0 : preL q (q + 1) = chL 10 (q + 1) := if_neg (by omega)
      have hsz : (ofL (preL q (q + 1))).size = (preL q (q + 1)).length := rfl
      rw [e0] at hsz hpl ⊢
      have hca := cat_all (q + 1)
      have hcl := cat_last (q + 1) (10 + q) (by omega)
      have hcn := cat_nm (10 + q) (by omega)
      have hd1 := decB_size (i := 10 + q) (by omega)
      have HSA := Lib.hid (ch_all (k := q + 1) (by omega))
      have HSL := Lib.hid (ch_last (k := q + 1) (j := 10 + q) (by omega) (by omega))
      have HSN := Lib.hid (ch_src (k := q + 1) (by omega))
      have HPA := Lib.hid (fun W => HSA.out.call W)
      have HPL := Lib.hid (fun W => HSL.out.call W)
      have HPN := Lib.hid (fun W => HSN.out.call W)
      have HI1 : Hid (∀ W, Calls Tryd.prog 5 #[.int .i64 (9 + (k : Int))] W fun e w' => e = .returned (.string (decB (10 + q))) ∧ w' = W) := Lib.hid fun W => by
        have h := itoa14 (10 + q) (by omega) W
        rwa [show ((10 + q : Nat) : Int) = 9 + (k : Int) by omega] at h
      obtain ⟨y, hy⟩ : ∃ y, y = decB (10 + q) := ⟨_, rfl⟩
      obtain ⟨x, hx⟩ : ∃ x, x = ofL (chL 10 (q + 1)) := ⟨_, rfl⟩
      rw [← hx] at hca
      rw [← hx, ← hy] at hcl
      rw [← hy] at hcn hd1 HI1
      rw [← hx] at hsz HPN ⊢
      rw [← hca] at HPA
      rw [← hcl] at HPL
      have HNM := Lib.hid hcn
      have hxs : x.size ≤ 2000 := by omega
      have HL1 := Lib.hid (fun R (h : RchIs (chN 0 10 (q + 1) ++ [mAll (chL 10 (q + 1)).length]) R) => (ch_len (by omega) (by omega) h).trans hk.symm)
      have HL2 := Lib.hid (fun R (h : RchIs (chN 0 10 (q + 1) ++ [mLast (chL 10 (q + 1)).length (10 + q)]) R) => ch_one (by omega) h)
      have HL3 := Lib.hid (fun R (h : RchIs (chN 0 10 (q + 1)) R) => ch_none (by omega) h)
      clear hy hx hca hcl hcn hsz hpl e0 hk hk1
      go_wp2_with (first
        | (go_at_call 7; ((with_reducible refine (HPA.out wr).mono ?_); rintro e w1 hp; obtain ⟨hb, A1, c1, m1, rfl, hr, he⟩ := hp.row; have HB1 := Lib.hid (HB.out.trans hb); have HE1 := Lib.hid he; have HX1 := Lib.hid hr; have HT1 := Lib.hid (tots_of he HSA.out.parsed); clear hp he hr hb))
        | (go_at_call 10; ((with_reducible refine (dreach_c HX1.out HT1.out).mono ?_); rintro e w2 ⟨R1, hR, hb, A2, c2, rfl, _, _, hS⟩; have hl := HL1.out R1 (rch_m hR HE1.out); rw [hl]; have HB2 := Lib.hid (HB1.out.trans hb); have HS2 := Lib.hid hS; have HR2 := Lib.hid hR; have HLN := Lib.hid hl; clear hb hS hR hl))
        | (go_at_call 5; ((with_reducible refine (HI1.out _).mono ?_); rintro e w3 ⟨rfl, rfl⟩))
        | (go_at_call 7; ((with_reducible refine (HPL.out _).mono ?_); rintro e w4 hp; obtain ⟨hb, A4, c4, m4, rfl, hr, he⟩ := hp.row; have HB4 := Lib.hid (HB2.out.trans hb); have HS4 := Lib.hid (HS2.out.bel hb); have HE4 := Lib.hid he; have HX4 := Lib.hid hr; have HT4 := Lib.hid (tots_of he HSL.out.parsed); clear hp he hr hb))
        | (go_at_call 10; ((with_reducible refine (dreach_c HX4.out HT4.out).mono ?_); rintro e w5 ⟨R5, hR, hb, A5, c5, rfl, _, _, hS⟩; have hl := HL2.out R5 (rch_m hR HE4.out); subst hl; have HB5 := Lib.hid (HB4.out.trans hb); have HS5 := Lib.hid (HS4.out.bel hb); have HO5 := Lib.hid hS; clear hb hS hR))
        | (go_at_call 7; ((with_reducible refine (HPN.out w5).mono ?_); rintro e w6 hp; obtain ⟨hb, A6, c6, m6, rfl, hr, he⟩ := hp.row; have HB6 := Lib.hid (HB5.out.trans hb); have HS6 := Lib.hid (HS5.out.bel hb); have HO6 := Lib.hid (HO5.out.bel hb); have HE6 := Lib.hid he; have HX6 := Lib.hid hr; have HT6 := Lib.hid (tots_of he HSN.out.parsed); clear hp he hr hb))
        | (go_at_call 10; ((with_reducible refine (dreach_c HX6.out HT6.out).mono ?_); rintro e w7 ⟨R7, hR, hb, A7, c7, rfl, _, _, hS⟩; have hl := HL3.out R7 (rch_m hR HE6.out); subst hl; have HB7 := Lib.hid (HB6.out.trans hb); have HS7 := Lib.hid (HS6.out.bel hb); have HO7 := Lib.hid (HO6.out.bel hb); clear hb hS hR)))
      rcases HO7.out with hE | ⟨g5, o5, rfl, hg5, hc5⟩
      · cases hE
      clear hg5 hc5
      refine region_begin (T := []) (by kernel_rfl) ?_
      have HBD := Lib.hid (HB7.out.trans (Bel.drew _))
      have HSD := Lib.hid (HS7.out.bel (Bel.drew _))
      have HOD := Lib.hid (HO7.out.bel (Bel.drew _))
      generalize w7.drew = wd at HBD HSD HOD ⊢
      refine region_call 0 (by kernel_rfl) rfl (by rfl) (by go_simp; exact ⟨rfl, rfl⟩) ?_
      refine (HAL.out _).mono ?_; rintro e w8 ⟨rfl, hb⟩; refine ⟨_, rfl, bel_only hb, ?_⟩
      have HB8 := Lib.hid (HBD.out.trans hb); have HS8 := Lib.hid (HSD.out.bel hb); have HO8 := Lib.hid (HOD.out.bel hb); clear hb
      simp only [List.getElem_toArray, List.getElem_cons_zero, List.getElem_cons_succ, Act.put, List.setIfInBounds_toArray, List.set_cons_zero, List.set_cons_succ]
      refine region_seg [false, true, true, true, true, true, true, true, true] 23 (by kernel_rfl) (by kernel_rfl) (by kernel_rfl) rfl (fun _ _ d _ _ h => by cases d <;> exact h) ?_
      repeat (first | with_reducible refine wpMask_pass ?_ | (refine wpMask_want (by rfl) (fun K hK => ?_); go_big_quiet_op; refine hK _ ?_; clear hK K))
      with_reducible refine wpMask_nil ?_
      have hk20 : k ≤ 20 := by omega
      refine region_call 9 (by kernel_rfl) rfl (by rfl) (by go_simp; exact ⟨rfl, rfl⟩) ?_
      refine (sorted14 HS8.out (by have := HLN.out; omega) HR2.out.asc HLN.out.symm c2).mono ?_; rintro e w9 ⟨rfl, hb⟩; refine ⟨_, rfl, bel_only hb, ?_⟩
      have HB9 := Lib.hid (HB8.out.trans hb); have HO9 := Lib.hid (HO8.out.bel hb); clear hb
      have p0 : ∀ X : Later [] w9, X.w.cell? ⟨g5, o5, none⟩ = some (.string (⟨#[102]⟩ ++ y)) := fun X => by
        obtain ⟨g, o, hA, _, hc⟩ := strs_at14 (HO9.out.bel (Bel.of_later X)) (k := 0) rfl
        injection hA with hA
        injection hA with q1 q2
        subst q1 q2
        rw [HNM.out]
        exact hc
      simp only [List.getElem_toArray, List.getElem_cons_zero, List.getElem_cons_succ, Act.put, List.setIfInBounds_toArray, List.set_cons_zero, List.set_cons_succ]
      refine region_seg [false, false, false, false, false, false, false, false, false, false, true, true, true, true, true, true, true, true, true, true, true, true] 10 (by kernel_rfl) (by kernel_rfl) (by kernel_rfl) rfl (fun _ _ d _ _ h => by cases d <;> exact h) ?_
      repeat (first | with_reducible refine wpMask_pass ?_ | (refine wpMask_want (by rfl) (fun K hK => ?_); go_big_quiet_op; refine hK _ ?_; clear hK K))
      with_reducible refine wpMask_nil ?_
      clear p0
      refine region_call 22 (by kernel_rfl) rfl (by rfl) (by go_simp; exact ⟨rfl, rfl⟩) ?_
      refine (HI1.out _).mono ?_; rintro e w10 ⟨rfl, rfl⟩; refine ⟨_, rfl, Only.refl _ _, ?_⟩
      simp only [List.getElem_toArray, List.getElem_cons_zero, List.getElem_cons_succ, Act.put, List.setIfInBounds_toArray, List.set_cons_zero, List.set_cons_succ]
      refine region_seg [false, false, false, false, false, false, false, false, false, false, false, false, false, false, false, false, false, false, false, false, false, false, false, true, true, true, true, true, true, true, true, true] 0 (by kernel_rfl) (by kernel_rfl) (by kernel_rfl) rfl (fun _ _ d _ _ h => by cases d <;> exact h) ?_
      repeat (first | with_reducible refine wpMask_pass ?_ | (refine wpMask_want (by rfl) (fun K hK => ?_); go_big_quiet_op; refine hK _ ?_; clear hK K))
      with_reducible refine wpMask_nil ?_
      refine region_end (by kernel_rfl) ?_
      go_wp2_with fail
      go_ret
      exact ⟨rfl, HB9.out⟩
end Go.Proofs.YtkipmaoeejdncaaDoor
