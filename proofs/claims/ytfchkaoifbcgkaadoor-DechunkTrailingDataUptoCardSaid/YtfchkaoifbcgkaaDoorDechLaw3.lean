/-
  The law DechunkInvertsFramer, walked.
-/
import Derived.Test.YtfchkaoifbcgkaaDoorDecPair
import Derived.Test.YtfchkaoifbcgkaaDoorEncode
namespace Go.Proofs.YtfchkaoifbcgkaaDoor
open Go.RowKit Go.BigFrame
set_option linter.unusedVariables false
set_option linter.unusedSimpArgs false
attribute [local go_sem ↓] sliced_cut run_min2 run_max2
attribute [local go_sem] cutA_zero

theorem wf_u16 {z : Int} (h : (Lit.int .u16 z).wf = true) : 0 ≤ z ∧ z ≤ 65535 := by
  simp [Lit.wf, IntKind.min, IntKind.max, IntKind.signed, IntKind.bits] at h
  omega
theorem bodyOf_bounds {k : Nat} (hk : k ≤ 65536) (l : List UInt8) : 5 ≤ (bodyOf k l).length ∧ (bodyOf k l).length ≤ 10 * l.length + 5 := by
  have h1 := chunksOf_le hk _ l (Nat.le_refl _)
  rw [bodyOf, List.length_append, chunkOf_nil]
  simp only [List.length_cons, List.length_nil]
  omega
theorem dec_body {k : Nat} (hk : 0 < k) (hk2 : k ≤ 65536) (l : List UInt8) : decOf (bodyOf k l) = (l, true, 0) := by
  obtain ⟨z, hz⟩ := run_body hk hk2 l
  rw [decOf_run hz]
  rfl
theorem dec_cut {k : Nat} (hk : 0 < k) (hk2 : k ≤ 65536) {l : List UInt8} {i : Nat} (hi : i < (bodyOf k l).length) : ∃ q, q ≤ l.length ∧ decOf ((bodyOf k l).take i) = (l.take q, false, 0) := by
  obtain ⟨s, h1, h2, h3⟩ := run_cut hk hk2 hi
  refine ⟨s.pay.length, h3.length_le, ?_⟩
  rw [decOf_run h1, h2, ← List.prefix_iff_eq_take.1 h3]
/-- 'string(b)' of what came in, in any later world. -/
theorem reads_str {w : World} {A : Option Addr} {n c : Nat} {l : List UInt8} (h : Reads w w.heap.size A n (vbs l)) : ∀ w', Only [] w w' → (convert 26 9 (.slice A n c)).run Tryd.prog w' = .ok (.string ⟨l.toArray⟩) w' :=
  fun w' ho => run_string_of Tryd.underlying26 Tryd.underlying5 Tryd.underlying9 (h.only' ho (Nat.le_refl _) (by simp)) c

set_option maxRecDepth 100000 in
set_option maxHeartbeats 6000000 in
theorem inverts_walk (A : Option Addr) (n c : Nat) (l : List UInt8) (most cut : Int) (w : World) (hT : Tabs w) (h : l.length = n ∧ n ≤ c ∧ c ≤ maxLen ∧ Reads w w.heap.size A n (vbs l)) (hm : (Lit.int .u8 most).wf = true) (hc : (Lit.int .u16 cut).wf = true) :
    Calls Tryd.prog 5 #[.slice A n c, .int .u8 most, .int .u16 cut] w fun e w' => e = .returned (.bool true) ∧ Below w.heap.size w w' := by
  obtain ⟨hl, hnc, hcm, hr⟩ := h
  obtain ⟨m0, m1⟩ := wf_u8 hm
  obtain ⟨y0, y1⟩ := wf_u16 hc
  obtain ⟨z, rfl⟩ : ∃ z : Nat, most = (z : Int) := ⟨most.toNat, by omega⟩
  obtain ⟨y, rfl⟩ : ∃ y : Nat, cut = (y : Int) := ⟨cut.toNat, by omega⟩
  have hz : z ≤ 255 := by omega
  have hy : y ≤ 65535 := by omega
  have HT := Lib.hid hT
  have HR := Lib.hid hr
  have HL := Lib.hid hl
  have hcm' := hcm
  unfold maxLen at hcm'
  clear hT hr hl hm hc m0 m1 y0 y1
  by_cases hbig : 2000 < n
  · have hbi : (2000 : Int) < (n : Int) := by omega
    go_enter Tryd.func5, Tryd.ntmps5
    go_wp2_with (go_at_call 14; refine (alive_c HT.out).mono ?_; rintro e w3 ⟨rfl, hO3⟩)
    go_ret
    exact ⟨rfl, only_nil_trans hO3⟩
  · have hbi : ¬ (2000 : Int) < (n : Int) := by omega
    obtain ⟨k, hk⟩ : ∃ k, k = 1 + z := ⟨_, rfl⟩
    have hk1 : 1 ≤ k := by omega
    have hk2 : k ≤ 65536 := by omega
    have HE := Lib.hid (encode_c HT.out.2 HR.out hnc hcm (by omega) hk1 hk2)
    have hbb := bodyOf_bounds hk2 l
    rw [HL.out] at hbb
    obtain ⟨L, hL⟩ : ∃ L, L = (bodyOf k l).length := ⟨_, rfl⟩
    rw [← hL] at hbb HE
    have HLB := Lib.hid hL
    have hL5 : 5 ≤ L := hbb.1
    have hLb : L ≤ 20005 := by omega
    obtain ⟨id, hid⟩ : ∃ id, id = y % L := ⟨_, rfl⟩
    have hidL : id < L := by rw [hid]; exact Nat.mod_lt _ (by omega)
    have HDB := Lib.hid (dec_body hk1 hk2 l)
    obtain ⟨q, hq, hdq⟩ := dec_cut hk1 hk2 (l := l) (i := id) (by rw [← hL]; exact hidL)
    rw [HL.out] at hq
    have HDQ := Lib.hid hdq
    have hql : Hid ((l.take q).length = q) := Lib.hid (by rw [List.length_take, HL.out]; omega)
    have hmin : imin (q : Int) (n : Int) = (q : Int) := by have := imin_spec (q : Int) (n : Int); omega
    have hcvp := reads_str (c := c) HR.out
    have hcvq : ∀ w', Only [] w w' → (convert 26 9 (.slice A q c)).run Tryd.prog w' = .ok (.string ⟨(l.take q).toArray⟩) w' := by
      have h1 := HR.out.cut_ (k := 0) (m := q) (c := c) (Nat.zero_le _) hq hnc
      rw [cutA_zero, Nat.sub_zero, List.drop_zero, ← vbs_take] at h1
      exact fun w' ho => run_string_of Tryd.underlying26 Tryd.underlying5 Tryd.underlying9 (h1.only' ho (Nat.le_refl _) (by simp)) c
    have HCVP := Lib.hid hcvp
    have HCVQ := Lib.hid hcvq
    have hL0 : ((L : Int) == 0) = false := by rw [beq_eq_false_iff_ne]; omega
    have hL5i : ¬ (L : Int) < 5 := by omega
    have hqn : (q : Int) ≤ (n : Int) := by omega
    have hidLi : (id : Int) ≤ (L : Int) := by omega
    have ht1 : (y : Int).tmod (L : Int) = (id : Int) := by rw [Int.tmod_eq_emod_of_nonneg (by omega), hid]; rfl
    have ht2 : (y : Int) % (L : Int) = (id : Int) := by rw [hid]; rfl
    have hs1 : IntKind.i64.wrap (1 + (z : Int)) = (k : Int) := by rw [IntWalk.i64_in _ (by clear ht1 ht2 hmin; omega)]; clear ht1 ht2 hmin; omega
    have hs2 : IntKind.i64.wrap (z : Int) = (z : Int) := IntWalk.i64_in _ (by clear ht1 ht2 hmin hs1; omega)
    have hs3 : wrap64 (z : Int) = (z : Int) := IntWalk.wrap64_in _ (by clear ht1 ht2 hmin hs1 hs2; omega)
    have hs4 : IntKind.i64.wrap (y : Int) = (y : Int) := IntWalk.i64_in _ (by clear ht1 ht2 hmin hs1 hs2 hs3; omega)
    have hs5 : wrap64 (y : Int) = (y : Int) := IntWalk.wrap64_in _ (by clear ht1 ht2 hmin hs1 hs2 hs3 hs4; omega)
    have hs6 : wrap64 (1 + (z : Int)) = (k : Int) := by rw [IntWalk.wrap64_in _ (by clear ht1 ht2 hmin hs1 hs2 hs3 hs4 hs5; omega)]; clear ht1 ht2 hmin hs1 hs2 hs3 hs4 hs5; omega
    clear hid hk hdq hbb hL hcvp hcvq
    go_enter Tryd.func5, Tryd.ntmps5
    go_wp2_with (first | (go_at_call 21; refine HE.out.mono ?_; rintro e1 w1 ⟨A1, c1, rfl, hR1, hk1', hO1⟩; have HR1 := Lib.hid hR1; have HO1 := Lib.hid hO1; have hle1 := hR1.le; have hmx1 := hR1.max; unfold maxLen at hmx1; have hd1 := dec_c (HT.out.only hO1) hR1.reads (Nat.le_refl _) hR1.le hR1.max (by clear ht1 ht2 hmin hs1 hs2 hs3 hs4 hs5 hs6; omega) l true 0 HDB.out; rw [HL.out] at hd1; have HD1 := Lib.hid hd1; clear hR1 hk1' hO1 hd1) | (go_at_call 19; (with_reducible refine HD1.out.mono ?_); rintro e2 w2 ⟨Y2, y2, rfl, hY2, _, hO2⟩; have hcv1 : (convert 26 9 (.slice Y2 n y2)).run Tryd.prog w2 = .ok (.string ⟨l.toArray⟩) w2 := row_str hY2 w2 (Only.refl _ _); have HO12 := Lib.hid (HO1.out.trans hO2); have hcv2 := HCVP.out w2 HO12.out; have hfr := (HR1.out.only hO2 (by simp)).first id (by clear ht1 ht2 hmin hs1 hs2 hs3 hs4 hs5 hs6; omega); rw [← vbs_take] at hfr; have hd2 := dec_c (HT.out.only HO12.out) hfr.reads (Nat.le_refl _) (by clear ht1 ht2 hmin hs1 hs2 hs3 hs4 hs5 hs6; omega) hfr.max (by clear ht1 ht2 hmin hs1 hs2 hs3 hs4 hs5 hs6; omega) (l.take q) false 0 HDQ.out; rw [hql.out] at hd2; have HD2 := Lib.hid hd2; clear hY2 hO2 hfr hd2) | (go_at_call 19; (with_reducible refine HD2.out.mono ?_); rintro e3 w3 ⟨Y3, y3, rfl, hY3, _, hO3⟩; have HY3 := Lib.hid hY3; have HO123 := Lib.hid (HO12.out.trans hO3); clear hY3 hO3))
    refine region_begin (T := []) (by kernel_rfl) ?_
    refine region_call 0 (by kernel_rfl) rfl (by rfl) (by go_simp; exact ⟨rfl, rfl⟩) ?_
    refine (alive_c (HT.out.only (HO123.out.drew))).mono ?_
    rintro e V1 ⟨rfl, hO4⟩
    refine ⟨_, rfl, hO4, ?_⟩
    simp only [List.getElem_toArray, List.getElem_cons_zero, List.getElem_cons_succ, Act.put, List.setIfInBounds_toArray, List.set_cons_zero, List.set_cons_succ]
    have hs7 : ∀ x : Later [] V1, (convert 26 9 (.slice Y3 q y3)).run Tryd.prog x.w = .ok (.string ⟨(l.take q).toArray⟩) x.w := fun x => row_str HY3.out x.w (((Only.refl [] w3).drew.trans hO4).trans x.h)
    have hs8 : ∀ x : Later [] V1, (convert 26 9 (.slice A q c)).run Tryd.prog x.w = .ok (.string ⟨(l.take q).toArray⟩) x.w := fun x => HCVQ.out x.w ((HO123.out.drew.trans hO4).trans x.h)
    have HOF := Lib.hid (HO123.out.drew.trans hO4)
    clear hO4
    refine region_seg [false, true, true, true, true, true, true, true, true, true, true, true, true, true, true, true, true, true, true, true, true, true, true, true, true, true, true, true, true, true] 0 (by kernel_rfl) (by kernel_rfl) (by kernel_rfl) rfl (fun _ _ d _ _ h => by cases d <;> exact h) ?_
    repeat (first | with_reducible refine wpMask_pass ?_ | (refine wpMask_want (by rfl) (fun K hK => ?_); go_big_quiet_op; refine hK _ ?_; clear hK K) | with_reducible refine wpMask_skip (by kernel_rfl) ?_)
    with_reducible refine wpMask_nil ?_
    refine region_end (by kernel_rfl) ?_
    go_wp2_with fail
    go_ret
    exact ⟨by simp, only_nil_trans HOF.out⟩
end Go.Proofs.YtfchkaoifbcgkaaDoor
