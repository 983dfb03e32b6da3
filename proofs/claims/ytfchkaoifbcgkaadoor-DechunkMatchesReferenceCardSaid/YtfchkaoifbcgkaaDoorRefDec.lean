/-
  The contracts of the reference's Decode of layer 5 and of slices.Equal of ints.
-/
import Derived.Test.YtfchkaoifbcgkaaDoorRefFeed
import Derived.Test.YtfchkaoifbcgkaaDoorDec6
namespace Go.Proofs.YtfchkaoifbcgkaaDoor
open Go.RowKit Go.BigFrame
set_option linter.unusedVariables false
set_option linter.unusedSimpArgs false
attribute [local go_sem ↓] sliced_cut run_min2 run_max2
attribute [local go_sem] cutA_zero

/-- The reference's Decode answers as Decode. -/
theorem decOf_ref (b : List UInt8) : decOf b = if (ofL b).valid = true then ((ofL b).pay, (ofL b).complete, 0) else ([], false, (feedR [] 0 b).2) := by
  have hA := ofL_agrees b
  cases hr : runD DSt.init b with
  | some s =>
    rw [hr] at hA
    obtain ⟨h1, h2, _, _, h3⟩ := hA
    rw [if_pos h1, decOf_run hr, h2, h3]
  | none =>
    rw [hr] at hA
    obtain ⟨s', o', e', B', h1, h2, _, _, _⟩ := feed_same b DSt.init 0 0 [] ⟨rfl, rfl⟩
    obtain ⟨i, s2, _, _, h3⟩ := feedS_stop hr 0
    rw [h1] at h3
    simp only [Prod.mk.injEq] at h3
    rw [if_neg (by rw [show (ofL b).valid = false from hA]; simp), decOf_feed h1, h2, if_neg (by rw [h3.2.2]; exact errOf_ne _)]

/-- A new decoder of the reference, beside what was laid, fed. -/
theorem ref_new {w w5 : World} {n c : Nat} {X : Option Addr} {B' : List UInt8} {e' : Nat} (hO : Only [] w w5) (O : Obj)
    (hF : ∀ (w1 : World) (T : List Nat) (r : Nat), Rd r [] 0 w1 T → (∀ k, k ∈ T → w.heap.size ≤ k) → Only [] w w1 → Calls Tryd.prog 16 #[.pointer (some ⟨r, 0, none⟩), .slice X n c] w1 fun x w' => x = .returned (.int .i64 e') ∧ Turned (Rd r B' e') w1 T w') :
    Calls Tryd.prog 16 #[.pointer (some ⟨w5.heap.size + 1, 0, none⟩), .slice X n c] ((w5.alloc O).alloc (.cells #[.slice none 0 0, .int .i64 0] 35)) fun x w' => x = .returned (.int .i64 e') ∧ Only [] w w' := by
  have hb := Blk.new (w5.alloc O) 35 [.slice none 0 0, .int .i64 0]
  rw [World.size_alloc] at hb
  have hO2 : Only [] w ((w5.alloc O).alloc (.cells #[.slice none 0 0, .int .i64 0] 35)) := (hO.alloc O).alloc _
  have hs := hO.size
  refine (hF _ [w5.heap.size + 1] (w5.heap.size + 1) ⟨none, 0, hb, RowAt.nil _ _, by simp, by simp [rowT], by simp⟩ (by simp; omega) hO2).mono ?_
  rintro x w' ⟨rfl, hT⟩
  obtain ⟨T', _, _, hO3⟩ := hT
  exact ⟨rfl, hO2.join hO3 (by simp; omega)⟩
set_option maxRecDepth 100000 in
set_option maxHeartbeats 3200000 in
theorem refDec_c {w : World} {B n c : Nat} {X : Option Addr} {b : List UInt8} (hb : Reads w B X n (vbs b)) (hB : B ≤ w.heap.size) (hnc : n ≤ c) (hcm : c ≤ maxLen) (hn : n ≤ 900000) (p : List UInt8) (d : Bool) (e : Nat) (hd : decOf b = (p, d, e)) :
    Calls Tryd.prog 20 #[.slice X n c] w fun x w' => ∃ Y y, x = .returned (.tuple #[.slice Y p.length y, .bool d, .int .i64 e]) ∧ RowAt w' 5 Y p.length y (vbs p) ∧ (∀ k, k ∈ rowT Y → w.heap.size ≤ k) ∧ Only [] w w' := by
  have HOF := Lib.hid (refOf_c hb hB hnc hcm (by omega))
  rw [decOf_ref] at hd
  cases hval : (ofL b).valid with
  | true =>
    rw [if_pos hval] at hd
    simp only [Prod.mk.injEq] at hd
    obtain ⟨h1, h2, rfl⟩ := hd
    have H1 := Lib.hid h1
    have H2 := Lib.hid h2
    generalize ofL b = rs at *
    clear hb h1 h2
    go_enter Tryd.func20, Tryd.ntmps20
    go_wp2_with (go_at_call 17; refine HOF.out.mono ?_; rintro e5 w5 ⟨P5, p5, S5, z5, rfl, hP, _, hk, _, hO5⟩; rw [hval, H1.out, H2.out]; rw [H1.out] at hP; have HP := Lib.hid hP; have HK := Lib.hid hk; have HO5 := Lib.hid hO5; clear hP hk hO5)
    go_quiet (fail)
    go_wp2_with fail
    go_ret3
    exact ⟨P5, p5, rfl, (HP.out.alloc _).drewN _, HK.out, (HO5.out.alloc _).drewN _⟩
  | false =>
    rw [if_neg (by rw [hval]; simp)] at hd
    simp only [Prod.mk.injEq] at hd
    obtain ⟨rfl, rfl, rfl⟩ := hd
    obtain ⟨⟨B', e'⟩, hf⟩ : ∃ f, feedR [] 0 b = f := ⟨_, rfl⟩
    rw [hf]
    have HF := Lib.hid (fun (w1 : World) (T : List Nat) (r : Nat) (h1 : Rd r [] 0 w1 T) (hT : ∀ k, k ∈ T → w.heap.size ≤ k) (hO : Only [] w w1) =>
      refFeed_c h1 (hb.only' hO hB (by simp)) (Nat.le_trans hB hO.size) (fun h0 ad e1 => by
        obtain ⟨ad', e2, hl, _⟩ := hb.2 h0
        rw [e1] at e2
        injection e2 with e2
        subst e2
        intro hk
        have := hT _ hk
        omega) hnc hcm (by simp; omega) hf)
    generalize ofL b = rs at *
    clear hb hf
    go_enter Tryd.func20, Tryd.ntmps20
    go_wp2_with (first | (go_at_call 17; refine HOF.out.mono ?_; rintro e5 w5 ⟨P5, p5, S5, z5, rfl, _, _, _, _, hO5⟩; rw [hval]; have HO5 := Lib.hid hO5; have HFW := Lib.hid (ref_new HO5.out (.cells #[.slice P5 rs.pay.length p5, .slice S5 rs.sizes.length z5, .bool rs.whole, .bool rs.complete, .bool false] 38) HF.out); clear hO5) | (go_at_call 16; refine HFW.out.mono ?_; rintro e6 w6 ⟨rfl, hO6⟩; have HO6 := Lib.hid hO6; clear hO6))
    go_ret3
    exact ⟨none, 0, rfl, RowAt.nil _ _, by simp [rowT], HO6.out⟩

/-! ### slices.Equal of ints -/
set_option maxRecDepth 100000 in
set_option maxHeartbeats 1600000 in
theorem equali_c {w : World} {B1 B2 : Nat} {A1 A2 : Option Addr} {n1 n2 : Nat} {l1 l2 : List Int} (h1 : Reads w B1 A1 n1 (vis l1)) (h2 : Reads w B2 A2 n2 (vis l2)) (c1 c2 : Nat) (hn1 : n1 ≤ 1000000) (hn2 : n2 ≤ 1000000) :
    Calls Tryd.prog 18 #[.slice A1 n1 c1, .slice A2 n2 c2] w fun e w' => e = .returned (.bool (l1 == l2)) ∧ Only [] w w' := by
  have hl1 : l1.length = n1 := by have := h1.1; rwa [vis_length] at this
  have hl2 : l2.length = n2 := by have := h2.1; rwa [vis_length] at this
  by_cases hne : n1 = n2
  · subst hne
    have H1 := Lib.hid h1
    have H2 := Lib.hid h2
    have HL1 := Lib.hid hl1
    have HL2 := Lib.hid hl2
    obtain ⟨res, hres⟩ : ∃ res, res = (l1 == l2) := ⟨_, rfl⟩
    have HRES := Lib.hid hres
    rw [← hres]
    clear h1 h2 hl1 hl2 hres
    go_enter Tryd.func18, Tryd.ntmps18
    go_wp2
    go_loopw [13] (fun si wr => ∃ (i : Nat), i ≤ n1 ∧ si = .int .i64 i ∧ Hid (l1.take i = l2.take i) ∧ Hid (Only [] w wr)) (fun si _ => n1 - (intOf si).toNat)
    case atStart => exact ⟨0, Nat.zero_le _, rfl, Lib.hid rfl, Lib.hid (Only.refl _ _)⟩
    case round =>
      obtain ⟨i, hin, rfl, heq, hO⟩ := hrel
      by_cases hlt : i < n1
      · obtain ⟨g1, o1, rfl, hg1, hc1⟩ := H1.out.plain (by omega)
        obtain ⟨g2, o2, rfl, hg2, hc2⟩ := H2.out.plain (by omega)
        have hi1 : i < l1.length := by rw [HL1.out]; exact hlt
        have hi2 : i < l2.length := by rw [HL2.out]; exact hlt
        have d1 : ∀ k, (wr.drewN k).cell? ⟨g1, o1 + i, none⟩ = some (.int .i64 (l1[i]'hi1)) := fun k => cell_only (hc1 i _ (by rw [vis_getElem?, List.getElem?_eq_getElem hi1]; rfl)) (hO.out.drewN k) (by simp)
        have d2 : ∀ k, (wr.drewN k).cell? ⟨g2, o2 + i, none⟩ = some (.int .i64 (l2[i]'hi2)) := fun k => cell_only (hc2 i _ (by rw [vis_getElem?, List.getElem?_eq_getElem hi2]; rfl)) (hO.out.drewN k) (by simp)
        have ht1 : l1.take (i + 1) = l1.take i ++ [l1[i]'hi1] := by rw [List.take_add_one, List.getElem?_eq_getElem hi1]; rfl
        have ht2 : l2.take (i + 1) = l2.take i ++ [l2[i]'hi2] := by rw [List.take_add_one, List.getElem?_eq_getElem hi2]; rfl
        have HT1 := Lib.hid ht1
        have HT2 := Lib.hid ht2
        have hlti : (i : Int) < (n1 : Int) := by omega
        clear ht1 ht2 hc1 hc2
        have hne2 : l1[i]'hi1 ≠ l2[i]'hi2 → res = false := fun h => by
          rw [HRES.out, beq_eq_false_iff_ne]
          rintro rfl
          exact h rfl
        generalize l1[i]'hi1 = v1 at *
        generalize l2[i]'hi2 = v2 at *
        by_cases hv : v1 = v2
        · subst hv
          clear hne2
          go_wp2
          go_quiet (fail)
          go_wp2
          go_roundw
          case rel => exact ⟨i + 1, by omega, by go_num, Lib.hid (by rw [HT1.out, HT2.out, heq.out]), Lib.hid (hO.out.drewN _)⟩
          case measure => simp [intOf]; omega
        · have hr := hne2 hv
          have hvb : (v1 != v2) = true := by rw [bne_iff_ne]; exact hv
          subst hr
          clear hne2
          go_wp2
          go_quiet (fail)
          go_wp2
          go_ret
          exact ⟨rfl, hO.out.drewN _⟩
      · obtain rfl : i = n1 := by omega
        have hr : res = true := by
          rw [HRES.out, beq_iff_eq]
          have := heq.out
          rwa [List.take_of_length_le (by rw [HL1.out]; exact Nat.le_refl _), List.take_of_length_le (by rw [HL2.out]; exact Nat.le_refl _)] at this
        subst hr
        go_wp2
        go_ret
        exact ⟨rfl, hO.out⟩
  · have hr : (l1 == l2) = false := by
      rw [beq_eq_false_iff_ne]
      rintro rfl
      omega
    rw [hr]
    have hni : ((n1 : Int) != (n2 : Int)) = true := by rw [bne_iff_ne]; omega
    clear h1 h2 hl1 hl2 hr
    go_enter Tryd.func18, Tryd.ntmps18
    go_wp2
    go_ret
    exact ⟨rfl, Only.refl _ _⟩
end Go.Proofs.YtfchkaoifbcgkaaDoor
