/-
  The law FramerIsolated, walked.
-/
import Derived.Test.YtbphkdaciebgmaaDoorFramerPair
namespace Go.Proofs.YtbphkdaciebgmaaDoor
open Go.RowKit Go.BigFrame
set_option linter.unusedVariables false
set_option linter.unusedSimpArgs false
attribute [local go_sem ↓] sliced_cut run_min2 run_max2
attribute [local go_sem] cutA_zero

/-- A row of bytes, whichever. -/
def Bs (g o n c : Nat) : World → List Nat → Prop := fun w T => (∃ xs, RowAt w 5 (some ⟨g, o, none⟩) n c xs ∧ ∀ j, j < n → ∃ z : Int, xs[j]? = some (.int .u8 z)) ∧ T = [g]
theorem bs_thing (g o n c : Nat) : IsThing (Bs g o n c) :=
  ⟨fun ⟨⟨xs, h, hz⟩, hT⟩ ho hS => ⟨⟨xs, h.only ho (fun k hk => hS k (by subst hT; simpa [rowT_some] using hk)), hz⟩, hT⟩, fun ⟨⟨xs, h, hz⟩, hT⟩ k hk => h.lt k (by subst hT; simpa [rowT_some] using hk)⟩
theorem RowAt.set_ {w : World} {e : TypeId} {g o n c : Nat} {xs : List Value} (h : RowAt w e (some ⟨g, o, none⟩) n c xs) {j : Nat} (hj : j < n) (v : Value) : RowAt (w.setCell ⟨g, o + j, none⟩ v) e (some ⟨g, o, none⟩) n c (xs.set j v) := by
  refine ⟨by simpa using h.len, h.le, h.max, (fun h => by cases h), fun ad ha => ?_⟩
  obtain ⟨g', o', cur, e1, hb, hf, hx⟩ := h.some_ _ rfl
  injection ha with ha
  subst ha
  injection e1 with e1 e2
  subst e1 e2
  refine ⟨g, o, cur.set (o + j) v, rfl, hb.set_ _ v, by simpa using hf, ?_⟩
  rw [← hx]
  apply List.ext_getElem?
  intro i
  rw [List.getElem?_take, List.getElem?_drop]
  by_cases hi : i < n
  · rw [if_pos hi]
    by_cases hij : i = j
    · subst hij
      rw [List.getElem?_set_self (by have := h.le; omega), List.getElem?_set_self (by simp; have := h.le; omega)]
    · rw [List.getElem?_set_ne (by omega), List.getElem?_set_ne (by omega), List.getElem?_take, if_pos hi, List.getElem?_drop]
  · rw [if_neg hi, List.getElem?_eq_none (by simp; have := h.le; omega)]
theorem RowAt.free {w : World} {e : TypeId} {g o n c : Nat} {xs : List Value} (h : RowAt w e (some ⟨g, o, none⟩) n c xs) (i : Nat) : w.frozen? ⟨g, i, none⟩ = false := by
  obtain ⟨g', o', cur, e1, hb, hf, hx⟩ := h.some_ _ rfl
  injection e1 with e1 e2
  subst e1
  exact hb.free i
section
variable {P : World → List Nat → Prop} {w0 W : World} {B g o n c : Nat}
/-- A byte of the row replaced. -/
theorem bs_set (hP : IsThing P) (h : Pair P (Bs g o n c) w0 B W) {j : Nat} (hj : j < n) (z : Int) : Pair P (Bs g o n c) w0 B (W.setCell ⟨g, o + j, none⟩ (.int .u8 z)) := by
  obtain ⟨T, U, h1, ⟨⟨xs, hx, hz⟩, rfl⟩, hd, hT, hU, hb, hB, hB2⟩ := h
  have hO : Only [g] W (W.setCell ⟨g, o + j, none⟩ (.int .u8 z)) := (Only.refl _ _).setCell (.inl (by simp)) _
  refine ⟨T, [g], hP.only h1 hO hd, ⟨⟨_, hx.set_ hj _, fun i hi => ?_⟩, rfl⟩, hd, hT, hU, Only.below hb hO hb.size (fun k hk => Nat.le_trans hB (hU k hk)), hB, Nat.le_trans hB2 hO.size⟩
  by_cases hij : i = j
  · subst hij
    exact ⟨z, List.getElem?_set_self (by have := hx.len; omega)⟩
  · rw [List.getElem?_set_ne (by omega)]
    exact hz i hi
theorem bs_get (h : Pair P (Bs g o n c) w0 B W) {j : Nat} (hj : j < n) : ∃ z : Int, W.cell? ⟨g, o + j, none⟩ = some (.int .u8 z) ∧ W.frozen? ⟨g, o + j, none⟩ = false := by
  obtain ⟨T, U, h1, ⟨⟨xs, hx, hz⟩, rfl⟩, _⟩ := h
  obtain ⟨z, hz⟩ := hz j hj
  obtain ⟨g', o', e, hc⟩ := hx.cell hz
  injection e with e
  injection e with e1 e2
  subst e1 e2
  exact ⟨z, hc, hx.free _⟩
/-- The other thing forgotten. -/
theorem pair_drop {Q : World → List Nat → Prop} (h : Pair P Q w0 B W) : Pair P Nil w0 B W := by
  obtain ⟨T, U, h1, h2, hd, hT, hU, hb, hB, hB2⟩ := h
  exact ⟨T, [], h1, rfl, by simp, hT, by simp, hb, hB, hB2⟩
/-- A row that is not empty. -/
theorem rw_bs {A : Option Addr} {l : List UInt8} (h : Pair P (Rw A n c l) w0 B W) (hn : 0 < n) : ∃ g o, A = some ⟨g, o, none⟩ ∧ n ≤ c ∧ c ≤ maxLen ∧ Pair P (Bs g o n c) w0 B W := by
  obtain ⟨T, U, h1, ⟨hx, hU2⟩, hd, hT, hU, hb, hB, hB2⟩ := h
  have hl : (vbs l).length = n := hx.len
  obtain ⟨g, o, rfl, _⟩ := hx.cell (j := 0) (u := (vbs l)[0]) (List.getElem?_eq_getElem (by omega))
  refine ⟨g, o, rfl, hx.le, hx.max, T, U, h1, ⟨⟨_, hx, fun j hj => ?_⟩, by rw [hU2]; rfl⟩, hd, hT, hU, hb, hB, hB2⟩
  rw [vbs_length] at hl
  exact ⟨_, by rw [vbs_getElem?, List.getElem?_eq_getElem (by omega)]; rfl⟩
end

set_option maxRecDepth 100000 in
set_option maxHeartbeats 4000000 in
theorem isolated_walk (A : Option Addr) (n c : Nat) (l : List UInt8) (w : World) (hT : Tz w) (h : l.length = n ∧ n ≤ c ∧ c ≤ maxLen ∧ Reads w w.heap.size A n (vbs l)) :
    Calls Tryd.prog 6 #[.slice A n c] w fun e w' => e = .returned (.bool true) ∧ Below w.heap.size w w' := by
  obtain ⟨hl, hnc, hcm, hr⟩ := h
  have HT := Lib.hid hT
  have HR := Lib.hid hr
  have HL := Lib.hid hl
  have HN := Lib.hid (new_pair w (n := 65536) (by omega) (by omega))
  clear hT hr hl
  by_cases hbad : n = 0 ∨ 3000 < n
  · have h3 : n = 0 ∨ (((n : Int) == 0) = false ∧ decide ((3000 : Int) < (n : Int)) = true) := by
      rcases hbad with h | h
      · exact .inl h
      · exact .inr ⟨by rw [beq_eq_false_iff_ne]; omega, by rw [decide_eq_true_eq]; omega⟩
    clear hbad
    rcases h3 with rfl | ⟨h1, h2⟩
    all_goals
      go_enter Tryd.func6, Tryd.ntmps6
      go_wp2_with (first | (go_at_call 15; refine HN.out.mono ?_; rintro e w1 ⟨rfl, hP1⟩; have HP1 := Lib.hid hP1; clear hP1) | (go_at_call 14; refine (alive_c (HT.out.below HP1.out.below (Nat.le_refl _))).mono ?_; rintro e w3 ⟨rfl, hO3⟩))
      go_ret
      exact ⟨rfl, Only.below HP1.out.below hO3 HP1.out.below.size (by simp)⟩
  · have g1 : ((n : Int) == 0) = false := by rw [beq_eq_false_iff_ne]; omega
    have g2 : decide ((3000 : Int) < (n : Int)) = false := by rw [decide_eq_false_iff_not]; omega
    have g3 : ((n : Int) == 0 || decide ((3000 : Int) < (n : Int))) = false := by rw [g1, g2]; rfl
    have hn65 : n ≤ 3000 := by omega
    have hn0 : 0 < n := by omega
    obtain ⟨i0, hi, hz0, hz1, hz2⟩ := info_parts info_byte
    have hb1 := Lib.hid (show 0 + n ≤ maxLen by unfold maxLen; omega)
    have hb2 := Lib.hid (show (0 + n) * 1 ≤ 140737488355328 by omega)
    clear hbad
    go_enter Tryd.func6, Tryd.ntmps6
    go_wp2_with fail
    refine HN.out.mono ?_
    rintro e w1 ⟨rfl, hP1⟩
    have HP1 := Lib.hid hP1
    have hrow := Lib.hid (RowAt.of_blk (Blk.new w1 5 []) (by simp))
    have hsrc := Lib.hid (((HR.out.below hP1.below).more hP1.below.size).only' ((Only.refl [] w1).alloc (.cells #[] 5)) (Nat.le_refl _) (by simp))
    clear hP1
    go_wp2_with (with_reducible refine wp_rowAppend rfl (.tmp 34) (.tmp 35) 26 rfl 5 i0 _ 1 Tryd.underlying26 hi hz0 hz1 hz2 rfl _ 0 0 [] rfl hrow.out w1.heap.size A n c (vbs l) rfl hsrc.out (vbs_one _) hb1.out hb2.out n (Nat.zero_add n).symm ?_; intro A2 c2 w2 HR2 hO2 HK2)
    have hP2 : Pair (Fr 52 w.heap.size ⟨65536, [], false⟩) (Rw A2 n c2 l) w w.heap.size w2 := by
      refine pair_row (fr_thing _ _ _) HP1.out (by simpa using HR2.out) (fun k hk => ?_) (((Only.refl [] w1).alloc _).join hO2 (fun k hk => .inr (by simp [rowT_some] at hk; omega)))
      rcases HK2.out k hk with h | h
      · simp [rowT_some] at h; omega
      · simp at h; omega
    have hown : Reads w2 w2.heap.size A2 n (vbs l) := by obtain ⟨U, hU, _⟩ := hP2.second; exact hU.1.reads
    obtain ⟨hle2, hmx2⟩ : n ≤ c2 ∧ c2 ≤ maxLen := by obtain ⟨U, hU, _⟩ := hP2.second; exact ⟨hU.1.le, hU.1.max⟩
    have HS := Lib.hid (start_pair (rw_thing _ _ _ _) hP2 HT.out hown hle2 hmx2 0 _ (startS_ok (m := 65536) (l := l) (by rw [HL.out]; exact hn0) (by rw [HL.out]; omega)))
    clear hP2 hown HR2 hO2 HK2 HN
    go_wp2_with fail
    refine HS.out.mono ?_
    rintro e w3 ⟨rfl, hP3⟩
    obtain ⟨ch, hch⟩ : ∃ ch, chunkOf l = ch := ⟨_, rfl⟩
    have hcl : ch.length ≤ 65545 := by rw [← hch]; have h1 := chunkOf_le (p := l) (by rw [HL.out]; omega); have h2 := HL.out; omega
    have hcp : 0 < ch.length := by rw [← hch]; exact chunkOf_pos l
    rw [hch] at hP3
    have HCH := Lib.hid hch
    obtain ⟨g, o, rfl, _, _, hP4⟩ := rw_bs hP3 hn0
    unfold maxLen at hmx2
    clear hP3 hch HS
    go_wp2_with fail
    go_loopw [43] (fun si wr => ∃ j : Nat, j ≤ n ∧ si = .int .i64 j ∧ Hid (Pair (Fr 52 w.heap.size ⟨65536, ch, false⟩) (Bs g o n c2) w w.heap.size wr)) (fun si _ => n - (intOf si).toNat)
    case atStart => exact ⟨0, Nat.zero_le _, rfl, Lib.hid hP4⟩
    case round =>
      clear hP4
      obtain ⟨j, hj, rfl, hI⟩ := hrel
      by_cases hlt : j < n
      · obtain ⟨z, hc, hf⟩ := bs_get hI.out hlt
        go_wp2
        go_roundw
        case rel => exact ⟨j + 1, by omega, by go_num, Lib.hid (bs_set (fr_thing _ _ _) hI.out hlt _)⟩
        case measure => simp [intOf]; omega
      · obtain rfl : n = j := by omega
        obtain ⟨L, hL⟩ : ∃ L, L = ch.length := ⟨_, rfl⟩
        have HPE := Lib.hid (pend_pair hI.out L hL)
        have hcp2 : 0 < L := by omega
        have HLL := Lib.hid hL
        clear hL
        go_wp2_with fail
        refine HPE.out.mono ?_
        rintro e w4 ⟨G, gd, rfl, hG, hGk, hGO⟩
        have hP5 := pair_row (fr_thing _ _ _) (pair_drop hI.out) hG hGk hGO
        obtain ⟨g2, o2, rfl, hle3, hmx3, hP6⟩ := rw_bs hP5 hcp2
        unfold maxLen at hmx3
        clear hG hGk hGO HPE hP5 hI
        go_wp2_with fail
        go_loopw [57] (fun si wr => ∃ j : Nat, j ≤ L ∧ si = .int .i64 j ∧ Hid (Pair (Fr 52 w.heap.size ⟨65536, ch, false⟩) (Bs g2 o2 L gd) w w.heap.size wr)) (fun si _ => L - (intOf si).toNat)
        case atStart => exact ⟨0, Nat.zero_le _, rfl, Lib.hid hP6⟩
        case round =>
          clear hP6
          obtain ⟨j, hj, rfl, hI⟩ := hrel
          by_cases hlt : j < L
          · obtain ⟨z, hc, hf⟩ := bs_get hI.out hlt
            go_wp2
            go_roundw
            case rel => exact ⟨j + 1, by omega, by go_num, Lib.hid (bs_set (fr_thing _ _ _) hI.out hlt _)⟩
            case measure => simp [intOf]; omega
          · obtain rfl : L = j := by omega
            have HLL := HLL
            go_wp2_with fail
            have hPV := hI.out.quiet (fr_thing _ _ _) (bs_thing _ _ _ _) ((Only.refl [] wr).drew)
            refine region_begin (T := []) (by kernel_rfl) ?_
            generalize wr.drew = V at hPV ⊢
            clear hI
            refine region_call 0 (by kernel_rfl) rfl (by rfl) (by go_simp; exact ⟨rfl, rfl⟩) ?_
            refine (alive_c (HT.out.below hPV.below (Nat.le_refl _))).mono ?_
            rintro e V1 ⟨rfl, hO1⟩
            refine ⟨_, rfl, hO1, ?_⟩
            simp only [List.getElem_toArray, List.getElem_cons_zero, List.getElem_cons_succ, Act.put, List.setIfInBounds_toArray, List.set_cons_zero, List.set_cons_succ]
            refine region_seg [false, true, true, false, false, true] 7 (by kernel_rfl) (by kernel_rfl) (by kernel_rfl) rfl (fun _ _ d _ _ h => by cases d <;> exact h) ?_
            repeat (first | with_reducible refine wpMask_pass ?_ | (refine wpMask_want (by rfl) (fun K hK => ?_); go_big_quiet_op; refine hK _ ?_; clear hK K))
            with_reducible refine wpMask_nil ?_
            have hP1 := hPV.quiet (fr_thing _ _ _) (bs_thing _ _ _ _) hO1
            have HP1 := Lib.hid hP1
            clear hPV hO1 hP1
            refine region_call 3 (by kernel_rfl) rfl (by rfl) (by go_simp; exact ⟨rfl, rfl⟩) ?_
            refine (pend_pair HP1.out L HLL.out).mono ?_
            rintro e V2 ⟨G3, d3, rfl, hR3, hk3, hO2⟩
            refine ⟨_, rfl, hO2, ?_⟩
            simp only [List.getElem_toArray, List.getElem_cons_zero, List.getElem_cons_succ, Act.put, List.setIfInBounds_toArray, List.set_cons_zero, List.set_cons_succ]
            have hs3 : ∀ y : Later [] V2, (convert 26 9 (.slice G3 L d3)).run Tryd.prog y.w = .ok (.string ⟨ch.toArray⟩) y.w := fun y => row_str hR3 y.w y.h
            have hP2 := HP1.out.quiet (fr_thing _ _ _) (bs_thing _ _ _ _) hO2
            have HP2 := Lib.hid hP2
            clear hP2 hO2 hk3
            refine region_seg [false, false, false, false, true] 5 (by kernel_rfl) (by kernel_rfl) (by kernel_rfl) rfl (fun _ _ d _ _ h => by cases d <;> exact h) ?_
            repeat (first | with_reducible refine wpMask_pass ?_ | (refine wpMask_want (by rfl) (fun K hK => ?_); go_big_quiet_op; refine hK _ ?_; clear hK K))
            with_reducible refine wpMask_nil ?_
            clear hs3
            have HRC := Lib.hid (refChunk_c (d := c) (HR.out.below HP2.out.below) HP2.out.below.size (by omega : n ≤ 65536))
            rw [HCH.out] at HRC
            refine region_call 6 (by kernel_rfl) rfl (by rfl) (by go_simp; exact ⟨rfl, rfl⟩) ?_
            refine HRC.out.mono ?_
            rintro e V3 ⟨G4, d4, rfl, hR4, hk4, hO3⟩
            refine ⟨_, rfl, hO3, ?_⟩
            simp only [List.getElem_toArray, List.getElem_cons_zero, List.getElem_cons_succ, Act.put, List.setIfInBounds_toArray, List.set_cons_zero, List.set_cons_succ]
            have hs4 : ∀ y : Later [] V3, (convert 26 9 (.slice G4 ch.length d4)).run Tryd.prog y.w = .ok (.string ⟨ch.toArray⟩) y.w := fun y => row_str hR4 y.w y.h
            have HB := Lib.hid (Only.below HP2.out.below hO3 HP2.out.below.size (by simp))
            clear hO3 hk4 HRC
            refine region_seg [false, false, false, false, false, false, false, true, true, true, true] 0 (by kernel_rfl) (by kernel_rfl) (by kernel_rfl) rfl (fun _ _ d _ _ h => by cases d <;> exact h) ?_
            repeat (first | with_reducible refine wpMask_pass ?_ | (refine wpMask_want (by rfl) (fun K hK => ?_); go_big_quiet_op; refine hK _ ?_; clear hK K))
            with_reducible refine wpMask_nil ?_
            refine region_end (by kernel_rfl) ?_
            clear hs4
            go_wp2_with fail
            go_ret
            exact ⟨by simp, HB.out⟩
end Go.Proofs.YtbphkdaciebgmaaDoor
