/-
  The law WriterExtendIsConcatenation, walked.
-/
import Derived.Test.YtfgomjcdgfagbaaPair
namespace Go.Proofs.Ytfgomjcdgfagbaa
open Go.RowKit Go.BigFrame
set_option linter.unusedVariables false
set_option linter.unusedSimpArgs false
attribute [local go_sem ↓] sliced_cut run_min2 run_max2
attribute [local go_sem] cutA_zero

/-- A slice of the law's own that may be written. -/
def OwnP (w0 : World) (B : Nat) (A : Option Addr) (n : Nat) (w : World) : Prop := 0 < n → ∃ g o cs, A = some ⟨g, o, none⟩ ∧ Blk w g 3 cs ∧ o + n ≤ cs.length ∧ w0.heap.size ≤ g ∧ g < B

theorem pair_made {w w1 w2 w4 w5 : World} {T1 T2 : List Nat} {r1 r2 : Nat} {s1 s2 : WSt} (h1 : WriterOf w2 T1 r1 s1) (hT1 : ∀ k, k ∈ T1 → w1.heap.size ≤ k) (h2 : WriterOf w5 T2 r2 s2) (hT2 : ∀ k, k ∈ T2 → w4.heap.size ≤ k)
    (bl1 : Below w.heap.size w w1) (hO2 : Only [] w1 w2) (hO4 : Only [] w2 w4) (hO5 : Only [] w4 w5) : Pair (Wr r1 s1) (Wr r2 s2) w w1.heap.size w5 := by
  have a1 := hO2.size
  have a2 := hO4.size
  have a3 := hO5.size
  refine ⟨T1, T2, (h1.only hO4 (by simp)).only hO5 (by simp), h2, fun k hk hk' => ?_, hT1, fun k hk => by have := hT2 k hk; omega, ?_, bl1.size, by omega⟩
  · have := h1.lt k hk
    have := hT2 k hk'
    omega
  · exact Only.below bl1 (hO2.trans (hO4.trans hO5)) bl1.size (by simp)

set_option maxRecDepth 100000 in
set_option maxHeartbeats 4000000 in
theorem extend_walk (S : Option Addr) (n c : Nat) (l : List Int) (S' : Option Addr) (n' c' : Nat) (l' : List Int) (X : Option Addr) (k d : Nat) (ps : List PieceV) (w : World)
    (hs : l.length = n ∧ n ≤ c ∧ c ≤ maxLen ∧ Reads w w.heap.size S n (l.map (Value.int .i64)) ∧ ∀ z ∈ l, (Lit.int .i64 z).wf = true)
    (hs' : l'.length = n' ∧ n' ≤ c' ∧ c' ≤ maxLen ∧ Reads w w.heap.size S' n' (l'.map (Value.int .i64)) ∧ ∀ z ∈ l', (Lit.int .i64 z).wf = true)
    (hp : PiecesIn w X k d ps) :
    Calls Try.prog 6 #[.slice S n c, .slice S' n' c', .slice X k d] w fun e w' => e = .returned (.bool true) ∧ Below w.heap.size w w' := by
  obtain ⟨hl, hnc, hcm, hrd, hwf⟩ := hs
  obtain ⟨hl2, hnc2, hcm2, hrd2, hwf2⟩ := hs'
  obtain ⟨hP, hkd, hdm, hreach⟩ := hp
  have HL := Lib.hid hl
  have HL2 := Lib.hid hl2
  have HTL := Lib.hid (tooLarge_any (S := S) (n := n) (c := c) hP (PiecesIn.sum ⟨hP, hkd, hdm, hreach⟩) hnc hcm hkd hdm)
  have HRD : Hid (Reads w w.heap.size S n (vis l)) := hrd
  have HRD2 : Hid (Reads w w.heap.size S' n' (vis l')) := hrd2
  have HP := Lib.hid hP
  have hdm' := hdm
  have hcm' := hcm
  have hcm2' := hcm2
  unfold maxLen at hdm' hcm' hcm2'
  clear hl hrd hwf hP hreach hl2 hrd2 hwf2
  go_enter Try.func6, Try.ntmps6
  go_wp2_with fail
  refine HTL.out.mono ?_
  rintro e w1 ⟨v, rfl, rfl, hsm⟩
  by_cases hbig : v = true ∨ (300 : Int) < (n' : Int)
  · have h3 : v = true ∨ (v = false ∧ (300 : Int) < (n' : Int)) := by cases v <;> simp at hbig ⊢; exact hbig
    clear hbig hsm
    rcases h3 with rfl | ⟨rfl, h3⟩
    all_goals
      go_wp2_with (go_at_call 15; refine (alive_any _).mono ?_; rintro e w2 ⟨rfl, hO2⟩)
      go_ret
      exact ⟨rfl, only_nil_below hO2⟩
  · obtain rfl : v = false := by cases v <;> simp_all
    have hn2 : (n' : Int) ≤ 300 := by omega
    obtain ⟨hn300, hk300, htot⟩ := hsm rfl
    clear hsm hbig
    obtain ⟨i0, hi, hz0, hz1, hz2⟩ := info_parts info_int
    have hrow := Lib.hid (RowAt.of_blk (Blk.new w 3 []) (by simp))
    have hsrc := Lib.hid (HRD.out.only' ((Only.refl [] w).alloc (.cells #[] 3)) (Nat.le_refl _) (by simp))
    have hb1 := Lib.hid (show 0 + n ≤ maxLen by unfold maxLen; omega)
    have hb2 := Lib.hid (show (0 + n) * 8 ≤ 140737488355328 by omega)
    have hb3 := Lib.hid (show n + n' ≤ maxLen by unfold maxLen; omega)
    have hb4 := Lib.hid (show (n + n') * 8 ≤ 140737488355328 by omega)
    go_wp2_with (first
      | ((with_reducible refine wp_rowAppend rfl (.tmp 26) (.tmp 27) 22 rfl 3 i0 _ 8 Try.underlying22 hi hz0 hz1 hz2 rfl _ 0 0 [] rfl hrow.out w.heap.size S n c (vis l) rfl hsrc.out (vis_one _) hb1.out hb2.out n (Nat.zero_add n).symm ?_); intro A1 c1 w1 HR1 hO1 HK1))
    have bl1 : Below w.heap.size w w1 := ((only_nil_below ((Only.refl [] w).alloc (.cells #[] 3)))).trans (hO1.to_below (by simp) (by simp [rowT_some]))
    have hrd1 := HR1.out.reads
    rw [List.nil_append] at hrd1
    have hown : OwnP w w1.heap.size A1 n w1 := by
      intro h0
      have hr1 := HR1.out
      cases hA : A1 with
      | none => have := hr1.none_ hA; have := hr1.le; omega
      | some ad =>
        obtain ⟨g, o, cur, rfl, hb, h1, h2⟩ := hr1.some_ ad hA
        refine ⟨g, o, cur, rfl, hb, by have := hr1.le; omega, ?_, hb.lt⟩
        rcases HK1.out g (by rw [hA]; simp [rowT_some]) with h | h
        · simp [rowT_some] at h; omega
        · simp at h; omega
    refine (new_c hrd1 (Nat.le_refl _) (by omega)).mono ?_
    rintro e w2 ⟨T1, r1, rfl, hW1, hT1, hO2⟩
    have hrow2 := Lib.hid (RowAt.of_blk (Blk.new w2 3 []) (by simp))
    have hO2a : Only [] w2 (w2.alloc (.cells #[] 3)) := (Only.refl [] w2).alloc _
    have bl2 : Below w.heap.size w w2 := Only.below bl1 hO2 bl1.size (by simp)
    have bl2a : Below w.heap.size w (w2.alloc (.cells #[] 3)) := bl2.alloc bl2.size _
    have hsrc2 := Lib.hid (HRD.out.below bl2a)
    have HO2a := Lib.hid hO2a
    clear hO2a hrd1
    go_wp2_with (first
      | ((with_reducible refine wp_rowAppend rfl (.tmp 31) (.tmp 32) 22 rfl 3 i0 _ 8 Try.underlying22 hi hz0 hz1 hz2 rfl _ 0 0 [] rfl hrow2.out w.heap.size S n c (vis l) rfl hsrc2.out (vis_one _) hb1.out hb2.out n (Nat.zero_add n).symm ?_); intro A3 c3 w3 HR3 hO3 HK3; have bl3 := Only.below bl2a hO3 bl2a.size (fun k hk => by simp [rowT_some] at hk; have := bl2.size; omega); have hsrc3 := Lib.hid (HRD2.out.below bl3))
      | ((with_reducible refine wp_rowAppend rfl (.tmp 33) (.tmp 34) 22 rfl 3 i0 _ 8 Try.underlying22 hi hz0 hz1 hz2 rfl A3 n c3 _ rfl HR3.out w.heap.size S' n' c' (vis l') rfl hsrc3.out (vis_one _) hb3.out hb4.out (n + n') rfl ?_); intro A4 c4 w4 HR4 hO4 HK4))
    have hrd4 := HR4.out.reads
    rw [List.nil_append, ← vis_append] at hrd4
    have hO24 : Only [] w2 w4 := by
      refine Only.shed (T := [w2.heap.size] ++ rowT A3) ((HO2a.out.more (by simp)).trans ((hO3.more (by simp [rowT_some])).trans (hO4.more (fun k hk => by simp [hk])))) (fun k hk => ?_)
      simp only [List.mem_append, List.mem_singleton] at hk
      rcases hk with h | h
      · omega
      · rcases HK3.out k h with h | h
        · simp [rowT_some] at h; omega
        · simp at h; omega
    refine (new_c hrd4 (Nat.le_refl _) (by omega)).mono ?_
    rintro e w5 ⟨T2, r2, rfl, hW2, hT2, hO5⟩
    have hpair := pair_made hW1 hT1 hW2 hT2 bl1 hO2 hO24 hO5
    have hO15 : Only [] w1 w5 := hO2.trans (hO24.trans hO5)
    have hown5 : OwnP w w1.heap.size A1 n w5 := fun h0 => by
      obtain ⟨g, o, cs, e1, hb, h1, h2, h3⟩ := hown h0
      exact ⟨g, o, cs, e1, hb.only hO15 (by simp), h1, h2, h3⟩
    clear hrow hsrc hb1 hb2 hb3 hb4 HR1 hO1 HK1 hown hW1 hT1 hO2 hrow2 bl2 bl2a hsrc2 HO2a HR3 hO3 HK3 bl3 hsrc3 HR4 hO4 HK4 hrd4 hO24 hW2 hT2 hO5 hO15
    go_wp2_with fail
    refine (pair_call1b hpair (wr_thing _ _) (extend_fact (HRD2.out.below hpair.below) (by simp [HL.out]; omega))).mono ?_
    rintro e w6 ⟨rfl, hp6, hbB⟩
    simp only at hp6
    clear hpair
    have hown6 : OwnP w w1.heap.size A1 n w6 := fun h0 => by
      obtain ⟨g, o, cs, e1, hb, h1, h2, h3⟩ := hown5 h0
      exact ⟨g, o, cs, e1, hb.below hbB h3, h1, h2, h3⟩
    clear hbB
    go_wp2_with fail
    go_loopw [48] (fun i wr => ∃ j : Nat, j ≤ n ∧ i = .int .i64 j ∧ Pair (Wr r1 ⟨[], l ++ l', 0, false⟩) (Wr r2 ⟨[], l ++ l', 0, false⟩) w w1.heap.size wr ∧ OwnP w w1.heap.size A1 n wr) (fun i _ => n - (intOf i).toNat)
    case atStart => exact ⟨0, Nat.zero_le _, rfl, hp6, hown6⟩
    case round =>
      clear hp6 hown6 hown5
      obtain ⟨j, hj, rfl, hp, hown⟩ := hrel
      by_cases hlt : j < n
      · obtain ⟨g, o, cs, rfl, hb, h1, h2, h3⟩ := hown (by omega)
        have hcell : wr.cell? ⟨g, o + j, none⟩ = some (cs[o + j]'(by omega)) := by rw [hb.cell, List.getElem?_eq_getElem]
        have hfree := hb.free (o + j)
        have hp' := Lib.hid (hp.only (wr_thing _ _) (wr_thing _ _) (((Only.refl [g] wr).setCell (p := ⟨g, o + j, none⟩) (.inl (by simp)) (.int .i64 (-1)))) (by simp; omega))
        have hown' : Hid (OwnP w w1.heap.size (some ⟨g, o, none⟩) n (wr.setCell ⟨g, o + j, none⟩ (.int .i64 (-1)))) := fun _ => ⟨g, o, _, rfl, hb.set_ _ _, by simpa using h1, h2, h3⟩
        clear hp hown hb
        go_wp2
        go_roundw
        case rel => exact ⟨j + 1, by omega, by go_num, hp'.out, hown'.out⟩
        case measure => simp [intOf]; omega
      · clear hown
        go_wp2_with fail
        go_loopw [57] (fun i wr => ∃ (j : Nat) (s : WSt), j ≤ k ∧ i = .int .i64 j ∧ Pair (Wr r1 s) (Wr r2 s) w w1.heap.size wr ∧ Sofar ps j s) (fun i _ => k - (intOf i).toNat)
        case atStart => exact ⟨0, _, Nat.zero_le _, rfl, hp, ⟨by simp, by simp⟩⟩
        case round =>
          clear hp
          obtain ⟨i, s, hik, rfl, hI, hsf⟩ := hrel
          by_cases hlt2 : i < k
          · obtain ⟨p, g, o, hp, rfl, hg, hcell, hat⟩ := (HP.out.below hI.below).piece hlt2
            have hpm := total_mem (List.mem_of_getElem? hp)
            have hacc := hsf.acc
            have hcl := hsf.calls
            have htk := total_take_all ps i
            generalize hst : wstep s p.b = q
            obtain ⟨n1, e1, s1⟩ := q
            have hsf1 := hsf.step hp hat hst
            obtain ⟨pA, pm, pc, pb⟩ := p
            obtain ⟨a1, a2, a3, a4⟩ := hat
            simp only at hcell a1 a2 a3 a4 hpm hst
            have HW := Lib.hid (pair_call1 hI (wr_thing _ _) (write_fact a4 hI.below.size n1 e1 s1 hst (by omega) a2 a3 (by omega)))
            have HW2 : Hid (∀ w', Pair (Wr r1 s1) (Wr r2 s) w w1.heap.size w' → Calls Try.prog 10 #[.pointer (some ⟨r2, 0, none⟩), .slice pA pm pc] w' fun e w'' => e = .returned (.tuple #[.int .i64 n1, .int .i64 e1]) ∧ Pair (Wr r1 s1) (Wr r2 s1) w w1.heap.size w'') := fun w' h' =>
              pair_call2 h' (wr_thing _ _) (write_fact (a4.swap hI.below h'.below) h'.below.size n1 e1 s1 hst (by omega) a2 a3 (by omega))
            have HS := Lib.hid hsf1
            clear hp a1 a4 hI hsf hst hsf1 hacc hcl htk
            unfold maxLen at a3
            go_wp2_with fail
            refine HW.out.mono ?_
            rintro e w7 ⟨rfl, hp7⟩
            go_wp2_with fail
            refine (HW2.out _ hp7).mono ?_
            rintro e w8 ⟨rfl, hp8⟩
            go_wp2_with fail
            go_roundw
            case rel => exact ⟨i + 1, s1, by omega, by go_num, hp8, HS.out⟩
            case measure => simp [intOf]; omega
          · clear hsf
            obtain ⟨al, hal⟩ : ∃ al, al = s.acc.length := ⟨_, rfl⟩
            obtain ⟨ll, hll⟩ : ∃ ll, ll = s.left.length := ⟨_, rfl⟩
            have HA := Lib.hid hal
            have HLL := Lib.hid hll
            clear hal hll
            go_wp2_with fail
            refine region_begin (T := []) (by kernel_rfl) ?_
            have hWD := hI.quiet (wr_thing _ _) (wr_thing _ _) ((Only.refl [] wr).drew)
            clear hI
            generalize wr.drew = W3 at hWD ⊢
            refine region_call 0 (by kernel_rfl) rfl (by rfl) (by go_simp; exact ⟨rfl, rfl⟩) ?_
            refine (alive_any _).mono ?_; rintro e w4 ⟨rfl, hO4⟩; refine ⟨_, rfl, hO4, ?_⟩
            have hp4 := hWD.quiet (wr_thing _ _) (wr_thing _ _) hO4
            simp only [List.getElem_toArray, List.getElem_cons_zero, List.getElem_cons_succ, Act.put, List.setIfInBounds_toArray, List.set_cons_zero, List.set_cons_succ]
            refine region_seg [false, true, true, false, false, true] 14 (by kernel_rfl) (by kernel_rfl) (by kernel_rfl) rfl (fun _ _ d _ _ h => by cases d <;> exact h) ?_
            repeat (first | with_reducible refine wpMask_pass ?_ | (refine wpMask_want (by rfl) (fun K hK => ?_); go_big_quiet_op; refine hK _ ?_; clear hK K))
            with_reducible refine wpMask_nil ?_
            refine region_call 3 (by kernel_rfl) rfl (by rfl) (by go_simp; exact ⟨rfl, rfl⟩) ?_
            refine (hp4.bytes al HA.out).mono ?_; rintro e w5 ⟨G, gd, rfl, hG, hO5⟩; refine ⟨_, rfl, hO5, ?_⟩
            have hp5 := hp4.quiet (wr_thing _ _) (wr_thing _ _) hO5
            have s2 := fun x : Later [] w5 => strAt_of (hG.only' x.h (Nat.le_refl _) (by simp)) gd
            unfold StrAt at s2
            simp only [List.getElem_toArray, List.getElem_cons_zero, List.getElem_cons_succ, Act.put, List.setIfInBounds_toArray, List.set_cons_zero, List.set_cons_succ]
            refine region_seg [false, false, false, false, true] 12 (by kernel_rfl) (by kernel_rfl) (by kernel_rfl) rfl (fun _ _ d _ _ h => by cases d <;> exact h) ?_
            repeat (first | with_reducible refine wpMask_pass ?_ | (refine wpMask_want (by rfl) (fun K hK => ?_); go_big_quiet_op; refine hK _ ?_; clear hK K))
            with_reducible refine wpMask_nil ?_
            refine region_call 6 (by kernel_rfl) rfl (by rfl) (by go_simp; exact ⟨rfl, rfl⟩) ?_
            refine (hp5.swap.bytes al HA.out).mono ?_; rintro e w6 ⟨G', gd', rfl, hG', hO6⟩; refine ⟨_, rfl, hO6, ?_⟩
            have hp6 := hp5.quiet (wr_thing _ _) (wr_thing _ _) hO6
            have s3 := fun x : Later [] w6 => strAt_of (hG'.only' x.h (Nat.le_refl _) (by simp)) gd'
            unfold StrAt at s3
            simp only [List.getElem_toArray, List.getElem_cons_zero, List.getElem_cons_succ, Act.put, List.setIfInBounds_toArray, List.set_cons_zero, List.set_cons_succ]
            refine region_seg [false, false, false, false, false, false, false, true, true, true, true, true, false, true] 5 (by kernel_rfl) (by kernel_rfl) (by kernel_rfl) rfl (fun _ _ d _ _ h => by cases d <;> exact h) ?_
            repeat (first | with_reducible refine wpMask_pass ?_ | (refine wpMask_want (by rfl) (fun K hK => ?_); go_big_quiet_op; refine hK _ ?_; clear hK K))
            with_reducible refine wpMask_nil ?_
            refine region_call 12 (by kernel_rfl) rfl (by rfl) (by go_simp; exact ⟨rfl, rfl⟩) ?_
            refine (hp6.left ll HLL.out).mono ?_; rintro e _ ⟨rfl, rfl⟩; refine ⟨_, rfl, Only.refl _ _, ?_⟩
            simp only [List.getElem_toArray, List.getElem_cons_zero, List.getElem_cons_succ, Act.put, List.setIfInBounds_toArray, List.set_cons_zero, List.set_cons_succ]
            refine region_call 14 (by kernel_rfl) rfl (by rfl) (by go_simp; exact ⟨rfl, rfl⟩) ?_
            refine (hp6.swap.left ll HLL.out).mono ?_; rintro e _ ⟨rfl, rfl⟩; refine ⟨_, rfl, Only.refl _ _, ?_⟩
            simp only [List.getElem_toArray, List.getElem_cons_zero, List.getElem_cons_succ, Act.put, List.setIfInBounds_toArray, List.set_cons_zero, List.set_cons_succ]
            refine region_seg [false, false, false, false, false, false, false, false, false, false, false, false, false, false, false, true, true, true] 0 (by kernel_rfl) (by kernel_rfl) (by kernel_rfl) rfl (fun _ _ d _ _ h => by cases d <;> exact h) ?_
            repeat (first | with_reducible refine wpMask_pass ?_ | (refine wpMask_want (by rfl) (fun K hK => ?_); go_big_quiet_op; refine hK _ ?_; clear hK K))
            with_reducible refine wpMask_nil ?_
            refine region_end (by kernel_rfl) ?_
            go_wp2
            go_ret
            exact ⟨rfl, hp6.below⟩

end Go.Proofs.Ytfgomjcdgfagbaa
