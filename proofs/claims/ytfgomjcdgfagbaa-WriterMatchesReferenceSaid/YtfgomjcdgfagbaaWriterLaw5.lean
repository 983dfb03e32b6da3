/-
  The law WriterMatchesReference, walked.
-/
import Derived.Test.YtfgomjcdgfagbaaWrefWrite
namespace Go.Proofs.Ytfgomjcdgfagbaa
open Go.RowKit Go.BigFrame
set_option linter.unusedVariables false
set_option linter.unusedSimpArgs false
attribute [local go_sem ↓] sliced_cut run_min2 run_max2
attribute [local go_sem] cutA_zero

section
variable {Q : World → List Nat → Prop} {w0 w : World} {B r : Nat} {full : List Int} {s : WSt}
theorem rwrite_fact {X : Option Addr} {m cap : Nat} {b : List UInt8} (hb : Reads w w0.heap.size X m (vbs b)) (hw : w0.heap.size ≤ w.heap.size) (n e : Nat) (s' : WSt) (hs : wstep s b = (n, e, s'))
    (hmc : m ≤ cap) (hcm : cap ≤ maxLen) (hsum : s.acc.length + m ≤ 70368744177664) : ∀ T, Rf r full s w T → (∀ k, k ∈ T → w0.heap.size ≤ k) →
    Calls Try.prog 19 #[.pointer (some ⟨r, 0, none⟩), .slice X m cap] w fun e' w' => e' = .returned (.tuple #[.int .i64 n, .int .i64 e]) ∧ ∃ T', Rf r full s' w' T' ∧ (∀ k, k ∈ T' → k ∈ T ∨ w.heap.size ≤ k) ∧ Only T w w' :=
  fun T hW hT => rwrite_c hW hb hw n e s' hs hmc hcm (apart_of hb hT) hsum
theorem rextend_fact {X : Option Addr} {m c : Nat} {ns : List Int} {B' : Nat} (hr : Reads w B' X m (vis ns)) (hB : B' ≤ w.heap.size) (hm : full.length + m ≤ 17592186044416) : ∀ T, Rf r full s w T → (∀ k, k ∈ T → w0.heap.size ≤ k) →
    Calls Try.prog 18 #[.pointer (some ⟨r, 0, none⟩), .slice X m c] w fun e w' => e = .returned (.tuple #[]) ∧ ∃ T', Rf r (full ++ ns) { s with left := s.left ++ ns } w' T' ∧ (∀ k, k ∈ T' → k ∈ T ∨ w.heap.size ≤ k) ∧ Only T w w' :=
  fun T hW hT => ref_extend hW hr hB hm
/-- What the law reads of the reference. -/
def RefShows (w : World) (r f al q : Nat) (A : Option Addr) (c : Nat) (L : Option Addr) (d : Nat) (acc : List UInt8) : Prop := ∀ w', Only [] w w' →
  w'.cell? ⟨r, 0, none⟩ = some (.slice L f d) ∧ w'.cell? ⟨r, 1, none⟩ = some (.slice A al c) ∧ w'.cell? ⟨r, 2, none⟩ = some (.int .i64 q) ∧ StrAt w' A al c acc
theorem Pair.shows (h : Pair Q (Rf r full s) w0 B w) (f al : Nat) (hf : f = full.length) (hal : al = s.acc.length) : ∃ A c L d, RefShows w r f al s.calls A c L d s.acc := by
  obtain ⟨T, U, _, ⟨A, c, L, d, h2⟩, _⟩ := h
  subst hf hal
  refine ⟨A, c, L, d, fun w' hO => ?_⟩
  have h := h2.only hO
  exact ⟨h.head.cell 0, h.head.cell 1, h.head.cell 2, strAt_of h.acc.reads c⟩
theorem Pair.rest (h : Pair Q (Rf r full s) w0 B w) : s.left.length + s.calls = full.length := by
  obtain ⟨T, U, _, ⟨A, c, L, d, h2⟩, _⟩ := h
  have := h2.rest
  have := h2.used
  rw [h2.rest]
  simp
  omega
end

theorem pair_made_ref {w w1 w2 w4 : World} {T1 T2 : List Nat} {r1 r2 : Nat} {s1 s2 : WSt} {full : List Int} (h1 : WriterOf w2 T1 r1 s1) (hT1 : ∀ k, k ∈ T1 → w1.heap.size ≤ k) (h2 : Rf r2 full s2 w4 T2) (hT2 : ∀ k, k ∈ T2 → w2.heap.size ≤ k)
    (bl1 : Below w.heap.size w w1) (hO2 : Only [] w1 w2) (hO4 : Only [] w2 w4) : Pair (Wr r1 s1) (Rf r2 full s2) w w1.heap.size w4 := by
  have a1 := hO2.size
  have a2 := hO4.size
  refine ⟨T1, T2, h1.only hO4 (by simp), h2, fun k hk hk' => ?_, hT1, fun k hk => by have := hT2 k hk; omega, ?_, bl1.size, by omega⟩
  · have := h1.lt k hk
    have := hT2 k hk'
    omega
  · exact Only.below bl1 (hO2.trans hO4) bl1.size (by simp)

set_option maxRecDepth 100000 in
set_option maxHeartbeats 6000000 in
theorem match_walk (S : Option Addr) (n c : Nat) (l : List Int) (X : Option Addr) (k d : Nat) (ps : List PieceV) (S' : Option Addr) (n' c' : Nat) (l' : List Int) (w : World)
    (hs : l.length = n ∧ n ≤ c ∧ c ≤ maxLen ∧ Reads w w.heap.size S n (l.map (Value.int .i64)) ∧ ∀ z ∈ l, (Lit.int .i64 z).wf = true)
    (hp : PiecesIn w X k d ps)
    (hs' : l'.length = n' ∧ n' ≤ c' ∧ c' ≤ maxLen ∧ Reads w w.heap.size S' n' (l'.map (Value.int .i64)) ∧ ∀ z ∈ l', (Lit.int .i64 z).wf = true) :
    Calls Try.prog 3 #[.slice S n c, .slice X k d, .slice S' n' c'] w fun e w' => e = .returned (.bool true) ∧ Below w.heap.size w w' := by
  obtain ⟨hl, hnc, hcm, hrd, hwf⟩ := hs
  obtain ⟨hl2, hnc2, hcm2, hrd2, hwf2⟩ := hs'
  obtain ⟨hP, hkd, hdm, hreach⟩ := hp
  have HL := Lib.hid hl
  have HL2 := Lib.hid hl2
  have HRD : Hid (Reads w w.heap.size S n (vis l)) := hrd
  have HRD2 : Hid (Reads w w.heap.size S' n' (vis l')) := hrd2
  have hO0 : Only [] w (w.alloc (.cells #[.int .i64 1] 3)) := (Only.refl [] w).alloc _
  have HTL := Lib.hid (tooLarge_any (S := S) (n := n) (c := c) (hP.below (only_nil_below hO0)) (PiecesIn.sum ⟨hP, hkd, hdm, hreach⟩) hnc hcm hkd hdm)
  have HP := Lib.hid hP
  have hdm' := hdm
  have hcm' := hcm
  have hcm2' := hcm2
  unfold maxLen at hdm' hcm' hcm2'
  clear hl hrd hwf hP hreach hl2 hrd2 hwf2
  go_enter Try.func3, Try.ntmps3
  go_wp2_with (first
    | (go_at_call 9; refine (extend_nil _ _).mono ?_; rintro e w' ⟨rfl, rfl⟩)
    | (go_at_call 10; refine (write_nil _ _).mono ?_; rintro e w' ⟨rfl, rfl⟩)
    | (go_at_call 11; refine (bytes_nil _).mono ?_; rintro e w' ⟨rfl, rfl⟩)
    | (go_at_call 12; refine (calls_nil _).mono ?_; rintro e w' ⟨rfl, rfl⟩)
    | (go_at_call 13; refine (left_nil _).mono ?_; rintro e w' ⟨rfl, rfl⟩))
  refine HTL.out.mono ?_
  rintro e w1 ⟨v, rfl, rfl, hsm⟩
  generalize (w.alloc (.cells #[.int .i64 1] 3)) = w1 at hO0 ⊢
  clear HTL
  by_cases hbig : v = true ∨ (300 : Int) < (n' : Int)
  · have h3 : v = true ∨ (v = false ∧ (300 : Int) < (n' : Int)) := by cases v <;> simp at hbig ⊢; exact hbig
    clear hbig hsm
    rcases h3 with rfl | ⟨rfl, h3⟩
    all_goals
      go_wp2_with (go_at_call 15; refine (alive_any _).mono ?_; rintro e w2 ⟨rfl, hO2⟩)
      go_ret
      exact ⟨rfl, only_nil_below (hO0.trans hO2)⟩
  · obtain rfl : v = false := by cases v <;> simp_all
    have hn2 : (n' : Int) ≤ 300 := by omega
    obtain ⟨hn300, hk300, htot⟩ := hsm rfl
    clear hsm hbig
    have bl1 := only_nil_below hO0
    have HNW := Lib.hid (new_c (c := c) (HRD.out.below bl1) hO0.size (by omega))
    have HNR : Hid (∀ w2, Only [] w1 w2 → Calls Try.prog 17 #[.slice S n c] w2 fun e w' => ∃ T r, e = .returned (.pointer (some ⟨r, 0, none⟩)) ∧ Rf r l ⟨[], l, 0, false⟩ w' T ∧ (∀ k, k ∈ T → w2.heap.size ≤ k) ∧ Only [] w2 w') := fun w2 hO =>
      ref_new ((HRD.out.below bl1).only' hO hO0.size (by simp)) (Nat.le_trans hO0.size hO.size) (by omega)
    clear hO0
    go_wp2_with fail
    refine HNW.out.mono ?_
    rintro e w2 ⟨T1, r1, rfl, hW1, hT1, hO2⟩
    go_wp2_with fail
    refine (HNR.out _ hO2).mono ?_
    rintro e w3 ⟨T2, r2, rfl, hW2, hT2, hO3⟩
    have hpair := pair_made_ref hW1 hT1 hW2 hT2 bl1 hO2 hO3
    generalize w1.heap.size = B at hpair
    obtain ⟨hlf, hh⟩ : ∃ hlf, hlf = k / 2 := ⟨_, rfl⟩
    have hq1 : (k : Int).tdiv 2 = (hlf : Int) := by rw [hh]; rfl
    have hq2 : (k : Int) / 2 = (hlf : Int) := by omega
    clear hW1 hT1 hO2 hW2 hT2 hO3 bl1 HNW HNR hh
    go_wp2_with fail
    go_loopw [65] (fun i wr => ∃ (j : Nat) (s : WSt) (full : List Int), j ≤ k ∧ i = .int .i64 j ∧ Pair (Wr r1 s) (Rf r2 full s) w B wr ∧ Sofar ps j s ∧ full.length ≤ 300 + 300 * j) (fun i _ => k - (intOf i).toNat)
    case atStart => exact ⟨0, _, _, Nat.zero_le _, rfl, hpair, ⟨by simp, by simp⟩, by rw [HL.out]; omega⟩
    case round =>
      clear hpair
      obtain ⟨i, s, full, hik, rfl, hI, hsf, hfl⟩ := hrel
      by_cases hlt : i < k
      · obtain ⟨p, g, o, hp, rfl, hg, hcell, hat⟩ := (HP.out.below hI.below).piece hlt
        have HPT := Lib.hid hp
        obtain ⟨pA, pm, pc, pb⟩ := p
        simp only at hcell
        have hbw := hI.below
        have HAT : Hid (∀ w', Below w.heap.size w w' → (⟨pA, pm, pc, pb⟩ : PieceV).at w' w.heap.size) := fun w' hb => ⟨hat.1, hat.2.1, hat.2.2.1, hat.2.2.2.swap hbw hb⟩
        have hpcm := hat.2.2.1
        have hpmc := hat.2.1
        simp only at hpcm hpmc
        unfold maxLen at hpcm
        clear hp hat
        have hfl2 : full.length ≤ 90300 := by omega
        have hrest := hI.rest
        by_cases hhalf : i = hlf
        case' pos =>
          subst hhalf
          have HE := Lib.hid (pair_call1 hI (rf_thing _ _ _) (extend_fact (c := c') (HRD2.out.below hI.below) (by omega)))
          have HE2 : Hid (∀ w', Pair (Wr r1 { s with left := s.left ++ l' }) (Rf r2 full s) w B w' → Calls Try.prog 18 #[.pointer (some ⟨r2, 0, none⟩), .slice S' n' c'] w' fun e w'' => e = .returned (.tuple #[]) ∧ Pair (Wr r1 { s with left := s.left ++ l' }) (Rf r2 (full ++ l') { s with left := s.left ++ l' }) w B w'') := fun w' h' =>
            pair_call2 h' (wr_thing _ _) (rextend_fact (HRD2.out.below h'.below) h'.below.size (by omega))
          have hsf8 : Sofar ps i { s with left := s.left ++ l' } := ⟨hsf.acc, hsf.calls⟩
          have hfl8 : (full ++ l').length ≤ 300 + 300 * (i + 1) := by rw [List.length_append, HL2.out]; omega
          have HSF := Lib.hid hsf8
          have HFL := Lib.hid hfl8
          clear hI hsf hrest hfl hfl2 hsf8 hfl8 hbw
          go_wp2_with fail
          refine HE.out.mono ?_
          rintro e w7 ⟨rfl, hp7⟩
          go_wp2_with fail
          refine (HE2.out _ hp7).mono ?_
          rintro e w8 ⟨rfl, hp8⟩
          clear HE HE2 hp7
          have hsf := HSF.out
          have hfl3 := HFL.out
          clear HSF HFL
          generalize ({ s with left := s.left ++ l' } : WSt) = s at hp8 hsf
          generalize full ++ l' = full at hp8 hfl3
          have hI := hp8
          clear hp8
        case' neg =>
          have hhalf1 : ¬ ((i : Int) = (hlf : Int)) := by omega
          have hfl3 : full.length ≤ 300 + 300 * (i + 1) := by omega
          clear hrest hfl hfl2 hbw
        all_goals
          have hrest := hI.rest
          obtain ⟨a1, a2, a3, a4⟩ := HAT.out _ hI.below
          have hpm := total_mem (List.mem_of_getElem? HPT.out)
          have hacc := hsf.acc
          have hcl := hsf.calls
          have htk := total_take_all ps i
          generalize hst : wstep s pb = q
          obtain ⟨n1, e1, s1⟩ := q
          have hsf1 := hsf.step HPT.out (HAT.out _ hI.below) hst
          simp only at a1 a2 a3 a4 hpm
          have HW := Lib.hid (pair_call1 hI (rf_thing _ _ _) (write_fact a4 hI.below.size n1 e1 s1 hst (by omega) a2 a3 (by omega)))
          have HW2 : Hid (∀ w', Pair (Wr r1 s1) (Rf r2 full s) w B w' → Calls Try.prog 19 #[.pointer (some ⟨r2, 0, none⟩), .slice pA pm pc] w' fun e w'' => e = .returned (.tuple #[.int .i64 n1, .int .i64 e1]) ∧ Pair (Wr r1 s1) (Rf r2 full s1) w B w'') := fun w' h' =>
            pair_call2 h' (wr_thing _ _) (rwrite_fact ((HAT.out _ h'.below).2.2.2) h'.below.size n1 e1 s1 hst a2 a3 (by show s.acc.length + pm ≤ _; omega))
          have HS := Lib.hid hsf1
          have HFL := Lib.hid hfl3
          clear a1 a2 a3 a4 hI hsf hst hsf1 hacc hcl htk hrest hpm hfl3
          go_wp2_with fail
          refine HW.out.mono ?_
          rintro e w9 ⟨rfl, hp9⟩
          go_wp2_with fail
          refine (HW2.out _ hp9).mono ?_
          rintro e w10 ⟨rfl, hp10⟩
          clear HW HW2 hp9
          go_wp2_with fail
          refine region_begin (T := []) (by kernel_rfl) ?_
          have hWD := hp10.quiet (wr_thing _ _) (rf_thing _ _ _) ((Only.refl [] w10).drew)
          clear hp10
          generalize w10.drew = W3 at hWD ⊢
          obtain ⟨al, hal⟩ : ∃ al, al = s1.acc.length := ⟨_, rfl⟩
          obtain ⟨ll, hll⟩ : ∃ ll, ll = s1.left.length := ⟨_, rfl⟩
          obtain ⟨f, hf⟩ : ∃ f, f = full.length := ⟨_, rfl⟩
          obtain ⟨rA, rc, rL, rd, hsh⟩ := hWD.shows f al hf hal
          have HSH := Lib.hid hsh
          have hrest := hWD.rest
          have hflm := HFL.out
          have hsub' : (f : Int) - (s1.calls : Int) = (ll : Int) := by omega
          have hsub : IntKind.i64.wrap ((f : Int) - (s1.calls : Int)) = (ll : Int) := by rw [IntWalk.i64_in _ (by omega)]; exact hsub'
          have hllb : (ll : Int) ≤ 200000 := by omega
          have HA := Lib.hid hal
          have HLL := Lib.hid hll
          have HF := Lib.hid hf
          have HWD := Lib.hid hWD
          clear hal hll hf hsh hrest hflm hWD
          have t0 := fun x : Later [] W3 => (HSH.out x.w x.h).1
          have t1 := fun x : Later [] W3 => (HSH.out x.w x.h).2.1
          have t2 := fun x : Later [] W3 => (HSH.out x.w x.h).2.2.1
          have ts := fun x : Later [] W3 => (HSH.out x.w x.h).2.2.2
          unfold StrAt at ts
          refine region_seg [true, true, true, true, true, true, true, true, true, true, false, false, true, true, true, true, true] 28 (by kernel_rfl) (by kernel_rfl) (by kernel_rfl) rfl (fun _ _ d _ _ h => by cases d <;> exact h) ?_
          repeat (first | with_reducible refine wpMask_pass ?_ | (refine wpMask_want (by rfl) (fun K hK => ?_); go_big_quiet_op; refine hK _ ?_; clear hK K))
          with_reducible refine wpMask_nil ?_
          refine region_call 10 (by kernel_rfl) rfl (by rfl) (by go_simp; exact ⟨rfl, rfl⟩) ?_
          refine (HWD.out.bytes al HA.out).mono ?_; rintro e w5 ⟨G, gd, rfl, hG, hO5⟩; refine ⟨_, rfl, hO5, ?_⟩
          simp only [List.getElem_toArray, List.getElem_cons_zero, List.getElem_cons_succ, Act.put, List.setIfInBounds_toArray, List.set_cons_zero, List.set_cons_succ]
          clear t0 t1 t2 ts
          have hp5 := Lib.hid (HWD.out.quiet (wr_thing _ _) (rf_thing _ _ _) hO5)
          have t0 := fun x : Later [] w5 => (HSH.out x.w (hO5.trans x.h)).1
          have t1 := fun x : Later [] w5 => (HSH.out x.w (hO5.trans x.h)).2.1
          have t2 := fun x : Later [] w5 => (HSH.out x.w (hO5.trans x.h)).2.2.1
          have ts := fun x : Later [] w5 => (HSH.out x.w (hO5.trans x.h)).2.2.2
          unfold StrAt at ts
          have s2 := fun x : Later [] w5 => strAt_of (hG.only' x.h (Nat.le_refl _) (by simp)) gd
          unfold StrAt at s2
          refine region_seg [false, false, false, false, false, false, false, false, false, false, false, true, false, false, false, false, false, true, true, true, true, false, true, true, true, true] 18 (by kernel_rfl) (by kernel_rfl) (by kernel_rfl) rfl (fun _ _ d _ _ h => by cases d <;> exact h) ?_
          repeat (first | with_reducible refine wpMask_pass ?_ | (refine wpMask_want (by rfl) (fun K hK => ?_); go_big_quiet_op; refine hK _ ?_; clear hK K))
          with_reducible refine wpMask_nil ?_
          refine region_call 21 (by kernel_rfl) rfl (by rfl) (by go_simp; exact ⟨rfl, rfl⟩) ?_
          refine (hp5.out.calls s1.calls rfl).mono ?_; rintro e _ ⟨rfl, rfl⟩; refine ⟨_, rfl, Only.refl _ _, ?_⟩
          simp only [List.getElem_toArray, List.getElem_cons_zero, List.getElem_cons_succ, Act.put, List.setIfInBounds_toArray, List.set_cons_zero, List.set_cons_succ]
          refine region_seg [false, false, false, false, false, false, false, false, false, false, false, false, false, false, false, false, false, false, false, false, false, false, false, false, false, false, true, true, true, true, false, true, true, true, true, true, true, true, true, true, true] 3 (by kernel_rfl) (by kernel_rfl) (by kernel_rfl) rfl (fun _ _ d _ _ h => by cases d <;> exact h) ?_
          repeat (first | with_reducible refine wpMask_pass ?_ | (refine wpMask_want (by rfl) (fun K hK => ?_); go_big_quiet_op; refine hK _ ?_; clear hK K))
          with_reducible refine wpMask_nil ?_
          refine region_call 30 (by kernel_rfl) rfl (by rfl) (by go_simp; exact ⟨rfl, rfl⟩) ?_
          refine (hp5.out.left ll HLL.out).mono ?_; rintro e _ ⟨rfl, rfl⟩; refine ⟨_, rfl, Only.refl _ _, ?_⟩
          simp only [List.getElem_toArray, List.getElem_cons_zero, List.getElem_cons_succ, Act.put, List.setIfInBounds_toArray, List.set_cons_zero, List.set_cons_succ]
          refine region_seg [false, false, false, false, false, false, false, false, false, false, false, false, false, false, false, false, false, false, false, false, false, false, false, false, false, false, false, false, false, false, false, false, false, false, false, false, false, false, false, false, false, true, true] 0 (by kernel_rfl) (by kernel_rfl) (by kernel_rfl) rfl (fun _ _ d _ _ h => by cases d <;> exact h) ?_
          repeat (first | with_reducible refine wpMask_pass ?_ | (refine wpMask_want (by rfl) (fun K hK => ?_); go_big_quiet_op; refine hK _ ?_; clear hK K))
          with_reducible refine wpMask_nil ?_
          refine region_end (by kernel_rfl) ?_
          clear t0 t1 t2 ts s2
          go_wp2_with fail
          go_roundw
          case rel => exact ⟨i + 1, s1, full, by omega, by go_num, hp5.out, HS.out, HFL.out⟩
          case measure => simp [intOf]; omega
      · clear hsf hfl
        go_wp2_with (go_at_call 15; refine (alive_any _).mono ?_; rintro e w2 ⟨rfl, hO2⟩)
        go_ret
        exact ⟨rfl, (hI.quiet (wr_thing _ _) (rf_thing _ _ _) hO2).below⟩

end Go.Proofs.Ytfgomjcdgfagbaa
