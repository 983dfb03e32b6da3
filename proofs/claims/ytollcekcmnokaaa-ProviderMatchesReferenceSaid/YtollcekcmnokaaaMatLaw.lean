/-
  The law ProviderMatchesReference, walked.
-/
import Derived.Test.YtollcekcmnokaaaDuo10
import Derived.Test.YtollcekcmnokaaaOpen10
namespace Go.Proofs.Ytollcekcmnokaaa
open Go.RowKit Go.BigFrame
set_option linter.unusedVariables false
set_option linter.unusedSimpArgs false

theorem pullA_len (ps : List ByteArray) (name : ByteArray) : (pullA ps name).length ≤ ps.length + 1 := by
  unfold pullA
  split
  · simp
  · omega
theorem in_bel {t : VT} {w W : World} (h : t.In w (· < w.heap.size)) (hb : Bel w W) : t.In W (· < W.heap.size) := h.bel hb
set_option maxRecDepth 100000 in
set_option maxHeartbeats 6400000 in
theorem matLaw (F : Option Addr) (m d : Nat) (x : List ByteArray × List VT) (L : Option Addr) (n lc : Nat) (fail : List ByteArray) (NA : Option Addr) (q nc : Nat) (names : List ByteArray) (w : World) (hI : CameF w F m d x) (hL : Came w L n fail) (hN : Came w NA q names) :
    Calls Try.prog 3 #[.slice F m d, .slice L n lc, .slice NA q nc] w fun e w' => e = .returned (.bool true) ∧ Below w.heap.size w w' := by
  obtain ⟨ks, vs⟩ := x
  obtain ⟨hm, hI⟩ := hI
  have hm : vs.length = m := hm
  have hI : (mapT F d ks vs).In w (· < w.heap.size) := hI
  obtain ⟨hn, hL, hn16, hls⟩ := hL
  obtain ⟨hq, hNS, hq16, hns⟩ := hN
  have HA := Lib.hid alive10_c
  have HGN : Hid (∀ W : World, Calls Try.prog 6 #[.pointer none, .string ⟨#[97]⟩] W fun e w' => e = .returned (.tuple #[.agg #[.int .i64 0, .string ByteArray.empty, .int .i64 0, .bool false, .slice none 0 0, .slice none 0 0], .int .i64 1]) ∧ Bel W w') := Lib.hid (fun W => get_nil W ⟨#[97]⟩)
  have HPN := Lib.hid pulls_nil
  have HTL : Hid (∀ W : World, Bel w W → Calls Try.prog 8 #[.slice F m d, .slice L n lc] W fun e w' => ∃ r : Int, 0 ≤ r ∧ r ≤ 1 ∧ e = .returned (.int .i64 r) ∧ Bel W w' ∧ (r ≤ 0 → m ≤ 100 ∧ n ≤ 100)) := Lib.hid (fun W hb => by
    have h := tooLarge10_c F d ks vs (.bool true) n lc L W (hI.bel hb) (by omega)
    rw [hm] at h
    exact h)
  have HNW : Hid (∀ W : World, Bel w W → Calls Try.prog 10 #[.slice F m d, .slice L n lc] W (NewR (mapT F d ks vs) fail W)) := Lib.hid (fun W hb => by
    have h := New_c F d ks vs L lc fail W (hI.bel hb) (hL.bel hb) (by omega) hls
    rw [hm, hn] at h
    exact h)
  have HRN : Hid (∀ W : World, Bel w W → Calls Try.prog 11 #[.slice F m d, .slice L n lc] W (RfNewR ks vs fail (newE (mapT F d ks vs) fail) w.heap.size W)) := Lib.hid (fun W hb => by
    have h := refNew_c F d ks vs L lc fail w.heap.size W (hI.bel hb) (fun x hx => by
      have hv : x.In w (· < w.heap.size) := by cases hI with | mk _ _ _ _ _ _ _ _ _ _ hv _ => exact hv x hx
      exact hv.only (bel_only hb) (fun g hg => ⟨by simp, hg⟩) (fun g hg => hg)) hb.size (hL.bel hb) (by omega) hls
    rw [hm, hn] at h
    exact h)
  have HNS := Lib.hid hNS
  have HNN := Lib.hid hns
  have HQ := Lib.hid hq
  have HFL : Hid (fail.length ≤ 4611686018427387904) := Lib.hid (by omega)
  clear hI hL hls hNS hns hm hn hq
  have HT := Lib.hid (rfl : mapT F d ks vs = mapT F d ks vs)
  obtain ⟨t, ht⟩ : ∃ t, t = mapT F d ks vs := ⟨_, rfl⟩
  rw [← ht] at HNW HRN
  have HTT := Lib.hid ht
  clear ht HT
  obtain ⟨E, hE⟩ : ∃ E, E = newE t fail := ⟨_, rfl⟩
  rw [← hE] at HRN
  have HE := Lib.hid hE
  clear hE
  by_cases h0 : E = 0
  · have HN1 : Hid (∀ W : World, Bel w W → Calls Try.prog 10 #[.slice F m d, .slice L n lc] W fun e w' => ∃ r T, e = .returned (.tuple #[.pointer (some ⟨r, 0, none⟩), .int .i64 0]) ∧ Bel W w' ∧ Pr t fail r [] w' T ∧ ∀ k, k ∈ T → W.heap.size ≤ k) := Lib.hid (fun W hb => (HNW.out W hb).mono fun e w' h => by
      rcases h with ⟨_, h1⟩ | ⟨h, _⟩
      · exact h1
      · rw [← HE.out] at h; exact absurd h0 h)
    have HN2 : Hid (∀ W : World, Bel w W → Calls Try.prog 11 #[.slice F m d, .slice L n lc] W fun e w' => ∃ r T, e = .returned (.tuple #[.pointer (some ⟨r, 0, none⟩), .int .i64 0]) ∧ Bel W w' ∧ Rf ks vs fail r [] w.heap.size w' T ∧ ∀ k, k ∈ T → W.heap.size ≤ k) := Lib.hid (fun W hb => (HRN.out W hb).mono fun e w' h => by
      rcases h with ⟨_, h1⟩ | ⟨h, _⟩
      · exact h1
      · exact absurd h0 h)
    clear HNW HRN h0 HE
    go_enter Try.func3, Try.ntmps3
    go_wp2_with (first
      | (go_at_call 6; refine (HGN.out _).mono ?_; rintro e w1 ⟨rfl, hb⟩; have HB1 := Lib.hid (fun o => hb.trans (Bel.alloc w1 o)); clear hb)
      | (go_at_call 7; refine (HPN.out _).mono ?_; rintro e w' ⟨rfl, rfl⟩)
      | (go_at_call 8; refine (HTL.out _ (HB1.out _)).mono ?_; rintro e w2 ⟨rr, hr0, hr1, rfl, hb, hsm⟩; have HB2 := Lib.hid ((HB1.out _).trans hb); have HSM := Lib.hid hsm; clear hb hsm)
      | (go_at_call 10; refine (HN1.out _ HB2.out).mono ?_; rintro e w3 ⟨r, T, rfl, hb, hpr, hT⟩; have HB3 := Lib.hid hb; have HPR := Lib.hid (And.intro hpr hT); clear hb hpr hT)
      | (go_at_call 11; refine (HN2.out _ (HB2.out.trans HB3.out)).mono ?_; rintro e w4 ⟨r2, U, rfl, hb, hrf, hU⟩; have HDU := Lib.hid (duo_start HB2.out HB3.out HPR.out.1 HPR.out.2 hb hrf hU); clear hb hrf hU)
      | (go_at_call 9; refine (HA.out _).mono ?_; rintro e w5 ⟨rfl, hb⟩; have HB5 := Lib.hid hb; clear hb))
    all_goals first
      | (go_ret; exact ⟨rfl, HB2.out.trans HB5.out⟩)
      | skip
    have hq100 : (q : Int) ≤ 100 := by
      have h9 : rr ≤ 0 ∧ (q : Int) ≤ 100 := by assumption
      exact h9.2
    generalize decide (0 < rr) = u1
    generalize decide ((100 : Int) < (q : Int)) = u2
    clear HN1 HN2 HTL HGN HPN HSM HB1 HB3 HPR
    go_loopw [70] (fun s70 wr => ∃ (k : Nat) (ps : List ByteArray), k ≤ q ∧ s70 = .int .i64 k ∧ Hid (ps.length ≤ k) ∧ Hid (Duo t ks vs fail r r2 ps ps w wr)) (fun s70 _ => q - (intOf s70).toNat)
    case atStart => exact ⟨0, [], Nat.zero_le _, rfl, Lib.hid (Nat.le_refl _), HDU⟩
    case round =>
      obtain ⟨k, ps, hk, rfl, HPL, HD⟩ := hrel
      by_cases hlt : k < q
      · have hkx : k < names.length := by have := HQ.out; omega
        have hxk := List.getElem?_eq_getElem hkx
        have hs1 := HNN.out _ (List.getElem_mem hkx)
        generalize names[k] = name at hxk hs1
        obtain ⟨g, o, hAA, hg, hc⟩ := HNS.out.at_ hxk
        have c0 := (HD.out.below.cell hg).trans hc
        obtain ⟨pv, c, hgp⟩ : ∃ pv c, getA t fail name = (pv, c) := ⟨_, _, rfl⟩
        have hgp2 : getA (mapT F d ks vs) fail name = (pv, c) := by rw [← HTT.out]; exact hgp
        have hps : ps.length ≤ 1000000 := by have := HPL.out; omega
        obtain ⟨ps', hq⟩ : ∃ ps', pullA ps name = ps' := ⟨_, rfl⟩
        have HPL2 : Hid (ps'.length ≤ k + 1) := Lib.hid (by have h1 := pullA_len ps name; rw [hq] at h1; have := HPL.out; omega)
        have HG1 := Lib.hid (HD.out.get1 name hs1 hps hgp hq)
        have HG2 := Lib.hid (fun b x w5 (hd : DuoB t ks vs fail r r2 ps' ps b x w w5) => hd.get2 name hs1 hps HFL.out hgp2 hq)
        clear hxk hs1 hc hgp hgp2 hps hq
        subst hAA
        go_wp2_with (first
          | (go_at_call 6; refine HG1.out.mono ?_; rintro e w5 ⟨v, rfl, hv, hd⟩; have HD5 := Lib.hid hd; have HV := Lib.hid hv; clear hv hd)
          | (go_at_call 12; refine (HG2.out _ _ _ HD5.out).mono ?_; rintro e w6 ⟨y, rfl, hy, hyi, hd⟩; have HD6 := Lib.hid hd; have HY := Lib.hid hyi; have HVY : Hid (v.plain = y.plain) := Lib.hid (HV.out.trans hy.symm); clear hy hyi hd))
        have HDW : Hid (DuoB t ks vs fail r r2 ps' ps' w5.heap.size v w (w6.alloc (.cells #[.int .i64 y.k, .string y.s, .int .i64 y.n, .bool y.b, .slice y.A y.xs.length y.c, .slice y.F y.vs.length y.d] 27)).drew) := Lib.hid (HD6.out.bel ((Bel.alloc _ _).trans (Bel.drew _)))
        have HBY : Hid (Blk (w6.alloc (.cells #[.int .i64 y.k, .string y.s, .int .i64 y.n, .bool y.b, .slice y.A y.xs.length y.c, .slice y.F y.vs.length y.d] 27)).drew w6.heap.size 27 y.cs) := Lib.hid (Blk.new w6 27 y.cs).drew
        have HYW : Hid (y.In (w6.alloc (.cells #[.int .i64 y.k, .string y.s, .int .i64 y.n, .bool y.b, .slice y.A y.xs.length y.c, .slice y.F y.vs.length y.d] 27)).drew (· < (w6.alloc (.cells #[.int .i64 y.k, .string y.s, .int .i64 y.n, .bool y.b, .slice y.A y.xs.length y.c, .slice y.F y.vs.length y.d] 27)).drew.heap.size)) := Lib.hid (HY.out.bel ((Bel.alloc _ _).trans (Bel.drew _)))
        clear HG1 HG2 HD5 HD6 HY
        refine region_begin (T := []) (by kernel_rfl) ?_
        generalize (w6.alloc (.cells #[.int .i64 y.k, .string y.s, .int .i64 y.n, .bool y.b, .slice y.A y.xs.length y.c, .slice y.F y.vs.length y.d] 27)).drew = W at HDW HBY HYW ⊢
        have HBX := Lib.hid HDW.out.box
        have i0 : ∀ X : Later [] W, X.w.cell? ⟨w5.heap.size, 0, none⟩ = some (.int .i64 v.k) := fun X => (only_cell X.h HBX.out.lt (by simp)).trans (HBX.out.cell 0)
        have i1 : ∀ X : Later [] W, X.w.cell? ⟨w5.heap.size, 1, none⟩ = some (.string v.s) := fun X => (only_cell X.h HBX.out.lt (by simp)).trans (HBX.out.cell 1)
        have i2 : ∀ X : Later [] W, X.w.cell? ⟨w5.heap.size, 2, none⟩ = some (.int .i64 v.n) := fun X => (only_cell X.h HBX.out.lt (by simp)).trans (HBX.out.cell 2)
        have i3 : ∀ X : Later [] W, X.w.cell? ⟨w5.heap.size, 3, none⟩ = some (.bool v.b) := fun X => (only_cell X.h HBX.out.lt (by simp)).trans (HBX.out.cell 3)
        have i4 : ∀ X : Later [] W, X.w.cell? ⟨w5.heap.size, 4, none⟩ = some (.slice v.A v.xs.length v.c) := fun X => (only_cell X.h HBX.out.lt (by simp)).trans (HBX.out.cell 4)
        have i5 : ∀ X : Later [] W, X.w.cell? ⟨w5.heap.size, 5, none⟩ = some (.slice v.F v.vs.length v.d) := fun X => (only_cell X.h HBX.out.lt (by simp)).trans (HBX.out.cell 5)
        have j0 : ∀ X : Later [] W, X.w.cell? ⟨w6.heap.size, 0, none⟩ = some (.int .i64 y.k) := fun X => (only_cell X.h HBY.out.lt (by simp)).trans (HBY.out.cell 0)
        have j1 : ∀ X : Later [] W, X.w.cell? ⟨w6.heap.size, 1, none⟩ = some (.string y.s) := fun X => (only_cell X.h HBY.out.lt (by simp)).trans (HBY.out.cell 1)
        have j2 : ∀ X : Later [] W, X.w.cell? ⟨w6.heap.size, 2, none⟩ = some (.int .i64 y.n) := fun X => (only_cell X.h HBY.out.lt (by simp)).trans (HBY.out.cell 2)
        have j3 : ∀ X : Later [] W, X.w.cell? ⟨w6.heap.size, 3, none⟩ = some (.bool y.b) := fun X => (only_cell X.h HBY.out.lt (by simp)).trans (HBY.out.cell 3)
        have j4 : ∀ X : Later [] W, X.w.cell? ⟨w6.heap.size, 4, none⟩ = some (.slice y.A y.xs.length y.c) := fun X => (only_cell X.h HBY.out.lt (by simp)).trans (HBY.out.cell 4)
        have j5 : ∀ X : Later [] W, X.w.cell? ⟨w6.heap.size, 5, none⟩ = some (.slice y.F y.vs.length y.d) := fun X => (only_cell X.h HBY.out.lt (by simp)).trans (HBY.out.cell 5)
        refine region_seg [true, true, true, true, true, true] 13 (by kernel_rfl) (by kernel_rfl) (by kernel_rfl) rfl (fun _ _ d _ _ h => by cases d <;> exact h) ?_
        repeat (first | with_reducible refine wpMask_pass ?_ | (refine wpMask_want (by rfl) (fun K hK => ?_); go_big_quiet_op; refine hK _ ?_; clear hK K))
        with_reducible refine wpMask_nil ?_
        clear i0 i1 i2 i3 i4 i5 j0 j1 j2 j3 j4 j5
        refine region_call 6 (by kernel_rfl) rfl (by rfl) (by go_simp; exact ⟨rfl, rfl⟩) ?_
        refine (equal_plain HVY.out W HDW.out.tree HYW.out).mono ?_
        rintro e w7 ⟨rfl, hb⟩
        refine ⟨_, rfl, bel_only hb, ?_⟩
        simp only [List.getElem_toArray, List.getElem_cons_zero, List.getElem_cons_succ, Act.put, List.setIfInBounds_toArray, List.set_cons_zero, List.set_cons_succ]
        have HD7 := Lib.hid (HDW.out.duo.bel hb)
        clear hb
        obtain ⟨PA, pc, hps2, hp2⟩ := HD7.out.rpulls
        have HPS2 := Lib.hid hps2
        have p2 : ∀ X : Later [] w7, X.w.cell? ⟨r2, 2, none⟩ = some (.slice PA ps'.length pc) := fun X => hp2 X.w X.h
        clear hps2 hp2
        refine region_seg [false, false, false, false, false, false, false, true, true, true, true, false, true, true, true, true] 4 (by kernel_rfl) (by kernel_rfl) (by kernel_rfl) rfl (fun _ _ d _ _ h => by cases d <;> exact h) ?_
        repeat (first | with_reducible refine wpMask_pass ?_ | (refine wpMask_want (by rfl) (fun K hK => ?_); go_big_quiet_op; refine hK _ ?_; clear hK K))
        with_reducible refine wpMask_nil ?_
        clear p2
        refine region_call 11 (by kernel_rfl) rfl (by rfl) (by go_simp; exact ⟨rfl, rfl⟩) ?_
        refine (HD7.out.pulls (by have := HPL2.out; omega)).mono ?_
        rintro e w8 ⟨G, gd, rfl, hgs, hb⟩
        refine ⟨_, rfl, bel_only hb, ?_⟩
        simp only [List.getElem_toArray, List.getElem_cons_zero, List.getElem_cons_succ, Act.put, List.setIfInBounds_toArray, List.set_cons_zero, List.set_cons_succ]
        have HGS := Lib.hid hgs
        have HD8 := Lib.hid (HD7.out.bel hb)
        have HPS8 := Lib.hid (HPS2.out.bel hb)
        clear hgs hb
        refine region_call 16 (by kernel_rfl) rfl (by rfl) (by go_simp; exact ⟨rfl, rfl⟩) ?_
        refine (equalK_c HGS.out HPS8.out gd pc (by have := HPL2.out; omega) (by have := HPL2.out; omega) true (decide_eq_true rfl)).mono ?_
        rintro e w9 ⟨rfl, hb⟩
        refine ⟨_, rfl, bel_only hb, ?_⟩
        simp only [List.getElem_toArray, List.getElem_cons_zero, List.getElem_cons_succ, Act.put, List.setIfInBounds_toArray, List.set_cons_zero, List.set_cons_succ]
        have HD9 := Lib.hid (HD8.out.bel hb)
        clear hb
        refine region_seg [false, false, false, false, false, false, false, false, false, false, false, false, false, false, false, false, false, true, true] 0 (by kernel_rfl) (by kernel_rfl) (by kernel_rfl) rfl (fun _ _ d _ _ h => by cases d <;> exact h) ?_
        repeat (first | with_reducible refine wpMask_pass ?_ | (refine wpMask_want (by rfl) (fun K hK => ?_); go_big_quiet_op; refine hK _ ?_; clear hK K))
        with_reducible refine wpMask_nil ?_
        refine region_end (by kernel_rfl) ?_
        go_wp2_with fail
        go_roundw
        case rel => exact ⟨k + 1, ps', by omega, by go_num, HPL2, HD9⟩
        case measure => simp [intOf]; omega
      · obtain rfl : q = k := by omega
        go_wp2_with (go_at_call 9; refine (HA.out _).mono ?_; rintro e w5 ⟨rfl, hb⟩; have HB5 := Lib.hid hb; clear hb)
        go_ret
        exact ⟨rfl, HD.out.below.trans HB5.out⟩
  · have HN1 : Hid (∀ W : World, Bel w W → Calls Try.prog 10 #[.slice F m d, .slice L n lc] W fun e w' => e = .returned (.tuple #[.pointer none, .int .i64 E]) ∧ Bel W w') := Lib.hid (fun W hb => (HNW.out W hb).mono fun e w' h => by
      rcases h with ⟨h, _⟩ | ⟨_, h1, h2⟩
      · rw [← HE.out] at h; exact absurd h h0
      · rw [← HE.out] at h1; exact ⟨h1, h2⟩)
    have HN2 : Hid (∀ W : World, Bel w W → Calls Try.prog 11 #[.slice F m d, .slice L n lc] W fun e w' => e = .returned (.tuple #[.pointer none, .int .i64 E]) ∧ Bel W w') := Lib.hid (fun W hb => (HRN.out W hb).mono fun e w' h => by
      rcases h with ⟨h, _⟩ | ⟨_, h1, h2⟩
      · exact absurd h h0
      · exact ⟨h1, h2⟩)
    have h0' : (E != 0) = true := by simpa using h0
    have h0'' : (E == 0) = false := by simpa using h0
    clear HNW HRN
    go_enter Try.func3, Try.ntmps3
    go_wp2_with (first
      | (go_at_call 6; refine (HGN.out _).mono ?_; rintro e w1 ⟨rfl, hb⟩; have HB1 := Lib.hid (fun o => hb.trans (Bel.alloc w1 o)); clear hb)
      | (go_at_call 7; refine (HPN.out _).mono ?_; rintro e w' ⟨rfl, rfl⟩)
      | (go_at_call 8; refine (HTL.out _ (HB1.out _)).mono ?_; rintro e w2 ⟨rr, hr0, hr1, rfl, hb, hsm⟩; have HB2 := Lib.hid ((HB1.out _).trans hb); have HSM := Lib.hid hsm; clear hb hsm)
      | (go_at_call 10; refine (HN1.out _ HB2.out).mono ?_; rintro e w3 ⟨rfl, hb⟩; have HB3 := Lib.hid (HB2.out.trans hb); clear hb)
      | (go_at_call 11; refine (HN2.out _ HB3.out).mono ?_; rintro e w4 ⟨rfl, hb⟩; have HB4 := Lib.hid (HB3.out.trans hb); clear hb)
      | (go_at_call 9; refine (HA.out _).mono ?_; rintro e w5 ⟨rfl, hb⟩; have HB5 := Lib.hid hb; clear hb))
    all_goals (go_ret; first | exact ⟨rfl, HB4.out.trans HB5.out⟩ | exact ⟨rfl, HB2.out.trans HB5.out⟩)
end Go.Proofs.Ytollcekcmnokaaa
