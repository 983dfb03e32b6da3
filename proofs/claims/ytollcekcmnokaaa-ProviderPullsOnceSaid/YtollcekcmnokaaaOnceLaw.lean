/-
  The law ProviderPullsOnce, walked.
-/
import Derived.Test.YtollcekcmnokaaaOnce10
import Derived.Test.YtollcekcmnokaaaDuo10
import Derived.Test.YtollcekcmnokaaaOpen10
namespace Go.Proofs.Ytollcekcmnokaaa
open Go.RowKit Go.BigFrame
set_option linter.unusedVariables false
set_option linter.unusedSimpArgs false
attribute [local go_sem ↓] sliced_cut
attribute [local go_sem] cutA_zero

theorem pullA_len2 (ps : List ByteArray) (name : ByteArray) : (pullA ps name).length ≤ ps.length + 1 := by
  unfold pullA
  split
  · simp
  · omega
set_option maxRecDepth 100000 in
set_option maxHeartbeats 6400000 in
theorem onceLaw (F : Option Addr) (m d : Nat) (x : List ByteArray × List VT) (NA : Option Addr) (q nc : Nat) (names : List ByteArray) (w : World) (hI : CameF w F m d x) (hN : Came w NA q names) :
    Calls Try.prog 4 #[.slice F m d, .slice NA q nc] w fun e w' => e = .returned (.bool true) ∧ Below w.heap.size w w' := by
  obtain ⟨ks, vs⟩ := x
  obtain ⟨hm, hI⟩ := hI
  have hm : vs.length = m := hm
  have hI : (mapT F d ks vs).In w (· < w.heap.size) := hI
  obtain ⟨hq, hNS, hq16, hns⟩ := hN
  have HA := Lib.hid alive10_c
  have HTL : Hid (Calls Try.prog 8 #[.slice F m d, .slice NA q nc] w fun e w' => ∃ r : Int, 0 ≤ r ∧ r ≤ 1 ∧ e = .returned (.int .i64 r) ∧ Bel w w' ∧ (r ≤ 0 → m ≤ 100 ∧ q ≤ 100)) := Lib.hid (by
    have h := tooLarge10_c F d ks vs (.bool true) q nc NA w hI (by omega)
    rw [hm] at h
    exact h)
  have HNW : Hid (∀ W : World, Bel w W → Calls Try.prog 10 #[.slice F m d, .slice none 0 0] W (NewR (mapT F d ks vs) [] W)) := Lib.hid (fun W hb => by
    have h := New_c F d ks vs none 0 [] W (hI.bel hb) (.inl rfl) (by simp) (by intro s hs; cases hs)
    rw [hm] at h
    exact h)
  have HNS := Lib.hid hNS
  have HNN := Lib.hid hns
  have HQ := Lib.hid hq
  clear hI hNS hns hm hq
  obtain ⟨t, ht⟩ : ∃ t, t = mapT F d ks vs := ⟨_, rfl⟩
  rw [← ht] at HNW
  clear ht
  obtain ⟨E, hE⟩ : ∃ E, E = newE t [] := ⟨_, rfl⟩
  have HE := Lib.hid hE
  clear hE
  by_cases h0 : E = 0
  · have HN1 : Hid (∀ W : World, Bel w W → Calls Try.prog 10 #[.slice F m d, .slice none 0 0] W fun e w' => ∃ r T, e = .returned (.tuple #[.pointer (some ⟨r, 0, none⟩), .int .i64 0]) ∧ Bel W w' ∧ Pr t [] r [] w' T ∧ ∀ k, k ∈ T → W.heap.size ≤ k) := Lib.hid (fun W hb => (HNW.out W hb).mono fun e w' h => by
      rcases h with ⟨_, h1⟩ | ⟨h, _⟩
      · exact h1
      · rw [← HE.out] at h; exact absurd h0 h)
    clear HNW h0 HE
    go_enter Try.func4, Try.ntmps4
    go_wp2_with (first
      | (go_at_call 8; refine HTL.out.mono ?_; rintro e w2 ⟨rr, hr0, hr1, rfl, hb, hsm⟩; have HB2 := Lib.hid hb; have HSM := Lib.hid hsm; clear hb hsm)
      | (go_at_call 10; refine (HN1.out _ HB2.out).mono ?_; rintro e w3 ⟨r, T, rfl, hb, hpr, hT⟩; have HST : Hid (St t [] r [] w w3) := Lib.hid ⟨T, HB2.out.trans hb, hpr, fun k hk => Nat.le_trans HB2.out.size (hT k hk)⟩; clear hb hpr hT)
      | (go_at_call 9; refine (HA.out _).mono ?_; rintro e w5 ⟨rfl, hb⟩; have HB5 := Lib.hid hb; clear hb))
    all_goals first
      | (go_ret; exact ⟨rfl, HB2.out.trans HB5.out⟩)
      | skip
    have hq100 : q ≤ 100 := by
      have h9 : rr ≤ 0 := by first | assumption | omega
      exact (HSM.out h9).2
    clear HN1 HTL HSM HB2
    go_loopw [40] (fun s40 wr => ∃ (k : Nat) (ps : List ByteArray), k ≤ q ∧ s40 = .int .i64 k ∧ Hid (ps.length ≤ k ∧ ps.Nodup ∧ ∀ s, s ∈ ps → s ∈ names) ∧ Hid (St t [] r ps w wr)) (fun s40 _ => q - (intOf s40).toNat)
    case atStart => exact ⟨0, [], Nat.zero_le _, rfl, Lib.hid ⟨Nat.le_refl _, List.nodup_nil, by intro s hs; cases hs⟩, HST⟩
    case round =>
      obtain ⟨k, ps, hk, rfl, HPL, HD⟩ := hrel
      by_cases hlt : k < q
      · have hkx : k < names.length := by have := HQ.out; omega
        have hxk := List.getElem?_eq_getElem hkx
        have hs1 := HNN.out _ (List.getElem_mem hkx)
        have hmem := List.getElem_mem hkx
        generalize names[k] = name at hxk hs1 hmem
        obtain ⟨g, o, hAA, hg, hc⟩ := HNS.out.at_ hxk
        have c0 := (HD.out.below.cell hg).trans hc
        obtain ⟨pv, c, hgp⟩ : ∃ pv c, getA t [] name = (pv, c) := ⟨_, _, rfl⟩
        have hps : ps.length ≤ 1000000 := by have := HPL.out.1; omega
        obtain ⟨ps', hq⟩ : ∃ ps', pullA ps name = ps' := ⟨_, rfl⟩
        have hq2 : pullA ps' name = ps' := by rw [← hq]; exact pullA_again ps name
        have HPL2 : Hid (ps'.length ≤ k + 1 ∧ ps'.Nodup ∧ ∀ s, s ∈ ps' → s ∈ names) := Lib.hid (by
          rw [← hq]
          exact ⟨Nat.le_trans (pullA_len2 ps name) (by have := HPL.out.1; omega), pullA_nodup HPL.out.2.1, pullA_sub HPL.out.2.2 hmem⟩)
        have hps' : ps'.length ≤ 1000000 := by have := HPL2.out.1; omega
        have HG1 := Lib.hid (HD.out.get1 name hs1 hps hgp hq)
        have HG2 := Lib.hid (fun b x G gd l W (h : Sol t [] r ps' b x G gd l w W) => h.get name hs1 hps' hgp hq2)
        have HLN : Hid (ps'.length ≤ 1000000) := Lib.hid hps'
        clear hxk hs1 hc hgp hps hq hq2 hmem hps'
        subst hAA
        go_wp2_with (first
          | (go_at_call 6; refine (HG2.out _ _ _ _ _ _ HD6.out).mono ?_; rintro e w7 ⟨u, rfl, hu, hui, hd⟩; have HD7 := Lib.hid (fun o => hd.bel (Bel.alloc w7 o)); have HVU : Hid (v.plain = u.plain) := Lib.hid (HV.out.trans hu.symm); have HU := Lib.hid (fun o => in_bel2 hui (Bel.alloc w7 o)); obtain ⟨z0, z1, z2, z3, z4, z5⟩ := alloc_cells hd.box; clear hu hui hd)
          | (go_at_call 6; refine HG1.out.mono ?_; rintro e w5 ⟨v, rfl, hv, hd⟩; have HD5 := Lib.hid hd; have HV := Lib.hid hv; clear hv hd)
          | (go_at_call 7; refine ((HD8.out.st).pulls2 HLN.out).mono ?_; rintro e w9 ⟨G2, gd2, rfl, hg2, hb⟩; have HG9 := Lib.hid hg2; have HD9 := Lib.hid (HD8.out.bel hb); clear hg2 hb)
          | (go_at_call 7; refine (HD5.out.pulls HLN.out).mono ?_; rintro e w6 ⟨G, gd, rfl, hd⟩; have HD6 := Lib.hid hd; clear hd)
          | (go_at_call 13; refine (equal_plain HVU.out _ (HD7.out _).tree (HU.out _)).mono ?_; rintro e w8 ⟨rfl, hb⟩; have HD8 := Lib.hid ((HD7.out _).bel hb); clear hb)
          | (go_at_call 14; refine (equalK_c HG9.out HD9.out.strs gd2 gd HLN.out HLN.out true (decide_eq_true rfl)).mono ?_; rintro e w10 ⟨rfl, hb⟩; have HD10 := Lib.hid (HD9.out.bel hb); clear hb))
        go_roundw
        case rel => exact ⟨k + 1, ps', by omega, by go_num, HPL2, Lib.hid HD10.out.st⟩
        case measure => simp [intOf]; omega
      · obtain rfl : q = k := by omega
        obtain ⟨z, hz⟩ : ∃ z, z = ps.length := ⟨_, rfl⟩
        have hz100 : z ≤ 100 := by have := HPL.out.1; omega
        have HPU := Lib.hid (HD.out.pulls3 (by omega))
        rw [← hz] at HPU
        have HZ := Lib.hid hz.symm
        have HBW := Lib.hid HD.out.below
        clear hz HST
        go_wp2_with (go_at_call 7; refine HPU.out.mono ?_; rintro e w6 ⟨G, gd, rfl, hgs, _, hb, hcap1, hcap2⟩; have HGS := Lib.hid hgs.strs; have HB6 := Lib.hid (HBW.out.trans hb); clear hgs hb)
        go_loop [79] (fun v => ∃ j : Nat, j ≤ z ∧ v = .int .i64 j) (fun v => z - (intOf v).toNat)
        case atStart => exact ⟨0, Nat.zero_le _, rfl⟩
        case round =>
          obtain ⟨j, hj, rfl⟩ := hrel
          by_cases hlt2 : j < z
          · have hjx : j < ps.length := by have := HZ.out; omega
            have hxj := List.getElem?_eq_getElem hjx
            have hmem := HPL.out.2.2 _ (List.getElem_mem hjx)
            generalize ps[j] = s at hxj hmem
            have HC1 := Lib.hid (containsS_c NA nc names s w6 (HNS.out.bel HB6.out) q HQ.out (by omega) true (hasB_iff.2 hmem))
            have HC2 := Lib.hid (containsS_c G gd (ps.take j) s w6 (HGS.out.take j) j (by rw [List.length_take]; omega) (by omega) false (not_before HPL.out.2.1 hxj))
            obtain ⟨g, o, hGG, hg, hc⟩ := HGS.out.at_ hxj
            clear hxj hmem
            subst hGG
            go_wp2_with (first
              | (go_at_call 15; refine HC1.out.mono ?_; rintro e w' ⟨rfl, rfl⟩)
              | (go_at_call 15; refine HC2.out.mono ?_; rintro e w' ⟨rfl, rfl⟩))
            go_round
            case rel => exact ⟨j + 1, by omega, by go_num⟩
            case measure => simp [intOf]; omega
          · obtain rfl : z = j := by omega
            go_wp2_with (go_at_call 9; refine (HA.out _).mono ?_; rintro e w5 ⟨rfl, hb⟩; have HB5 := Lib.hid hb; clear hb)
            go_ret
            exact ⟨rfl, HB6.out.trans HB5.out⟩
  · have HN1 : Hid (∀ W : World, Bel w W → Calls Try.prog 10 #[.slice F m d, .slice none 0 0] W fun e w' => e = .returned (.tuple #[.pointer none, .int .i64 E]) ∧ Bel W w') := Lib.hid (fun W hb => (HNW.out W hb).mono fun e w' h => by
      rcases h with ⟨h, _⟩ | ⟨_, h1, h2⟩
      · rw [← HE.out] at h; exact absurd h h0
      · rw [← HE.out] at h1; exact ⟨h1, h2⟩)
    have h0' : (E != 0) = true := by simpa using h0
    have h0'' : (E == 0) = false := by simpa using h0
    clear HNW
    go_enter Try.func4, Try.ntmps4
    go_wp2_with (first
      | (go_at_call 8; refine HTL.out.mono ?_; rintro e w2 ⟨rr, hr0, hr1, rfl, hb, hsm⟩; have HB2 := Lib.hid hb; have HSM := Lib.hid hsm; clear hb hsm)
      | (go_at_call 10; refine (HN1.out _ HB2.out).mono ?_; rintro e w3 ⟨rfl, hb⟩; have HB3 := Lib.hid (HB2.out.trans hb); clear hb)
      | (go_at_call 9; refine (HA.out _).mono ?_; rintro e w5 ⟨rfl, hb⟩; have HB5 := Lib.hid hb; clear hb))
    all_goals (go_ret; first | exact ⟨rfl, HB3.out.trans HB5.out⟩ | exact ⟨rfl, HB2.out.trans HB5.out⟩)
end Go.Proofs.Ytollcekcmnokaaa
