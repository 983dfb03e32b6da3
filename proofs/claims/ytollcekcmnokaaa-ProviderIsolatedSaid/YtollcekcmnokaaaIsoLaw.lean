/-
  The law ProviderIsolated, walked.
-/
import Derived.Test.YtollcekcmnokaaaIso10
namespace Go.Proofs.Ytollcekcmnokaaa
open Go.RowKit Go.BigFrame
set_option linter.unusedVariables false
set_option linter.unusedSimpArgs false

theorem pullA_len3 (ps : List ByteArray) (name : ByteArray) : (pullA ps name).length ≤ ps.length + 1 := by
  unfold pullA
  split
  · simp
  · omega
set_option maxRecDepth 100000 in
set_option maxHeartbeats 6400000 in
theorem isoLaw (F : Option Addr) (m d : Nat) (x : List ByteArray × List VT) (NA : Option Addr) (q nc : Nat) (names : List ByteArray) (w : World) (hI : CameF w F m d x) (hN : Came w NA q names) :
    Calls Try.prog 5 #[.slice F m d, .slice NA q nc] w fun e w' => e = .returned (.bool true) ∧ Below w.heap.size w w' := by
  obtain ⟨ks, vs⟩ := x
  obtain ⟨hm, hI⟩ := hI
  have hm : vs.length = m := hm
  have hI : (mapT F d ks vs).In w (· < w.heap.size) := hI
  obtain ⟨hq, hNS, hq16, hns⟩ := hN
  have HA := Lib.hid alive10_c
  have HTL : Hid (Calls Try.prog 8 #[.slice F m d, .slice NA q nc] w fun e w' => ∃ r : Int, 0 ≤ r ∧ r ≤ 1 ∧ e = .returned (.int .i64 r) ∧ Bel w w' ∧ (r ≤ 0 → m ≤ 100 ∧ q ≤ 100)) := Lib.hid (by
    have h := tooLarge10_c F d ks vs (.bool true) q nc NA w hI (by omega)
    rw [hm] at h
    exact h)
  have hkl : ks.length = vs.length := hI.bounds.2.2.2.2.2.2.2
  have hby : vs.length * 104 ≤ 140737488351232 := hI.bytes.2
  have hvs : ∀ x, x ∈ vs → x.In w (· < w.heap.size) := by cases hI with | mk _ _ _ _ _ _ _ _ _ _ hv _ => exact hv
  have hkz : ∀ key, key ∈ ks → key.size ≤ 140737488351232 := by cases hI with | mk _ _ _ _ _ _ _ _ _ _ _ hks => exact hks
  have HF : Hid (0 < vs.length → ∃ g o, F = some ⟨g, o, none⟩ ∧ g < w.heap.size ∧ ∀ i (x : VT) key, ks[i]? = some key → vs[i]? = some x → w.cell? ⟨g, o + i * 7, none⟩ = some (.string key) ∧ x.Cells w g (o + i * 7 + 1)) := Lib.hid (by cases hI with | mk _ _ _ _ _ _ _ _ hF _ _ _ => exact hF)
  have HSF : Hid (Src w 7 fF F (ks.zip vs)) := Lib.hid hI.srcV
  have HZL : Hid ((ks.zip vs).length = m) := Lib.hid (by rw [List.length_zip]; omega)
  have HNWO := Lib.hid (fun (OA : Option Addr) (od : Nat) (FA : Option Addr) (fc : Nat) (W : World) (hb : Bel w W) (hr : KRow W 49 7 fF OA od (ks.zip vs)) (hr2 : KRow W 9 1 fS FA fc names) => (show Calls Try.prog 10 #[.slice OA m od, .slice FA q fc] W (NewR (mapT OA od ks vs) names W) from by
    have h := New_c OA od ks vs FA fc names W (mapT_in hkl hby hr (fun x hx => (hvs x hx).bel hb) hkz (fun k hk => hr.lt k hk)) hr2.strs (by omega) hns
    rw [hm, hq] at h
    exact h))
  have HRN : Hid (∀ W : World, Bel w W → Calls Try.prog 11 #[.slice F m d, .slice NA q nc] W (RfNewR ks vs names (newE (mapT F d ks vs) names) w.heap.size W)) := Lib.hid (fun W hb => by
    have h := refNew_c F d ks vs NA nc names w.heap.size W (hI.bel hb) (fun x hx => (hvs x hx).only (bel_only hb) (fun g hg => ⟨by simp, hg⟩) (fun g hg => hg)) hb.size (hNS.bel hb) (by omega) hns
    rw [hm, hq] at h
    exact h)
  have HSN : Hid (Src w 1 fS NA names) := Lib.hid hNS.src
  have HQ := Lib.hid hq
  have HVM := Lib.hid hm
  have HKL := Lib.hid hkl
  have HKZ := Lib.hid hkz
  have hm104 : m * 104 ≤ 140737488351232 := by rw [← hm]; exact hby
  have HM1 : Hid (0 + m ≤ maxLen ∧ (0 + m) * 104 ≤ 140737488355328) := Lib.hid (by unfold maxLen; omega)
  have HM2 : Hid (0 + q ≤ maxLen ∧ (0 + q) * 16 ≤ 140737488355328) := Lib.hid (by unfold maxLen; omega)
  clear hI hNS hns hm hq hkl hby hvs hkz
  obtain ⟨E, hE⟩ : ∃ E, E = newE (mapT F d ks vs) names := ⟨_, rfl⟩
  rw [← hE] at HRN
  have HE : Hid (∀ OA od, newE (mapT OA od ks vs) names = E) := Lib.hid (fun OA od => by rw [hE]; exact newE_addr _ _ _ _ _ _ _)
  clear hE
  have HRO := Lib.hid (fun W : World => (show KRow (W.alloc (.cells #[] 49)) 49 7 fF (some ⟨W.heap.size, 0, none⟩) 0 ([] : List (ByteArray × VT)) from KRow.of_room (Blk.new W 49 []) 0 (by simp) (by simp)))
  have HRS := Lib.hid (fun W : World => (show KRow (W.alloc (.cells #[] 9)) 9 1 fS (some ⟨W.heap.size, 0, none⟩) 0 ([] : List ByteArray) from KRow.of_room (Blk.new W 9 []) 0 (by simp) (by simp)))
  by_cases h0 : E = 0
  · have HN1 : Hid (∀ (OA : Option Addr) (od : Nat) (FA : Option Addr) (fc : Nat) (W : World), Bel w W → KRow W 49 7 fF OA od (ks.zip vs) → KRow W 9 1 fS FA fc names → Calls Try.prog 10 #[.slice OA m od, .slice FA q fc] W fun e w' => ∃ r T, e = .returned (.tuple #[.pointer (some ⟨r, 0, none⟩), .int .i64 0]) ∧ Bel W w' ∧ Pr (mapT OA od ks vs) names r [] w' T ∧ ∀ k, k ∈ T → W.heap.size ≤ k) := Lib.hid (fun OA od FA fc W hb hr hr2 => (HNWO.out OA od FA fc W hb hr hr2).mono fun e w' h => by
      rcases h with ⟨_, h1⟩ | ⟨h, _⟩
      · exact h1
      · rw [HE.out] at h; exact absurd h0 h)
    have HN2 : Hid (∀ W : World, Bel w W → Calls Try.prog 11 #[.slice F m d, .slice NA q nc] W fun e w' => ∃ r T, e = .returned (.tuple #[.pointer (some ⟨r, 0, none⟩), .int .i64 0]) ∧ Bel W w' ∧ Rf ks vs names r [] w.heap.size w' T ∧ ∀ k, k ∈ T → W.heap.size ≤ k) := Lib.hid (fun W hb => (HRN.out W hb).mono fun e w' h => by
      rcases h with ⟨_, h1⟩ | ⟨h, _⟩
      · exact h1
      · exact absurd h0 h)
    clear HNWO HRN h0 HE
    go_enter Try.func5, Try.ntmps5
    go_wp2_with (first
      | (go_at_call 8; refine HTL.out.mono ?_; rintro e w2 ⟨rr, hr0, hr1, rfl, hb, hsm⟩; have HB2 := Lib.hid hb; have HSM := Lib.hid hsm; have HR2 := Lib.hid (HRO.out w2); have HS2 := Lib.hid ((HSF.out.bel hb).alloc (.cells #[] 49)); clear hb hsm)
      | (go_at_call 9; refine (HA.out _).mono ?_; rintro e w9 ⟨rfl, hb⟩; have HB9 := Lib.hid hb; clear hb)
      | ((with_reducible refine wp_kAppend rfl (.tmp 26) (.tmp 27) 22 rfl 49 _ 7 104 fF fF_len fF_one Try.underlying22 info_field cells_field (of_decide_eq_true rfl) (some ⟨w2.heap.size, 0, none⟩) 0 ([] : List (ByteArray × VT)) 0 rfl rfl HR2.out F d (ks.zip vs) m HZL.out rfl HS2.out HM1.out.1 HM1.out.2 m (Nat.zero_add m).symm ?_); intro OA od w3 HRW3 hO3 HK3; have HFR3 := Lib.hid (fresh_row HRW3.out hO3 HK3.out); have HB3 := Lib.hid (HB2.out.trans HFR3.out.2.1); have HR3 := Lib.hid (HRS.out w3); have HS3 := Lib.hid ((HSN.out.bel HB3.out).alloc (.cells #[] 9)); clear hO3)
      | ((with_reducible refine wp_kAppend rfl (.tmp 29) (.tmp 30) 23 rfl 9 _ 1 16 fS fS_len fS_one Try.underlying23 info_str cells_str (of_decide_eq_true rfl) (some ⟨w3.heap.size, 0, none⟩) 0 ([] : List ByteArray) 0 rfl rfl HR3.out NA nc names q HQ.out rfl HS3.out HM2.out.1 HM2.out.2 q (Nat.zero_add q).symm ?_); intro FA fc w4 HRW4 hO4 HK4; have HFR4 := Lib.hid (fresh_row HRW4.out hO4 HK4.out); have HRW := Lib.hid HFR4.out.1; have HB4 := Lib.hid (HB3.out.trans HFR4.out.2.1); have HROW4 := Lib.hid (HFR3.out.1.only (bel_only HFR4.out.2.1) (by simp)); clear hO4)
      | (go_at_call 10; refine (HN1.out OA od FA fc w4 HB4.out HROW4.out HRW.out).mono ?_; rintro e w5 ⟨r, T, rfl, hb, hpr, hT⟩; have HB5 := Lib.hid hb; have HPR := Lib.hid (And.intro hpr hT); clear hb hpr hT)
      | (go_at_call 11; refine (HN2.out _ (HB4.out.trans HB5.out)).mono ?_; rintro e w6 ⟨r2, U, rfl, hb, hrf, hU⟩; have HDL := Lib.hid (duoL_start HB4.out HB5.out HPR.out.1 HPR.out.2 hb hrf hU); have HROW6 := Lib.hid (HROW4.out.only (bel_only (HB5.out.trans hb)) (by simp)); have HRW6 := Lib.hid (HRW.out.only (bel_only (HB5.out.trans hb)) (by simp)); clear hb hrf hU))
    all_goals first
      | (go_ret; exact ⟨rfl, HB2.out.trans HB9.out⟩)
      | skip
    have hmq : m ≤ 100 ∧ q ≤ 100 := by
      have h9 : rr ≤ 0 := by first | assumption | omega
      exact HSM.out h9
    have HOA : Hid (∀ k, k ∈ rowT OA → w.heap.size ≤ k ∧ k < w4.heap.size) := Lib.hid (fun k hk => ⟨Nat.le_trans HB2.out.size (HFR3.out.2.2 k hk), HROW4.out.lt k hk⟩)
    have HFA : Hid (∀ k, k ∈ rowT FA → w.heap.size ≤ k ∧ k < w4.heap.size) := Lib.hid (fun k hk => ⟨Nat.le_trans HB3.out.size (HFR4.out.2.2 k hk), HRW.out.lt k hk⟩)
    have HDA : Hid (∀ k, k ∈ rowT OA → k ∉ rowT FA) := Lib.hid (fun k hk hm => by
      have h1 := HFR3.out.1.lt k hk
      have h2 := HFR4.out.2.2 k hm
      omega)
    have HZ : Hid ((ks.zip vs).length = m) := HZL
    clear HN1 HN2 HTL HSM HR2 HS2 HRW3 HK3 HFR3 HR3 HS3 HRW4 HK4 HFR4 HROW4 HRW HPR HB5 HRO HRS HSF HSN HM1 HM2 HZL HB3
    go_loopw [63] (fun s63 wr => ∃ (j : Nat) (l : List (ByteArray × VT)), j ≤ m ∧ s63 = .int .i64 j ∧ Hid (l.length = m) ∧ Hid (KRow wr 49 7 fF OA od l) ∧ Hid (Only (rowT OA) w6 wr)) (fun s63 _ => m - (intOf s63).toNat)
    case atStart => exact ⟨0, ks.zip vs, Nat.zero_le _, rfl, HZ, HROW6, Lib.hid (Only.refl _ _)⟩
    case round =>
      obtain ⟨j, l, hj, rfl, HLL, HROW, HO⟩ := hrel
      by_cases hlt : j < m
      · have hjl : j < l.length := by have := HLL.out; omega
        have hlj := List.getElem?_eq_getElem hjl
        generalize l[j] = p at hlj
        obtain ⟨g, o, hOA, hg, hc⟩ := HROW.out.at_ fF_len hlj (by omega)
        obtain ⟨l', hl', hr'⟩ := over7 HROW.out hOA hjl (ByteArray.empty, VT.zero)
        have c0 : wr.cell? ⟨g, o + j * 7, none⟩ = some (.string p.1) := hc 0 _ rfl
        have c1 : wr.cell? ⟨g, o + j * 7 + 1, none⟩ = some (.int .i64 p.2.k) := hc 1 _ rfl
        have c2 : wr.cell? ⟨g, o + j * 7 + 2, none⟩ = some (.string p.2.s) := hc 2 _ rfl
        have c3 : wr.cell? ⟨g, o + j * 7 + 3, none⟩ = some (.int .i64 p.2.n) := hc 3 _ rfl
        have c4 : wr.cell? ⟨g, o + j * 7 + 4, none⟩ = some (.bool p.2.b) := hc 4 _ rfl
        have c5 : wr.cell? ⟨g, o + j * 7 + 5, none⟩ = some (.slice p.2.A p.2.xs.length p.2.c) := hc 5 _ rfl
        have c6 : wr.cell? ⟨g, o + j * 7 + 6, none⟩ = some (.slice p.2.F p.2.vs.length p.2.d) := hc 6 _ rfl
        have f0 := HROW.out.free hOA (o + j * 7)
        have f1 := HROW.out.free hOA (o + j * 7 + 1)
        have f2 := HROW.out.free hOA (o + j * 7 + 2)
        have f3 := HROW.out.free hOA (o + j * 7 + 3)
        have f4 := HROW.out.free hOA (o + j * 7 + 4)
        have f5 := HROW.out.free hOA (o + j * 7 + 5)
        have f6 := HROW.out.free hOA (o + j * 7 + 6)
        have HL' := Lib.hid (hl'.trans HLL.out)
        have HR' := Lib.hid hr'
        have HON : Hid (Only (rowT OA) w6 (setC wr g (o + (j * 7 + 0)) (fF (ByteArray.empty, VT.zero)))) := Lib.hid (HO.out.trans ((only_setC _ _ _).more (by rw [hOA]; simp [rowT])))
        clear hlj hc hl' hr'
        subst hOA
        go_wp2_with fail
        clear c0 c1 c2 c3 c4 c5 c6 f0 f1 f2 f3 f4 f5 f6
        go_roundw
        case rel => exact ⟨j + 1, l', by omega, by go_num, HL', HR', HON⟩
        case measure => simp [intOf]; omega
      · obtain rfl : m = j := by omega
        have HWA := Lib.hid (HDL.out.only HO.out HOA.out)
        have HRWA := Lib.hid (HRW6.out.only HO.out (fun k hk hm => HDA.out k hm hk))
        clear HROW HO HDL HRW6 HROW6 HLL
        obtain ⟨wA, hwA⟩ : ∃ wA, wA = wr := ⟨wr, rfl⟩
        subst hwA
        go_wp2_with fail
        go_loopw [73] (fun s73 wq => ∃ (i : Nat) (l : List ByteArray), i ≤ q ∧ s73 = .int .i64 i ∧ Hid (l.length = q) ∧ Hid (KRow wq 9 1 fS FA fc l) ∧ Hid (Only (rowT FA) wA wq)) (fun s73 _ => q - (intOf s73).toNat)
        case atStart => exact ⟨0, names, Nat.zero_le _, rfl, HQ, HRWA, Lib.hid (Only.refl _ _)⟩
        case round =>
          obtain ⟨i, l, hi, rfl, HLL, HROW, HO⟩ := hrel
          by_cases hlt2 : i < q
          · have hil : i < l.length := by have := HLL.out; omega
            have hli := List.getElem?_eq_getElem hil
            generalize l[i] = p at hli
            obtain ⟨g, o, hFA, hg, hc⟩ := HROW.out.at_ fS_len hli (by omega)
            obtain ⟨l', hl', hr'⟩ := over1 HROW.out hFA hil ByteArray.empty
            have c0 : wr.cell? ⟨g, o + i, none⟩ = some (.string p) := by have h1 := hc 0 _ rfl; rwa [show o + i * 1 + 0 = o + i by omega] at h1
            have f0 := HROW.out.free hFA (o + i)
            rw [show o + (i * 1 + 0) = o + i by omega] at hr'
            have HL' := Lib.hid (hl'.trans HLL.out)
            have HR' := Lib.hid hr'
            have HON : Hid (Only (rowT FA) wA (setC wr g (o + i) (fS ByteArray.empty))) := Lib.hid (HO.out.trans ((only_setC _ _ _).more (by rw [hFA]; simp [rowT])))
            clear hli hc hl' hr'
            subst hFA
            go_wp2_with fail
            clear c0 f0
            go_roundw
            case rel => exact ⟨i + 1, l', by omega, by go_num, HL', HR', HON⟩
            case measure => simp [intOf]; omega
          · obtain rfl : q = i := by omega
            have HDU := Lib.hid (HWA.out.only HO.out HFA.out).duo
            clear HROW HO HWA HRWA HLL HOA HFA HDA
            go_wp2_with fail
            go_loopw [82] (fun s82 wr => ∃ (k : Nat) (ps : List ByteArray), k ≤ m ∧ s82 = .int .i64 k ∧ Hid (ps.length ≤ k) ∧ Hid (Duo (mapT OA od ks vs) ks vs names r r2 ps ps w wr)) (fun s82 _ => m - (intOf s82).toNat)
            case atStart => exact ⟨0, [], Nat.zero_le _, rfl, Lib.hid (Nat.le_refl _), HDU⟩
            case round =>
              obtain ⟨k, ps, hk, rfl, HPL, HD⟩ := hrel
              by_cases hlt3 : k < m
              · have hkv : k < vs.length := by have := HVM.out; omega
                have hkk : k < ks.length := by have := HKL.out; omega
                obtain ⟨g, o, hFF, hg, hcell⟩ := HF.out (by omega)
                have hxk := List.getElem?_eq_getElem hkv
                have hyk := List.getElem?_eq_getElem hkk
                have hkey := HKZ.out _ (List.getElem_mem hkk)
                generalize vs[k] = fv at hxk
                generalize ks[k] = key at hyk hkey
                obtain ⟨c6, c0, c1, c2, c3, c4, c5⟩ := hcell k _ _ hyk hxk
                have HBW := Lib.hid HD.out.below
                have c6 := (HBW.out.cell hg).trans c6
                have c0 := (HBW.out.cell hg).trans c0
                have c1 := (HBW.out.cell hg).trans c1
                have c2 := (HBW.out.cell hg).trans c2
                have c3 := (HBW.out.cell hg).trans c3
                have c4 := (HBW.out.cell hg).trans c4
                have c5 := (HBW.out.cell hg).trans c5
                have hs1 : key.size ≤ maxLen := by unfold maxLen; omega
                obtain ⟨pv, c, hgp⟩ : ∃ pv c, getA (mapT OA od ks vs) names key = (pv, c) := ⟨_, _, rfl⟩
                have hps : ps.length ≤ 1000000 := by have := HPL.out; omega
                obtain ⟨ps', hq'⟩ : ∃ ps', pullA ps key = ps' := ⟨_, rfl⟩
                have HPL2 : Hid (ps'.length ≤ k + 1) := Lib.hid (by have h1 := pullA_len3 ps key; rw [hq'] at h1; have := HPL.out; omega)
                have HG1 := Lib.hid (fun W1 (hbw : Bel wr W1) (hblk : Blk W1 wr.heap.size 49 (fF (key, fv))) => HD.out.get1x hbw hblk (Nat.le_refl _) key hs1 hps hgp hq')
                have HG2 := Lib.hid (fun b x w5 (hd : DuoB (mapT OA od ks vs) ks vs names r r2 ps' ps b x w w5) => hd.get2 key hs1 hps (by have := HQ.out; omega) hgp hq')
                have HBF := Lib.hid (Blk.new wr 49 (fF (key, fv)))
                obtain ⟨z, hz⟩ : ∃ z, z = ps'.length := ⟨_, rfl⟩
                have HZZ := Lib.hid hz.symm
                have hz101 : z ≤ 101 := by have := HPL2.out; omega
                clear hxk hyk hkey hcell hs1 hgp hps hq' hz
                subst hFF
                go_wp2_with (first
                  | (go_at_call 6; refine (HG1.out _ (Bel.alloc _ _) HBF.out).mono ?_; rintro e w5 ⟨v, rfl, hv, hd, hbf⟩; have HD5 := Lib.hid hd; have HV := Lib.hid hv; have y0 := (show _ = some (Value.string key) from hbf.cell 0); have HBF5 := Lib.hid hbf; clear hv hd hbf)
                  | (go_at_call 12; refine (HG2.out _ _ _ HD5.out).mono ?_; rintro e w7 ⟨y, rfl, hy, hyi, hd⟩; have HD7 := Lib.hid hd; have HY := Lib.hid hyi; have HVY : Hid (v.plain = y.plain) := Lib.hid (HV.out.trans hy.symm); clear hy hyi hd)
                  | (go_at_call 7; refine ((HD7.out.bel (Bel.alloc _ _)).duo.pulls3 (by have := HPL2.out; omega)).mono ?_; rw [HZZ.out]; rintro e w8 ⟨G, gd, rfl, hgr, hgk, hb⟩; have HGR := Lib.hid hgr; have HGK := Lib.hid hgk; have HB8 := Lib.hid hb; clear hgr hgk hb))
                have HALL : Hid (∀ W : World, Bel (w7.alloc (.cells #[.int .i64 y.k, .string y.s, .int .i64 y.n, .bool y.b, .slice y.A y.xs.length y.c, .slice y.F y.vs.length y.d] 27)) W → DuoB (mapT OA od ks vs) ks vs names r r2 ps' ps' w5.heap.size v w W ∧ Blk W w7.heap.size 27 y.cs ∧ y.In W (· < W.heap.size)) := Lib.hid (fun W hb => ⟨HD7.out.bel ((Bel.alloc _ _).trans hb), (Blk.new w7 27 y.cs).below hb (by simp), (HY.out.bel (Bel.alloc _ _)).bel hb⟩)
                clear HG1 HG2 HD5 HD7 HY HBF HBF5 HBW y0 c0 c1 c2 c3 c4 c5 c6
                go_loopw [104] (fun s104 wq => ∃ (i : Nat) (l : List ByteArray), i ≤ z ∧ s104 = .int .i64 i ∧ Hid (l.length = z) ∧ Hid (KRow wq 9 1 fS G gd l) ∧ Hid (Bel (w7.alloc (.cells #[.int .i64 y.k, .string y.s, .int .i64 y.n, .bool y.b, .slice y.A y.xs.length y.c, .slice y.F y.vs.length y.d] 27)) wq)) (fun s104 _ => z - (intOf s104).toNat)
                case atStart => exact ⟨0, ps', Nat.zero_le _, rfl, HZZ, HGR, HB8⟩
                case round =>
                  obtain ⟨i, l, hi, rfl, HLL, HROW, HBQ⟩ := hrel
                  by_cases hlt4 : i < z
                  · have hil : i < l.length := by have := HLL.out; omega
                    have hli := List.getElem?_eq_getElem hil
                    generalize l[i] = p at hli
                    obtain ⟨g4, o4, hGG, hg4, hc4⟩ := HROW.out.at_ fS_len hli (by omega)
                    obtain ⟨l', hl', hr'⟩ := over1 HROW.out hGG hil ByteArray.empty
                    have c0 : wr.cell? ⟨g4, o4 + i, none⟩ = some (.string p) := by have h1 := hc4 0 _ rfl; rwa [show o4 + i * 1 + 0 = o4 + i by omega] at h1
                    have f0 := HROW.out.free hGG (o4 + i)
                    rw [show o4 + (i * 1 + 0) = o4 + i by omega] at hr'
                    have HL' := Lib.hid (hl'.trans HLL.out)
                    have HR' := Lib.hid hr'
                    have HBN : Hid (Bel (w7.alloc (.cells #[.int .i64 y.k, .string y.s, .int .i64 y.n, .bool y.b, .slice y.A y.xs.length y.c, .slice y.F y.vs.length y.d] 27)) (setC wr g4 (o4 + i) (fS ByteArray.empty))) := Lib.hid (bel_on1 HBQ.out (only_setC _ _ _) (HGK.out g4 (by rw [hGG]; simp [rowT])))
                    clear hli hc4 hl' hr'
                    subst hGG
                    go_wp2_with fail
                    clear c0 f0
                    go_roundw
                    case rel => exact ⟨i + 1, l', by omega, by go_num, HL', HR', HBN⟩
                    case measure => simp [intOf]; omega
                  · obtain rfl : z = i := by omega
                    go_wp2_with fail
                    have HDW := Lib.hid (HALL.out _ (HBQ.out.trans (Bel.drew wr))).1
                    have HBY := Lib.hid (HALL.out _ (HBQ.out.trans (Bel.drew wr))).2.1
                    have HYW := Lib.hid (HALL.out _ (HBQ.out.trans (Bel.drew wr))).2.2
                    clear HALL HBQ HROW HLL HGR HB8 HGK
                    refine region_begin (T := []) (by kernel_rfl) ?_
                    generalize wr.drew = W at HDW HBY HYW ⊢
                    have HBX := Lib.hid HDW.out.box
                    have i0 : ∀ X : Later [] W, X.w.cell? ⟨w5.heap.size, 0, none⟩ = some (.int .i64 v.k) := fun X => (only_cell X.h HBX.out.lt (by simp)).trans (HBX.out.cell 0)
                    have i1 : ∀ X : Later [] W, X.w.cell? ⟨w5.heap.size, 1, none⟩ = some (.string v.s) := fun X => (only_cell X.h HBX.out.lt (by simp)).trans (HBX.out.cell 1)
                    have i2 : ∀ X : Later [] W, X.w.cell? ⟨w5.heap.size, 2, none⟩ = some (.int .i64 v.n) := fun X => (only_cell X.h HBX.out.lt (by simp)).trans (HBX.out.cell 2)
                    have i3 : ∀ X : Later [] W, X.w.cell? ⟨w5.heap.size, 3, none⟩ = some (.bool v.b) := fun X => (only_cell X.h HBX.out.lt (by simp)).trans (HBX.out.cell 3)
                    have i4 : ∀ X : Later [] W, X.w.cell? ⟨w5.heap.size, 4, none⟩ = some (.slice v.A v.xs.length v.c) := fun X => (only_cell X.h HBX.out.lt (by simp)).trans (HBX.out.cell 4)
                    have i5 : ∀ X : Later [] W, X.w.cell? ⟨w5.heap.size, 5, none⟩ = some (.slice v.F v.vs.length v.d) := fun X => (only_cell X.h HBX.out.lt (by simp)).trans (HBX.out.cell 5)
                    have j0 : ∀ X : Later [] W, X.w.cell? ⟨w7.heap.size, 0, none⟩ = some (.int .i64 y.k) := fun X => (only_cell X.h HBY.out.lt (by simp)).trans (HBY.out.cell 0)
                    have j1 : ∀ X : Later [] W, X.w.cell? ⟨w7.heap.size, 1, none⟩ = some (.string y.s) := fun X => (only_cell X.h HBY.out.lt (by simp)).trans (HBY.out.cell 1)
                    have j2 : ∀ X : Later [] W, X.w.cell? ⟨w7.heap.size, 2, none⟩ = some (.int .i64 y.n) := fun X => (only_cell X.h HBY.out.lt (by simp)).trans (HBY.out.cell 2)
                    have j3 : ∀ X : Later [] W, X.w.cell? ⟨w7.heap.size, 3, none⟩ = some (.bool y.b) := fun X => (only_cell X.h HBY.out.lt (by simp)).trans (HBY.out.cell 3)
                    have j4 : ∀ X : Later [] W, X.w.cell? ⟨w7.heap.size, 4, none⟩ = some (.slice y.A y.xs.length y.c) := fun X => (only_cell X.h HBY.out.lt (by simp)).trans (HBY.out.cell 4)
                    have j5 : ∀ X : Later [] W, X.w.cell? ⟨w7.heap.size, 5, none⟩ = some (.slice y.F y.vs.length y.d) := fun X => (only_cell X.h HBY.out.lt (by simp)).trans (HBY.out.cell 5)
                    refine region_seg [true, true, true, true, true, true] 13 (by kernel_rfl) (by kernel_rfl) (by kernel_rfl) rfl (fun _ _ d _ _ h => by cases d <;> exact h) ?_
                    repeat (first | with_reducible refine wpMask_pass ?_ | (refine wpMask_want (by rfl) (fun K hK => ?_); go_big_quiet_op; refine hK _ ?_; clear hK K))
                    with_reducible refine wpMask_nil ?_
                    clear i0 i1 i2 i3 i4 i5 j0 j1 j2 j3 j4 j5
                    refine region_call 6 (by kernel_rfl) rfl (by rfl) (by go_simp; exact ⟨rfl, rfl⟩) ?_
                    refine (equal_plain HVY.out W HDW.out.tree HYW.out).mono ?_
                    rintro e w10 ⟨rfl, hb⟩
                    refine ⟨_, rfl, bel_only hb, ?_⟩
                    simp only [List.getElem_toArray, List.getElem_cons_zero, List.getElem_cons_succ, Act.put, List.setIfInBounds_toArray, List.set_cons_zero, List.set_cons_succ]
                    have HD10 := Lib.hid (HDW.out.duo.bel hb)
                    clear hb
                    obtain ⟨PA, pc, hps2, hp2⟩ := HD10.out.rpulls
                    have HPS2 := Lib.hid hps2
                    rw [HZZ.out] at hp2
                    have p2 : ∀ X : Later [] w10, X.w.cell? ⟨r2, 2, none⟩ = some (.slice PA z pc) := fun X => hp2 X.w X.h
                    clear hps2 hp2
                    refine region_seg [false, false, false, false, false, false, false, true, true, true, true, false, true, true, true, true] 4 (by kernel_rfl) (by kernel_rfl) (by kernel_rfl) rfl (fun _ _ d _ _ h => by cases d <;> exact h) ?_
                    repeat (first | with_reducible refine wpMask_pass ?_ | (refine wpMask_want (by rfl) (fun K hK => ?_); go_big_quiet_op; refine hK _ ?_; clear hK K))
                    with_reducible refine wpMask_nil ?_
                    clear p2
                    refine region_call 11 (by kernel_rfl) rfl (by rfl) (by go_simp; exact ⟨rfl, rfl⟩) ?_
                    refine (HD10.out.pulls (by have := HPL2.out; omega)).mono ?_
                    rw [HZZ.out]
                    rintro e w11 ⟨G2, gd2, rfl, hgs, hb⟩
                    refine ⟨_, rfl, bel_only hb, ?_⟩
                    simp only [List.getElem_toArray, List.getElem_cons_zero, List.getElem_cons_succ, Act.put, List.setIfInBounds_toArray, List.set_cons_zero, List.set_cons_succ]
                    have HGS := Lib.hid hgs
                    have HD11 := Lib.hid (HD10.out.bel hb)
                    have HPS11 := Lib.hid (HPS2.out.bel hb)
                    clear hgs hb
                    have HEQ := Lib.hid (equalK_c HGS.out HPS11.out gd2 pc (by have := HPL2.out; omega) (by have := HPL2.out; omega) true (decide_eq_true rfl))
                    rw [HZZ.out] at HEQ
                    refine region_call 16 (by kernel_rfl) rfl (by rfl) (by go_simp; exact ⟨rfl, rfl⟩) ?_
                    refine HEQ.out.mono ?_
                    rintro e w12 ⟨rfl, hb⟩
                    refine ⟨_, rfl, bel_only hb, ?_⟩
                    simp only [List.getElem_toArray, List.getElem_cons_zero, List.getElem_cons_succ, Act.put, List.setIfInBounds_toArray, List.set_cons_zero, List.set_cons_succ]
                    have HD12 := Lib.hid (HD11.out.bel hb)
                    clear hb
                    refine region_seg [false, false, false, false, false, false, false, false, false, false, false, false, false, false, false, false, false, true, true] 0 (by kernel_rfl) (by kernel_rfl) (by kernel_rfl) rfl (fun _ _ d _ _ h => by cases d <;> exact h) ?_
                    repeat (first | with_reducible refine wpMask_pass ?_ | (refine wpMask_want (by rfl) (fun K hK => ?_); go_big_quiet_op; refine hK _ ?_; clear hK K))
                    with_reducible refine wpMask_nil ?_
                    refine region_end (by kernel_rfl) ?_
                    go_wp2_with fail
                    go_roundw
                    case rel => exact ⟨k + 1, ps', by omega, by go_num, HPL2, HD12⟩
                    case measure => simp [intOf]; omega
              · obtain rfl : m = k := by omega
                go_wp2_with (go_at_call 9; refine (HA.out _).mono ?_; rintro e w9 ⟨rfl, hb⟩; have HB9 := Lib.hid hb; clear hb)
                go_ret
                exact ⟨rfl, HD.out.below.trans HB9.out⟩
  · have HN1 : Hid (∀ (OA : Option Addr) (od : Nat) (FA : Option Addr) (fc : Nat) (W : World), Bel w W → KRow W 49 7 fF OA od (ks.zip vs) → KRow W 9 1 fS FA fc names → Calls Try.prog 10 #[.slice OA m od, .slice FA q fc] W fun e w' => e = .returned (.tuple #[.pointer none, .int .i64 E]) ∧ Bel W w') := Lib.hid (fun OA od FA fc W hb hr hr2 => (HNWO.out OA od FA fc W hb hr hr2).mono fun e w' h => by
      rcases h with ⟨h, _⟩ | ⟨_, h1, h2⟩
      · rw [HE.out] at h; exact absurd h h0
      · rw [HE.out] at h1; exact ⟨h1, h2⟩)
    have HN2 : Hid (∀ W : World, Bel w W → Calls Try.prog 11 #[.slice F m d, .slice NA q nc] W fun e w' => e = .returned (.tuple #[.pointer none, .int .i64 E]) ∧ Bel W w') := Lib.hid (fun W hb => (HRN.out W hb).mono fun e w' h => by
      rcases h with ⟨h, _⟩ | ⟨_, h1, h2⟩
      · exact absurd h h0
      · exact ⟨h1, h2⟩)
    have h0' : (E != 0) = true := by simpa using h0
    have h0'' : (E == 0) = false := by simpa using h0
    clear HNWO HRN HE
    go_enter Try.func5, Try.ntmps5
    go_wp2_with (first
      | (go_at_call 8; refine HTL.out.mono ?_; rintro e w2 ⟨rr, hr0, hr1, rfl, hb, hsm⟩; have HB2 := Lib.hid hb; have HSM := Lib.hid hsm; have HR2 := Lib.hid (HRO.out w2); have HS2 := Lib.hid ((HSF.out.bel hb).alloc (.cells #[] 49)); clear hb hsm)
      | (go_at_call 9; refine (HA.out _).mono ?_; rintro e w9 ⟨rfl, hb⟩; have HB9 := Lib.hid hb; clear hb)
      | ((with_reducible refine wp_kAppend rfl (.tmp 26) (.tmp 27) 22 rfl 49 _ 7 104 fF fF_len fF_one Try.underlying22 info_field cells_field (of_decide_eq_true rfl) (some ⟨w2.heap.size, 0, none⟩) 0 ([] : List (ByteArray × VT)) 0 rfl rfl HR2.out F d (ks.zip vs) m HZL.out rfl HS2.out HM1.out.1 HM1.out.2 m (Nat.zero_add m).symm ?_); intro OA od w3 HRW3 hO3 HK3; have HFR3 := Lib.hid (fresh_row HRW3.out hO3 HK3.out); have HB3 := Lib.hid (HB2.out.trans HFR3.out.2.1); have HR3 := Lib.hid (HRS.out w3); have HS3 := Lib.hid ((HSN.out.bel HB3.out).alloc (.cells #[] 9)); clear hO3)
      | ((with_reducible refine wp_kAppend rfl (.tmp 29) (.tmp 30) 23 rfl 9 _ 1 16 fS fS_len fS_one Try.underlying23 info_str cells_str (of_decide_eq_true rfl) (some ⟨w3.heap.size, 0, none⟩) 0 ([] : List ByteArray) 0 rfl rfl HR3.out NA nc names q HQ.out rfl HS3.out HM2.out.1 HM2.out.2 q (Nat.zero_add q).symm ?_); intro FA fc w4 HRW4 hO4 HK4; have HFR4 := Lib.hid (fresh_row HRW4.out hO4 HK4.out); have HRW := Lib.hid HFR4.out.1; have HB4 := Lib.hid (HB3.out.trans HFR4.out.2.1); have HROW4 := Lib.hid (HFR3.out.1.only (bel_only HFR4.out.2.1) (by simp)); clear hO4)
      | (go_at_call 10; refine (HN1.out OA od FA fc w4 HB4.out HROW4.out HRW.out).mono ?_; rintro e w5 ⟨rfl, hb⟩; have HB5 := Lib.hid (HB4.out.trans hb); clear hb)
      | (go_at_call 11; refine (HN2.out _ HB5.out).mono ?_; rintro e w6 ⟨rfl, hb⟩; have HB6 := Lib.hid (HB5.out.trans hb); clear hb))
    all_goals (go_ret; first | exact ⟨rfl, HB6.out.trans HB9.out⟩ | exact ⟨rfl, HB2.out.trans HB9.out⟩)
end Go.Proofs.Ytollcekcmnokaaa
