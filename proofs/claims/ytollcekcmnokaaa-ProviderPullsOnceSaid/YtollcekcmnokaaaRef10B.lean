/-
  Contract: the reference's New.
-/
import Derived.Test.YtollcekcmnokaaaRef10
namespace Go.Proofs.Ytollcekcmnokaaa
open Go.RowKit Go.BigFrame
set_option linter.unusedVariables false
set_option linter.unusedSimpArgs false

/-- The reference's provider is made. -/
theorem rf_made {ks : List ByteArray} {vs : List VT} {fail : List ByteArray} {lo : Nat} {w1 w2 w3 : World} {F2 L2 : Option Addr} {fd2 lc2 : Nat} {o1 o2 : Obj} (hkl : ks.length = vs.length) (hby : vs.length * 104 ≤ 140737488351232) (hlo : lo ≤ w1.heap.size)
    (hx : ∀ x, x ∈ vs → x.In w1 (· < lo)) (hks : ∀ key, key ∈ ks → key.size ≤ 140737488351232)
    (hR2 : KRow w2 49 7 fF F2 fd2 (ks.zip vs)) (hO2 : Only (rowT (some ⟨w1.heap.size, 0, none⟩)) (w1.alloc o1) w2) (hK2 : ∀ k, k ∈ rowT F2 → k ∈ rowT (some ⟨w1.heap.size, 0, none⟩) ∨ k = (w1.alloc o1).heap.size)
    (hR3 : KRow w3 9 1 fS L2 lc2 fail) (hO3 : Only (rowT (some ⟨w2.heap.size, 0, none⟩)) (w2.alloc o2) w3) (hK3 : ∀ k, k ∈ rowT L2 → k ∈ rowT (some ⟨w2.heap.size, 0, none⟩) ∨ k = (w2.alloc o2).heap.size) :
    Bel w1 (w3.alloc (.cells #[.slice F2 vs.length fd2, .slice L2 fail.length lc2, .slice none 0 0] 44)) ∧
    Rf ks vs fail w3.heap.size [] lo (w3.alloc (.cells #[.slice F2 vs.length fd2, .slice L2 fail.length lc2, .slice none 0 0] 44)) (w3.heap.size :: (rowT F2 ++ rowT L2 ++ rowT none)) ∧ ∀ k, k ∈ w3.heap.size :: (rowT F2 ++ rowT L2 ++ rowT none) → w1.heap.size ≤ k := by
  have s1 : (w1.alloc o1).heap.size = w1.heap.size + 1 := by simp
  have s2 : (w2.alloc o2).heap.size = w2.heap.size + 1 := by simp
  have z2 := hO2.size
  have z3 := hO3.size
  have b2 : Bel w1 w2 := bel_on (Bel.alloc w1 o1) hO2 (fun k hk => by simp [rowT] at hk; omega)
  have b3 : Bel w2 w3 := bel_on (Bel.alloc w2 o2) hO3 (fun k hk => by simp [rowT] at hk; omega)
  have k2 : ∀ k, k ∈ rowT F2 → w1.heap.size ≤ k := fun k hk => by rcases hK2 k hk with h | h; simp [rowT] at h; omega; omega
  have k3 : ∀ k, k ∈ rowT L2 → w1.heap.size ≤ k := fun k hk => by rcases hK3 k hk with h | h; simp [rowT] at h; omega; omega
  have b4 := (b2.trans b3).trans (Bel.alloc w3 (.cells #[.slice F2 vs.length fd2, .slice L2 fail.length lc2, .slice none 0 0] 44))
  refine ⟨b4, ⟨F2, fd2, L2, lc2, none, 0, ⟨Blk.new w3 44 _, hkl, hby, (hR2.only (bel_only b3) (by simp)).alloc _, hR3.alloc _, KRow.nil _ _ _ _, fun x h => (hx x h).only (bel_only b4) (fun g hg => ⟨by simp, by omega⟩) (fun g hg => hg), hks, by have := b4.size; omega, by omega⟩, rfl⟩, fun k hk => ?_⟩
  simp only [List.mem_cons, List.mem_append] at hk
  rcases hk with rfl | (hk | hk) | hk
  · omega
  · exact k2 k hk
  · exact k3 k hk
  · simp [rowT] at hk
set_option maxRecDepth 100000 in
set_option maxHeartbeats 3200000 in
theorem refNew_c (F : Option Addr) (d : Nat) (ks : List ByteArray) (vs : List VT) (L : Option Addr) (lc : Nat) (fail : List ByteArray) (lo : Nat) (w : World) (hI : (mapT F d ks vs).In w (· < w.heap.size)) (hx : ∀ x, x ∈ vs → x.In w (· < lo)) (hlo : lo ≤ w.heap.size) (hL : Strs w L fail) (hn : fail.length * 16 ≤ 140737488351232) (hsz : ∀ s, s ∈ fail → s.size ≤ maxLen) :
    Calls Try.prog 11 #[.slice F vs.length d, .slice L fail.length lc] w (RfNewR ks vs fail (newE (mapT F d ks vs) fail) lo w) := by
  have HCK := Lib.hid (show Calls Try.prog 22 #[.agg #[.int .i64 4, .string ByteArray.empty, .int .i64 0, .bool false, .slice none 0 0, .slice F vs.length d]] w _ from refCheck_c (mapT F d ks vs) w hI)
  have HE1 := Lib.hid (newE_chk (t := mapT F d ks vs) (fail := fail))
  have HE2 := Lib.hid (newE_bad (t := mapT F d ks vs) (fail := fail))
  have HE3 := Lib.hid (newE_ok (t := mapT F d ks vs) (fail := fail))
  have HL := Lib.hid hL
  have HSZ := Lib.hid hsz
  have hkl : ks.length = vs.length := hI.bounds.2.2.2.2.2.2.2
  have hby : vs.length * 104 ≤ 140737488351232 := hI.bytes.2
  have HSV : Hid (Src w 7 fF F (ks.zip vs)) := Lib.hid hI.srcV
  have HX := Lib.hid hx
  have HKL := Lib.hid hkl
  have HKS : Hid (∀ key, key ∈ ks → key.size ≤ 140737488351232) := Lib.hid (by cases hI with | mk _ _ _ _ _ _ _ _ _ _ _ hks => exact hks)
  have HZL : Hid ((ks.zip vs).length = vs.length) := Lib.hid (by rw [List.length_zip]; omega)
  clear hI hL hsz hkl hx
  obtain ⟨E, hE⟩ : ∃ E, E = VT.chk (SizeOf.sizeOf (mapT F d ks vs) + 1) (mapT F d ks vs) 1 := ⟨_, rfl⟩
  rw [← hE] at HCK HE1 HE2 HE3
  clear hE
  generalize newE (mapT F d ks vs) fail = R at *
  obtain ⟨m, hm⟩ : ∃ m, m = vs.length := ⟨_, rfl⟩
  obtain ⟨n, hnn⟩ : ∃ n, n = fail.length := ⟨_, rfl⟩
  have hby2 : m * 104 ≤ 140737488351232 := by rw [hm]; exact hby
  rw [← hm] at HCK HZL ⊢
  rw [← hnn] at hn ⊢
  have HM := Lib.hid hm
  have HN := Lib.hid hnn
  clear hm hnn
  go_enter Try.func11, Try.ntmps11
  go_wp2_with (go_at_call 22; refine HCK.out.mono ?_; rintro e w1 ⟨rfl, hb⟩; have HB1 := Lib.hid hb; clear hb)
  · have h9 : (E != 0) = true := by assumption
    have h8 : E ≠ 0 := by simpa using h9
    have HR := Lib.hid (HE1.out h8)
    go_ret2
    exact .inr ⟨by rw [HR.out]; exact h8, by rw [HR.out]; rfl, HB1.out⟩
  have h8 : E = 0 := by have h9 : (E != 0) = false := by assumption
                        simpa using h9
  have HE2b := Lib.hid (HE2.out h8)
  have HE3b := Lib.hid (HE3.out h8)
  have h7 : (E != 0) = false := by assumption
  rw [h7]
  clear HCK HE1 HE2 HE3 h7 h8
  go_loop [7] (fun v => ∃ k : Nat, k ≤ n ∧ v = .int .i64 k ∧ Hid ((fail.take k).all nameB = true)) (fun v => n - (intOf v).toNat)
  case atStart => exact ⟨0, Nat.zero_le _, rfl, Lib.hid rfl⟩
  case round =>
    obtain ⟨k, hk, rfl, HAK⟩ := hrel
    by_cases hlt : k < n
    · have hkx : k < fail.length := by have := HN.out; omega
      have hxk := List.getElem?_eq_getElem hkx
      have hs1 := HSZ.out _ (List.getElem_mem hkx)
      generalize fail[k] = s at hxk hs1
      obtain ⟨g, o, hLL, hg, hc⟩ := HL.out.at_ hxk
      have c0 := (HB1.out.cell hg).trans hc
      have HXK := Lib.hid hxk
      have HNM := Lib.hid (fun W => refName_c s hs1 W)
      clear hc hxk hs1
      subst hLL
      cases hnb : nameB s with
      | false =>
        have HR := Lib.hid (HE2b.out (not_all_name HXK.out hnb))
        rw [hnb] at HNM
        clear hnb
        go_wp2_with (go_at_call 23; refine (HNM.out _).mono ?_; rintro e w' ⟨rfl, rfl⟩)
        go_ret2
        exact .inr ⟨by rw [HR.out]; decide, by rw [HR.out]; rfl, HB1.out⟩
      | true =>
        have HAK2 := Lib.hid (all_take_name HXK.out hnb HAK.out)
        rw [hnb] at HNM
        clear hnb
        go_wp2_with (go_at_call 23; refine (HNM.out _).mono ?_; rintro e w' ⟨rfl, rfl⟩)
        go_round
        case rel => exact ⟨k + 1, by omega, by go_num, HAK2⟩
        case measure => simp [intOf]; omega
    · obtain rfl : n = k := by omega
      have hall : fail.all nameB = true := by have h1 := HAK.out; rw [HN.out, List.take_length] at h1; exact h1
      have HR := Lib.hid (HE3b.out hall)
      clear hall HE2b HE3b HAK
      have HR1 := Lib.hid (show KRow (w1.alloc (.cells #[] 49)) 49 7 fF (some ⟨w1.heap.size, 0, none⟩) 0 ([] : List (ByteArray × VT)) from KRow.of_room (Blk.new w1 49 []) 0 (by simp) (by simp))
      have HS1 := Lib.hid ((HSV.out.bel HB1.out).alloc (.cells #[] 49))
      have HM1 : Hid (0 + m ≤ maxLen ∧ (0 + m) * 104 ≤ 140737488355328) := Lib.hid (by unfold maxLen; omega)
      have HM2 : Hid (0 + n ≤ maxLen ∧ (0 + n) * 16 ≤ 140737488355328) := Lib.hid (by unfold maxLen; omega)
      go_wp2_with (first | (with_reducible refine wp_kAppend rfl (.tmp 26) (.tmp 27) 22 rfl 49 _ 7 104 fF fF_len fF_one Try.underlying22 info_field cells_field (of_decide_eq_true rfl) (some ⟨w1.heap.size, 0, none⟩) 0 ([] : List (ByteArray × VT)) 0 rfl rfl HR1.out F d (ks.zip vs) m HZL.out rfl HS1.out HM1.out.1 HM1.out.2 m (Nat.zero_add m).symm ?_; intro F2 fd2 w2 HRF hO2 HK2; have HO2 := Lib.hid hO2; have HB2 := Lib.hid (bel_on (Bel.alloc w1 (.cells #[] 49)) hO2 (fun k hk => by simp [rowT] at hk; omega)); have HRS := Lib.hid (show KRow (w2.alloc (.cells #[] 9)) 9 1 fS (some ⟨w2.heap.size, 0, none⟩) 0 ([] : List ByteArray) from KRow.of_room (Blk.new w2 9 []) 0 (by simp) (by simp)); have HSS := Lib.hid ((HL.out.src.bel (HB1.out.trans HB2.out)).alloc (.cells #[] 9)); clear hO2) | (with_reducible refine wp_kAppend rfl (.tmp 29) (.tmp 30) 23 rfl 9 _ 1 16 fS fS_len fS_one Try.underlying23 info_str cells_str (of_decide_eq_true rfl) (some ⟨w2.heap.size, 0, none⟩) 0 ([] : List ByteArray) 0 rfl rfl HRS.out L lc fail n HN.out.symm rfl HSS.out HM2.out.1 HM2.out.2 n (Nat.zero_add n).symm ?_; intro L2 lc2 w3 HRL hO3 HK3; have HO3 := Lib.hid hO3; clear hO3))
      go_ret2
      have hm9 := HM.out
      have hn9 := HN.out
      subst hm9 hn9
      obtain ⟨q1, q2, q3⟩ := rf_made HKL.out hby (Nat.le_trans hlo HB1.out.size) (fun x h => (HX.out x h).only (bel_only HB1.out) (fun g hg => ⟨by simp, by omega⟩) (fun g hg => hg)) HKS.out HRF.out HO2.out HK2.out HRL.out HO3.out HK3.out
      exact .inl ⟨HR.out, _, _, rfl, HB1.out.trans q1, q2, fun k hk => Nat.le_trans HB1.out.size (q3 k hk)⟩
end Go.Proofs.Ytollcekcmnokaaa
