/-
  Contract: provider.New, walked.
-/
import Derived.Test.YtollcekcmnokaaaNew10
namespace Go.Proofs.Ytollcekcmnokaaa
open Go.RowKit Go.BigFrame
set_option linter.unusedVariables false
set_option linter.unusedSimpArgs false

set_option maxRecDepth 100000 in
set_option maxHeartbeats 3200000 in
theorem New_c (F : Option Addr) (d : Nat) (ks : List ByteArray) (vs : List VT) (L : Option Addr) (lc : Nat) (fail : List ByteArray) (w : World) (hI : (mapT F d ks vs).In w (· < w.heap.size)) (hL : Strs w L fail) (hn : fail.length ≤ 4611686018427387904) (hsz : ∀ s, s ∈ fail → s.size ≤ maxLen) :
    Calls Try.prog 10 #[.slice F vs.length d, .slice L fail.length lc] w (NewR (mapT F d ks vs) fail w) := by
  have HCK := Lib.hid (show Calls Try.prog 21 #[.agg #[.int .i64 4, .string ByteArray.empty, .int .i64 0, .bool false, .slice none 0 0, .slice F vs.length d]] w _ from Check_c (mapT F d ks vs) w hI)
  have HZERO := Lib.hid (chk_zero (SizeOf.sizeOf (mapT F d ks vs) + 1) (mapT F d ks vs) 1 w _ (Nat.lt_succ_self _) hI)
  have HE1 := Lib.hid (newE_chk (t := mapT F d ks vs) (fail := fail))
  have HE2 := Lib.hid (newE_bad (t := mapT F d ks vs) (fail := fail))
  have HE3 := Lib.hid (newE_ok (t := mapT F d ks vs) (fail := fail))
  have HI := Lib.hid hI
  have HL := Lib.hid hL
  have HSZ := Lib.hid hsz
  have HF : Hid (0 < vs.length → ∃ g o, F = some ⟨g, o, none⟩ ∧ g < w.heap.size ∧ ∀ i (x : VT) key, ks[i]? = some key → vs[i]? = some x → w.cell? ⟨g, o + i * 7, none⟩ = some (.string key) ∧ x.Cells w g (o + i * 7 + 1)) := Lib.hid (by cases hI with | mk _ _ _ _ _ _ _ _ hF _ _ _ => exact hF)
  have HV : Hid (∀ x, x ∈ vs → x.In w (· < w.heap.size)) := Lib.hid (by cases hI with | mk _ _ _ _ _ _ _ _ _ _ hv _ => exact hv)
  obtain ⟨hd1, hd2⟩ := hI.bounds.2.2.2.2.2
  have hkl := hI.bounds.2.2.2.2.2.2.2
  have hby := hI.bytes.2
  have hd1' : vs.length ≤ d := hd1
  have hd2' : d ≤ 9223372036854775807 := hd2.1
  have hkl' : ks.length = vs.length := hkl
  have hby' : vs.length * 104 ≤ 140737488351232 := hby
  have HKL := Lib.hid hkl'
  clear hI hL hsz hkl hd1 hd2 hkl' hby
  obtain ⟨E, hE⟩ : ∃ E, E = VT.chk (SizeOf.sizeOf (mapT F d ks vs) + 1) (mapT F d ks vs) 1 := ⟨_, rfl⟩
  rw [← hE] at HCK HE1 HE2 HE3
  rw [show (((1 : Nat)) : Int) = 1 from rfl, ← hE] at HZERO
  have HEE := Lib.hid hE
  clear hE
  obtain ⟨m, hm⟩ : ∃ m, m = vs.length := ⟨_, rfl⟩
  obtain ⟨n, hnn⟩ : ∃ n, n = fail.length := ⟨_, rfl⟩
  rw [← hm] at HCK hd1' hby' HKL HF ⊢
  rw [← hnn] at hn ⊢
  have HM := Lib.hid hm
  have HN := Lib.hid hnn
  clear hm hnn
  have hmm := @run_makeMap Try.prog
  go_enter Try.func10, Try.ntmps10
  go_wp2_with (go_at_call 21; refine HCK.out.mono ?_; rintro e w1 ⟨rfl, hb⟩; have HB1 := Lib.hid hb; clear hb)
  · have h9 : (E != 0) = true := by assumption
    have h8 : E ≠ 0 := by simpa using h9
    have HR := Lib.hid (HE1.out h8)
    go_ret2
    exact .inr ⟨by rw [HR.out]; exact h8, by rw [HR.out]; rfl, HB1.out⟩
  have h8 : E = 0 := by have h9 : (E != 0) = false := by assumption
                        simpa using h9
  have hok := HZERO.out.1 h8
  rw [VT.plain_eq, PV.ok] at hok
  have HND : Hid ks.Nodup := Lib.hid hok.2.2.2.2.2.2.2.2.1
  have HNS : Hid (∀ key, key ∈ ks → nameB key = true) := Lib.hid hok.2.2.2.2.2.2.2.2.2.1
  clear hok
  have HE2b := Lib.hid (HE2.out h8)
  have HE3b := Lib.hid (HE3.out h8)
  clear HCK HE1 HEE HZERO HE2 HE3
  have h7 : (E != 0) = false := by assumption
  rw [h7]
  clear h7 h8
  have HMD := Lib.hid (Made.start w1 fail)
  go_loopw [25] (fun s25 wr => ∃ k : Nat, k ≤ n ∧ s25 = .int .i64 k ∧ Hid (Made w1 wr fail k (fun _ => none) 0) ∧ Hid ((fail.take k).all nameB = true)) (fun s25 _ => n - (intOf s25).toNat)
  case atStart => exact ⟨0, Nat.zero_le _, rfl, HMD, Lib.hid rfl⟩
  case round =>
    obtain ⟨k, hk, rfl, HMK, HAK⟩ := hrel
    by_cases hlt : k < n
    · have hkx : k < fail.length := by have := HN.out; omega
      have hxk := List.getElem?_eq_getElem hkx
      have hs1 := HSZ.out _ (List.getElem_mem hkx)
      generalize fail[k] = s at hxk hs1
      obtain ⟨g, o, hLL, hg, hc⟩ := HL.out.at_ hxk
      have c0 := ((HB1.out.trans HMK.out.bel).cell hg).trans hc
      have HXK := Lib.hid hxk
      have HS1 := Lib.hid hs1
      have HNM := Lib.hid (fun W => isName_c s hs1 W)
      clear hc hxk hs1
      subst hLL
      cases hnb : nameB s with
      | false =>
        have HR := Lib.hid (HE2b.out (not_all_name HXK.out hnb))
        rw [hnb] at HNM
        clear hnb
        go_wp2_with (go_at_call 16; refine (HNM.out _).mono ?_; rintro e w' ⟨rfl, rfl⟩)
        go_ret2
        exact .inr ⟨by rw [HR.out]; decide, by rw [HR.out]; rfl, HB1.out.trans HMK.out.bel⟩
      | true =>
        have HAK2 := Lib.hid (all_take_name HXK.out hnb HAK.out)
        rw [hnb] at HNM
        clear hnb
        have p1 : wr.cell? ⟨w1.heap.size + 1 + 1 + 1, 1, none⟩ = some (.map (some (w1.heap.size + 1))) := HMK.out.head.cell 1
        have hk63 : k < maxLen := by unfold maxLen; omega
        have HK63 := Lib.hid hk63
        clear hk63
        go_wp2_with (first | (go_at_call 16; refine (HNM.out _).mono ?_; rintro e w' ⟨rfl, rfl⟩) | (at_mapUpdate; refine wp_store rfl _ _ _ 55 rfl 4 Try.underlying55 (w1.heap.size + 1) k _ rfl HMK.out.ml HK63.out s rfl HS1.out _ rfl ?_; intro w2 HS2 hg2; have HMK2 := Lib.hid (HMK.out.fail_ HXK.out HS2.out hg2); clear hg2 HS2 p1))
        go_roundw
        case rel => exact ⟨k + 1, by omega, by go_num, HMK2, HAK2⟩
        case measure => simp [intOf]; omega
    · obtain rfl : n = k := by omega
      have hall : fail.all nameB = true := by have h1 := HAK.out; rw [HN.out, List.take_length] at h1; exact h1
      have HR := Lib.hid (HE3b.out hall)
      have hmk := HMK.out
      rw [HN.out] at hmk
      have HFS := Lib.hid (Filled.start (t := mapT F d ks vs) hmk)
      clear hmk hall HE2b HE3b HMK HAK HMD
      go_wp2_with fail
      go_loopw [40] (fun s40 wq => ∃ (j : Nat) (us : List VT), j ≤ m ∧ s40 = .int .i64 j ∧ Hid (Filled w1 wq (mapT F d ks vs) fail us j)) (fun s40 _ => m - (intOf s40).toNat)
      case atStart => exact ⟨0, [], Nat.zero_le _, rfl, HFS⟩
      case round =>
        obtain ⟨j, us, hj, rfl, HFJ⟩ := hrel
        by_cases hlt : j < m
        · have hjx : j < vs.length := by have := HM.out; omega
          have hjk : j < ks.length := by have := HKL.out; omega
          obtain ⟨g, o, hFF, hg, hcell⟩ := HF.out (by omega)
          have hxj := List.getElem?_eq_getElem hjx
          have hkj := List.getElem?_eq_getElem hjk
          have hxi := HV.out _ (List.getElem_mem hjx)
          have hns := HNS.out _ (List.getElem_mem hjk)
          generalize vs[j] = x at hxj hxi
          generalize ks[j] = key at hkj hns
          obtain ⟨c6, c0, c1, c2, c3, c4, c5⟩ := hcell j _ _ hkj hxj
          have HB9 := Lib.hid (HB1.out.trans HFJ.out.made.bel)
          have c6 := (HB9.out.cell hg).trans c6
          have c0 := (HB9.out.cell hg).trans c0
          have c1 := (HB9.out.cell hg).trans c1
          have c2 := (HB9.out.cell hg).trans c2
          have c3 := (HB9.out.cell hg).trans c3
          have c4 := (HB9.out.cell hg).trans c4
          have c5 := (HB9.out.cell hg).trans c5
          have HXJ := Lib.hid hxj
          have HKJ := Lib.hid hkj
          have HXI := Lib.hid hxi
          have HKS : Hid (key.size ≤ maxLen) := Lib.hid (by have := name_size hns; unfold maxLen; omega)
          clear hxj hkj hxi hns hcell
          rw [hFF]
          go_wp2_with fail
          have hsz4 := HFJ.out.made.size
          have HBX : Hid (Blk (wr.alloc (.cells #[.string key, .int .i64 x.k, .string x.s, .int .i64 x.n, .bool x.b, .slice x.A x.xs.length x.c, .slice x.F x.vs.length x.d] 49)).drew wr.heap.size 49 (fF (key, x))) := Lib.hid (Blk.new wr 49 (fF (key, x))).drew
          have HWB : Hid (Bel wr (wr.alloc (.cells #[.string key, .int .i64 x.k, .string x.s, .int .i64 x.n, .bool x.b, .slice x.A x.xs.length x.c, .slice x.F x.vs.length x.d] 49)).drew) := Lib.hid ((Bel.alloc _ _).trans (Bel.drew _))
          refine region_begin (T := [w1.heap.size]) (by kernel_rfl) ?_
          generalize (wr.alloc (.cells #[.string key, .int .i64 x.k, .string x.s, .int .i64 x.n, .bool x.b, .slice x.A x.xs.length x.c, .slice x.F x.vs.length x.d] 49)).drew = W at HBX HWB ⊢
          have HCALL := Lib.hid (clone_c (SizeOf.sizeOf x + 1) x W (Nat.lt_succ_self _) (HXI.out.bel (HB9.out.trans HWB.out)))
          have HHD := Lib.hid (HFJ.out.made.bel_ HWB.out).head
          have p0 : ∀ X : Later [w1.heap.size] W, X.w.cell? ⟨w1.heap.size + 1 + 1 + 1, 0, none⟩ = some (.map (some w1.heap.size)) := fun X => (only_cell X.h HHD.out.lt (by simp)).trans (HHD.out.cell 0)
          have i6 : ∀ X : Later [w1.heap.size] W, X.w.cell? ⟨wr.heap.size, 0, none⟩ = some (.string key) := fun X => (only_cell X.h HBX.out.lt (by simp; omega)).trans (HBX.out.cell 0)
          have i0 : ∀ X : Later [w1.heap.size] W, X.w.cell? ⟨wr.heap.size, 1, none⟩ = some (.int .i64 x.k) := fun X => (only_cell X.h HBX.out.lt (by simp; omega)).trans (HBX.out.cell 1)
          have i1 : ∀ X : Later [w1.heap.size] W, X.w.cell? ⟨wr.heap.size, 2, none⟩ = some (.string x.s) := fun X => (only_cell X.h HBX.out.lt (by simp; omega)).trans (HBX.out.cell 2)
          have i2 : ∀ X : Later [w1.heap.size] W, X.w.cell? ⟨wr.heap.size, 3, none⟩ = some (.int .i64 x.n) := fun X => (only_cell X.h HBX.out.lt (by simp; omega)).trans (HBX.out.cell 3)
          have i3 : ∀ X : Later [w1.heap.size] W, X.w.cell? ⟨wr.heap.size, 4, none⟩ = some (.bool x.b) := fun X => (only_cell X.h HBX.out.lt (by simp; omega)).trans (HBX.out.cell 4)
          have i4 : ∀ X : Later [w1.heap.size] W, X.w.cell? ⟨wr.heap.size, 5, none⟩ = some (.slice x.A x.xs.length x.c) := fun X => (only_cell X.h HBX.out.lt (by simp; omega)).trans (HBX.out.cell 5)
          have i5 : ∀ X : Later [w1.heap.size] W, X.w.cell? ⟨wr.heap.size, 6, none⟩ = some (.slice x.F x.vs.length x.d) := fun X => (only_cell X.h HBX.out.lt (by simp; omega)).trans (HBX.out.cell 6)
          refine region_seg [true, true, true, true, true, true, true, true] 2 (by kernel_rfl) (by kernel_rfl) (by kernel_rfl) rfl (fun _ _ d _ _ h => by cases d <;> exact h) ?_
          repeat (first | with_reducible refine wpMask_pass ?_ | (refine wpMask_want (by rfl) (fun K hK => ?_); go_big_quiet_op; refine hK _ ?_; clear hK K))
          with_reducible refine wpMask_nil ?_
          clear p0 i0 i1 i2 i3 i4 i5 i6
          refine region_call 8 (by kernel_rfl) rfl (by rfl) (by go_simp; exact ⟨rfl, rfl⟩) ?_
          refine HCALL.out.mono ?_
          rintro e w2 ⟨y, rfl, hb, hy, hp⟩
          refine ⟨_, rfl, (bel_only hb).more (by simp), ?_⟩
          obtain ⟨w3, hrun, hfill, ho3⟩ := HFJ.out.push (HWB.out.trans hb) HND.out HKJ.out HXJ.out HKS.out (by unfold maxLen; omega) (hy.only (Only.refl [] w2) (fun g hg => ⟨by simp, hg.2⟩) (Q' := fun g => wr.heap.size ≤ g ∧ g < w2.heap.size) (fun g hg => ⟨Nat.le_trans HWB.out.size hg.1, hg.2⟩)) hp
          simp only [List.getElem_toArray, List.getElem_cons_zero, List.getElem_cons_succ, Act.put, List.setIfInBounds_toArray, List.set_cons_zero, List.set_cons_succ]
          refine region_store 9 (by kernel_rfl) rfl (by rfl) (w1 := w3) (run_mapUpdate_op10 rfl rfl rfl rfl hrun) ho3 ?_
          refine region_end (by kernel_rfl) ?_
          simp only [List.getElem_toArray, List.getElem_cons_zero, List.getElem_cons_succ, Act.put, List.setIfInBounds_toArray, List.set_cons_zero, List.set_cons_succ]
          have HF3 := Lib.hid hfill
          clear hrun hfill ho3 hy hp hb c0 c1 c2 c3 c4 c5 c6
          go_wp2_with fail
          rw [← hFF]
          go_roundw
          case rel => exact ⟨j + 1, us ++ [y], by omega, by go_num, HF3⟩
          case measure => simp [intOf]; omega
        · obtain rfl : m = j := by omega
          go_wp2_with fail
          go_ret2
          have hpr := HFJ.out.pr HM.out (HKL.out.trans HM.out)
          exact .inl ⟨HR.out, _, _, rfl, HB1.out.trans HFJ.out.made.bel, hpr, fun k hk => by
            have h1 := HB1.out.size
            have h2 := (mem_T HFJ.out.made.bel.size).1 hk
            simp [rowT] at h2
            omega⟩
end Go.Proofs.Ytollcekcmnokaaa
