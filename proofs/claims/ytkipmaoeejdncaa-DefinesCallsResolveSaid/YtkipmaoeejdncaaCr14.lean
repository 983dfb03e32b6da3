/-
  The law DefinesCallsResolve, walked.
-/
import Derived.Test.YtkipmaoeejdncaaFi14
namespace Go.Proofs.Ytkipmaoeejdncaa
open Go.RowKit Go.BigFrame NT
set_option linter.unusedVariables false
set_option linter.unusedSimpArgs false

theorem hasN_take {l : List ByteArray} (hn : l.Nodup) {k : Nat} {x : ByteArray} (hx : l[k]? = some x) : hasN (l.take k) x = false := by
  rw [Bool.eq_false_iff]
  intro h
  have h1 := hasN_iff.1 h
  obtain ⟨i, hi⟩ := List.mem_iff_getElem?.1 h1
  have hlt := (List.getElem?_eq_some_iff.1 hi).1
  rw [List.length_take] at hlt
  rw [List.getElem?_take_of_lt (by omega)] at hi
  have := (List.getElem?_inj (i := i) (j := k) (by have := (List.getElem?_eq_some_iff.1 hx).1; omega) hn).1 (hi.trans hx.symm)
  omega
theorem names_len (l : List NT) : (namesN l).length ≤ tots l := by
  have h : ∀ l : List NT, l.length ≤ tots l := fun l => Nat.le_trans (cnts_le_len l) (cnts_le l)
  have h2 : (namesN l).length ≤ l.length := by
    unfold namesN defsN
    rw [List.length_map]
    exact List.length_filter_le _ _
  exact Nat.le_trans h2 (h l)
theorem contains_in {w : World} {A : Option Addr} {l : List ByteArray} {n c : Nat} {x : ByteArray} (h : Strs w A l) (hl : l.length ≤ 1000000) (hn : n = l.length) (hx : x ∈ l) :
    Calls Try.prog 12 #[.slice A n c, .string x] w fun e w' => e = .returned (.bool true) ∧ w' = w := by
  refine (contains14_c h hl n c (by omega) x).mono ?_
  rintro e w' ⟨rfl, rfl⟩
  rw [hn, List.take_length, hasN_iff.2 hx]
  exact ⟨rfl, rfl⟩
theorem contains_out {w : World} {A : Option Addr} {l : List ByteArray} {k c : Nat} {x : ByteArray} (h : Strs w A l) (hl : l.length ≤ 1000000) (hn : l.Nodup) (hx : l[k]? = some x) :
    Calls Try.prog 12 #[.slice A k c, .string x] w fun e w' => e = .returned (.bool false) ∧ w' = w := by
  refine (contains14_c h hl k c (Nat.le_of_lt (List.getElem?_eq_some_iff.1 hx).1) x).mono ?_
  rintro e w' ⟨rfl, rfl⟩
  rw [hasN_take hn hx]
  exact ⟨rfl, rfl⟩
set_option maxRecDepth 100000 in
set_option maxHeartbeats 6400000 in
theorem crLaw (s : ByteArray) (w : World) (hs : s.size ≤ maxLen) :
    Calls Try.prog 4 #[.string s] w fun e w' => e = .returned (.bool true) ∧ Below w.heap.size w w' := by
  obtain ⟨l1, hl1, hP1⟩ := parsed_ex s
  have HPA := Lib.hid hP1
  have HLA := Lib.hid hl1
  have HAL := Lib.hid (fun W => alive_c W)
  clear hP1 hl1 hs
  go_enter Try.func4, Try.ntmps4
  go_wp2_with (first
    | (go_at_call 5; ((with_reducible refine (HPA.out w).mono ?_); rintro e w1 hp; obtain ⟨hb, A1, c1, m1, rfl, hr, he⟩ := hp.row; have HB1 := Lib.hid hb; have HE1 := Lib.hid he; have HX1 := Lib.hid hr; have HT1 := Lib.hid (tots_of he HLA.out); clear hp he hr hb))
    | (go_at_call 10; ((with_reducible refine (dnames_c HX1.out HT1.out).mono ?_); rintro e w2 ⟨hb, A2, c2, rfl, hc2, hc2m, hS⟩; unfold maxLen at hc2m; obtain ⟨names, hnm⟩ : ∃ q, q = namesN m1 := ⟨_, rfl⟩; rw [← hnm] at hc2 hS ⊢; have hnl := names_len m1; rw [← hnm] at hnl; have HNM := Lib.hid hnm; have HNL := Lib.hid (show names.length ≤ 1000000 by have := HT1.out; omega); obtain ⟨nn, hnn⟩ : ∃ q, q = names.length := ⟨_, rfl⟩; rw [← hnn] at hc2 ⊢; have HNN := Lib.hid hnn; have HB2 := Lib.hid (HB1.out.trans hb); have HX2 := Lib.hid (HX1.out.bel hb); have HS2 := Lib.hid hS; clear hb hS hnm hnl hnn))
    | (go_at_call 11; ((with_reducible refine (dreach_c HX2.out HT1.out).mono ?_); rintro e w3 ⟨R, hR, hb, A3, c3, rfl, hc3, hc3m, hS⟩; unfold maxLen at hc3m; obtain ⟨rn, hrn⟩ : ∃ q, q = R.length := ⟨_, rfl⟩; rw [← hrn] at hc3 ⊢; have HRN := Lib.hid hrn; have HB3 := Lib.hid (HB2.out.trans hb); have HX3 := Lib.hid (HX2.out.bel hb); have HS3 := Lib.hid (HS2.out.bel hb); have HR3 := Lib.hid hS; have HRI := Lib.hid hR; clear hb hS hR hrn)))
  go_loopw [22] (fun s22 wr => ∃ i : Nat, i ≤ rn ∧ s22 = .int .i64 i ∧ Hid (Bel w3 wr)) (fun s22 _ => rn - (intOf s22).toNat)
  case atStart => exact ⟨0, Nat.zero_le _, rfl, Lib.hid (Bel.refl _)⟩
  case round =>
    obtain ⟨i, hi, rfl, HBR⟩ := hrel
    by_cases hlt : i < rn
    · have hxt := List.getElem?_eq_getElem (l := R) (i := i) (by have := HRN.out; omega)
      generalize R[i]'(by have := HRN.out; omega) = x at hxt
      obtain ⟨g, o, hA3, hg, hcell⟩ := strs_at14 (HR3.out.bel HBR.out) hxt
      subst hA3
      have HCO := Lib.hid (contains_in (c := c2) (HS3.out.bel HBR.out) HNL.out HNN.out (x := x) (by have := HRI.out.names x (List.mem_of_getElem? hxt); rw [← HNM.out] at this; exact this))
      clear hxt
      go_wp2_with (go_at_call 12; ((with_reducible refine HCO.out.mono ?_); rintro e w4 ⟨rfl, rfl⟩))
      go_roundw
      case rel => exact ⟨i + 1, by omega, by go_num, HBR⟩
      case measure => simp [intOf]; omega
    · obtain rfl : i = rn := by omega
      have HB4 := Lib.hid (HB3.out.trans HBR.out)
      have HX4 := Lib.hid (HX3.out.bel HBR.out)
      have HS4 := Lib.hid (HS3.out.bel HBR.out)
      obtain ⟨⟨a, k⟩, hck⟩ : ∃ f, f = checkN m1 := ⟨_, rfl⟩
      have HCH := Lib.hid (show ∀ W, Bel wr W → Calls Try.prog 13 #[.slice A1 m1.length c1] W fun e w' => e = .returned (.tuple #[.int .i64 a, .int .i64 k]) ∧ Bel W w' from fun W hb => (dcheck_c (HX4.out.bel hb) HT1.out).mono fun e w' h => by rw [← hck] at h; exact ⟨h.2, h.1⟩)
      by_cases hk : k = 0
      · subst hk
        have hok := checkN_ok hck.symm
        rw [← HNM.out] at hok
        have HOK := Lib.hid hok
        clear hck hok
        go_wp2_with (go_at_call 13; ((with_reducible refine (HCH.out _ (Bel.refl _)).mono ?_); rintro e w5 ⟨rfl, hb⟩; have HB5 := Lib.hid (HB4.out.trans hb); have HX5 := Lib.hid (HX4.out.bel hb); have HS5 := Lib.hid (HS4.out.bel hb); clear hb))
        go_loopw [41] (fun s41 wq => ∃ j : Nat, j ≤ nn ∧ s41 = .int .i64 j ∧ Hid (Bel w5 wq)) (fun s41 _ => nn - (intOf s41).toNat)
        case atStart => exact ⟨0, Nat.zero_le _, rfl, Lib.hid (Bel.refl _)⟩
        case round =>
          obtain ⟨j, hj, rfl, HBQ⟩ := hrel
          by_cases hlj : j < nn
          · have hxt := List.getElem?_eq_getElem (l := names) (i := j) (by have := HNN.out; omega)
            generalize names[j]'(by have := HNN.out; omega) = x at hxt
            obtain ⟨g, o, hA2, hg, hcell⟩ := strs_at14 (HS5.out.bel HBQ.out) hxt
            subst hA2
            have HCO := Lib.hid (contains_out (c := c2) (HS5.out.bel HBQ.out) HNL.out HOK.out.1 hxt)
            clear hxt
            go_wp2_with (go_at_call 12; ((with_reducible refine HCO.out.mono ?_); rintro e w6 ⟨rfl, rfl⟩))
            go_roundw
            case rel => exact ⟨j + 1, by omega, by go_num, HBQ⟩
            case measure => simp [intOf]; omega
          · obtain rfl : j = nn := by omega
            have HB6 := Lib.hid (HB5.out.trans HBQ.out)
            have HX6 := Lib.hid (HX5.out.bel HBQ.out)
            go_wp2_with (go_at_call 14; ((with_reducible refine (rcalls_c HX6.out (by have := HT1.out; omega)).mono ?_); rintro e w7 ⟨X, dX, rfl, HK7, HF7, hb⟩; have hkl := callNs_len m1; have htl := HT1.out; obtain ⟨cs, hcs⟩ : ∃ q, q = callNs m1 := ⟨_, rfl⟩; rw [← hcs] at HK7 hkl ⊢; obtain ⟨cn, hcn⟩ : ∃ q, q = cs.length := ⟨_, rfl⟩; rw [← hcn] at hkl ⊢; have hcm : cn ≤ 5000 := (by omega); have HCS := Lib.hid hcs; have HCN := Lib.hid hcn; have HB7 := Lib.hid (HB6.out.trans hb.out); have HX7 := Lib.hid (HX6.out.bel hb.out); clear hb hkl htl hcs hcn HF7))
            go_loopw [55] (fun s55 wq => ∃ q : Nat, q ≤ cn ∧ s55 = .int .i64 q ∧ Hid (Bel w7 wq)) (fun s55 _ => cn - (intOf s55).toNat)
            case atStart => exact ⟨0, Nat.zero_le _, rfl, Lib.hid (Bel.refl _)⟩
            case round =>
              obtain ⟨q, hq, rfl, HBZ⟩ := hrel
              by_cases hlq : q < cn
              · have hxt := List.getElem?_eq_getElem (l := cs) (i := q) (by have := HCN.out; omega)
                generalize cs[q]'(by have := HCN.out; omega) = x at hxt
                obtain ⟨g, o, hX, hg, hcc⟩ := (HK7.out.only (bel_only HBZ.out) (by simp)).at_ NT.cs_len hxt (by decide)
                subst hX
                obtain ⟨z0, z1, z2, z3, z4, z5, z6, z7⟩ := Cells.all (t := x) hcc
                have hxm := List.mem_of_getElem? hxt
                have hxn := HOK.out.2 x (by rw [← HCS.out]; exact hxm)
                rw [HNM.out] at hxn
                obtain ⟨d, hd⟩ := findN_of_mem hxn
                obtain ⟨_, hd6, hds⟩ := findN_some hd
                have HFD := Lib.hid (show fnd m1 x.s = (d, true) by unfold fnd; rw [hd])
                have HXZ := Lib.hid (HX7.out.bel HBZ.out)
                have HBA := Lib.hid (HB7.out.trans HBZ.out)
                have HC0 := Lib.hid (Blk.new wr 25 [.int .i64 x.k, .int .i64 x.a, .string x.s, .string x.p, .bool x.h, .bool x.e, .slice x.A x.b.length x.c, .slice x.B x.l.length x.d])
                clear hxt hxm hxn hcc hd
                go_wp2_with (go_at_call 6; ((with_reducible refine (dfind14 (HXZ.out.bel (Bel.alloc wr _)) HT1.out x.s HFD.out).mono ?_); rintro e w8 ⟨t, het, hin, rfl, hb⟩; have htk : t.k = 6 := (by rw [← er_k t, het, er_k]; exact hd6); have hts : t.s = x.s := (by rw [← er_s t, het, er_s]; exact hds); have hb2 := HBZ.out.trans ((Bel.alloc wr (.cells #[.int .i64 x.k, .int .i64 x.a, .string x.s, .string x.p, .bool x.h, .bool x.e, .slice x.A x.b.length x.c, .slice x.B x.l.length x.d] 25)).trans hb); have HBW := Lib.hid (hb2.trans (Bel.alloc w8 (.cells #[.int .i64 6, .int .i64 t.a, .string x.s, .string t.p, .bool t.h, .bool t.e, .slice t.A t.b.length t.c, .slice t.B t.l.length t.d] 25))); obtain ⟨y0, y1, y2, y3, y4, y5, y6, y7⟩ := cells8 ((HC0.out.bel hb).bel (Bel.alloc w8 (.cells #[.int .i64 6, .int .i64 t.a, .string x.s, .string t.p, .bool t.h, .bool t.e, .slice t.A t.b.length t.c, .slice t.B t.l.length t.d] 25))); unfold NT.vv; rw [htk, hts]; clear hb hb2 het hin htk hts))
                go_roundw
                case rel => exact ⟨q + 1, by omega, by go_num, HBW⟩
                case measure => simp [intOf]; omega
              · obtain rfl : q = cn := by omega
                have HB8 := Lib.hid (HB7.out.trans HBZ.out)
                go_wp2_with (go_at_call 8; ((with_reducible refine (HAL.out _).mono ?_); rintro e w9 ⟨rfl, hb⟩; have HB9 := Lib.hid (HB8.out.trans hb); clear hb))
                go_ret
                exact ⟨rfl, HB9.out⟩
      · have hk1 : ((k : Int) != 0) = true := bne_iff_ne.2 (by omega)
        have hk2 : ¬ (k : Int) = 0 := by omega
        clear hck hk
        go_wp2_with (first | (go_at_call 13; ((with_reducible refine (HCH.out _ (Bel.refl _)).mono ?_); rintro e w5 ⟨rfl, hb⟩; have HB5 := Lib.hid (HB4.out.trans hb); clear hb)) | (go_at_call 8; ((with_reducible refine (HAL.out _).mono ?_); rintro e w6 ⟨rfl, hb⟩; have HB6 := Lib.hid (HB5.out.trans hb); clear hb)))
        go_ret
        exact ⟨rfl, HB6.out⟩
end Go.Proofs.Ytkipmaoeejdncaa
