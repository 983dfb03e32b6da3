/-
  Contract: the reference's Lex.
-/
import Derived.Test.YtpcapmdfjmpdiaaGreatDoorZLx11
import Derived.Test.YtpcapmdfjmpdiaaGreatDoorZRform
namespace Go.Proofs.YtpcapmdfjmpdiaaGreatDoor
open Go.RowKit Go.BigFrame Go.Maps Go.WideMaps
set_option linter.unusedVariables false
set_option linter.unusedSimpArgs false
attribute [local go_sem ↓] sliced_cut run_min2 run_max2
attribute [local go_sem] cutA_zero

theorem findO_c {s : ByteArray} {q : Nat} {v : Int} (hs : s.size ≤ 65536) (hq : q ≤ s.size) (hv : fnumFrom 123 (toL s) q = v) (W : World) : Calls Tryz.prog 57 #[.string s, .int .u8 123, .int .i64 q] W fun e w' => e = .returned (.int .i64 v) ∧ w' = W := by
  have := find_c s 123 q W (by omega) hq
  rw [hv] at this
  exact this
theorem findE_c {s : ByteArray} {q : Nat} {v : Int} (hs : s.size ≤ 65536) (hq : q + 2 ≤ s.size) (hv : fnumFrom 125 (toL s) (q + 2) = v) (W : World) : Calls Tryz.prog 57 #[.string s, .int .u8 125, .int .i64 ((q : Int) + 2)] W fun e w' => e = .returned (.int .i64 v) ∧ w' = W := by
  have := find_c s 125 (q + 2) W (by omega) hq
  rw [hv] at this
  exact this
theorem fp_none {ws : List (List UInt8)} (h : formW ws = none) {w w' : World} {e : Ending} (hp : FormPost ws w e w') :
    Bel w w' ∧ ∃ (k : Int) (s p : ByteArray) (h b : Bool), e = .returned (.tuple #[.agg #[.int .i64 k, .int .i64 0, .string s, .string p, .bool h], .bool false, .bool b]) := by
  unfold FormPost at hp
  rw [h] at hp
  exact hp
theorem fp_some {ws : List (List UInt8)} {k : Nat} {n : List UInt8} {p : Option (List UInt8)} (h : formW ws = some (k, n, p)) {w w' : World} {e : Ending} (hp : FormPost ws w e w') :
    Bel w w' ∧ e = .returned (.tuple #[.agg #[.int .i64 k, .int .i64 0, .string (ofL n), .string (ofL (p.getD [])), .bool p.isSome], .bool true, .bool (okF k n p)]) := by
  unfold FormPost at hp
  rw [h] at hp
  exact hp
set_option maxRecDepth 100000 in
set_option maxHeartbeats 3200000 in
theorem refLex_c (s : ByteArray) (r : LexR) (w : World) (hr : LexOf s r) : Calls Tryz.prog 32 #[.string s] w (LexPost 138 s r w) := by
  unfold LexOf at hr
  by_cases hbig : 65536 < s.size
  · rw [if_pos hbig] at hr
    subst hr
    have hi : (65536 : Int) < (s.size : Int) := by omega
    clear hbig
    go_enter Tryz.func32, Tryz.ntmps32
    go_wp2_with fail
    go_ret3
    exact ⟨Bel.refl _, rfl⟩
  · rw [if_neg hbig] at hr
    have hi : ¬ (65536 : Int) < (s.size : Int) := by omega
    have hs : s.size ≤ 65536 := by omega
    have HR := Lib.hid hr
    clear hbig hr
    go_enter Tryz.func32, Tryz.ntmps32
    go_wp2_with fail
    go_loopw [5, 6] (fun s5 s6 wr => ∃ (A : Option Addr) (n c : Nat) (done : List Tok) (q : Nat) (r2 : LexR), s5 = .slice A n c ∧ s6 = .int .i64 q ∧ q ≤ s.size ∧ n ≤ q ∧ Hid (TkAt 138 w wr A n c done) ∧ Hid (Rs ((toL s).drop q) q r2) ∧ Hid (comb done r2 = r)) (fun _ s6 _ => s.size - (intOf s6).toNat)
    case atStart => exact ⟨none, 0, 0, [], 0, r, rfl, rfl, Nat.zero_le _, Nat.le_refl _, Lib.hid (TkAt.start _ _), HR, Lib.hid (comb_nil r)⟩
    case round =>
      clear HR
      obtain ⟨A, n, c, done, q, r2, rfl, rfl, hq, hnq, HTK, HRS, HCB⟩ := hrel
      by_cases hlt : q < s.size
      · have hne : (toL s).drop q ≠ [] := by
          intro h0
          have := congrArg List.length h0
          rw [List.length_drop, toL_len] at this
          simp at this; omega
        have hlen : ((toL s).drop q).length = s.size - q := by rw [List.length_drop, toL_len]
        cases hf : find2 123 ((toL s).drop q) with
        | none =>
          have hv : fnumFrom 123 (toL s) q = -1 := by unfold fnumFrom; rw [hf]
          have HFI := Lib.hid (fun W => findO_c hs hq hv W)
          have hnq1 : ¬ (-1 : Int) = (q : Int) := by omega
          have HR2 := Lib.hid (rs_all HRS.out hne hf)
          have HTX := Lib.hid (show [Value.int .i64 0, .int .i64 q, .string (s.extract q s.size), .string ⟨#[]⟩, .bool false] = (text q ((toL s).drop q)).cs from by unfold Tok.cs text; rw [← toL_from, ofL_toL]; rfl)
          have HAL := Lib.hid (HTK.out.row.alloc (.cells #[.int .i64 0, .int .i64 q, .string (s.extract q s.size), .string ⟨#[]⟩, .bool false] 138))
          have HBK := Lib.hid (Blk.new wr 138 [.int .i64 0, .int .i64 q, .string (s.extract q s.size), .string ⟨#[]⟩, .bool false])
          have HLN := Lib.hid HTK.out.len
          have HE : Hid (Rs ((toL s).drop s.size) s.size (.ok [])) := Lib.hid (by rw [List.drop_of_length_le (Nat.le_of_eq (toL_len s))]; exact Lx.nil _)
          have HCB2 : Hid (comb (done ++ [text q ((toL s).drop q)]) (.ok []) = r) := Lib.hid (by rw [← comb_snoc, ← HR2.out]; exact HCB.out)
          have hqs : n + 1 ≤ s.size := by omega
          clear hne hf hlen hv HCB HRS HR2
          go_wp2_with (first | (go_at_call 57; refine (HFI.out _).mono ?_; rintro e w2 ⟨rfl, rfl⟩) | ((with_reducible refine wp_tokR rfl (.tmp 29) (.tmp 36) rfl A n c done HLN.out rfl HAL.out w2.heap.size _ _ HTX.out rfl HBK.out (by omega) ?_); intro A' c' w3 HR3 HO3 HK3; have HT3 := Lib.hid (HTK.out.push _ HR3.out HO3.out HK3.out); clear HR3 HO3 HK3))
          go_roundw
          case rel => exact ⟨A', _, c', _, s.size, _, rfl, rfl, Nat.le_refl _, hqs, HT3, HE, HCB2⟩
          case measure => simp [intOf]; omega
        | some k =>
          cases k with
          | succ k =>
            obtain ⟨p, hp⟩ : ∃ p, p = q + (k + 1) := ⟨_, rfl⟩
            have hv : fnumFrom 123 (toL s) q = (p : Int) := by unfold fnumFrom; rw [hf]; dsimp only; rw [hp]
            have HFI := Lib.hid (fun W => findO_c hs hq hv W)
            have hl2 := find2_lt hf
            obtain ⟨r3, hr3, he3⟩ := rs_text HRS.out hf
            rw [List.drop_drop, ← hp] at hr3
            have HRS3 := Lib.hid hr3
            have HCB3 : Hid (comb (done ++ [text q (((toL s).drop q).take (k + 1))]) r3 = r) := Lib.hid (by rw [← comb_snoc, ← he3]; exact HCB.out)
            have HTX := Lib.hid (show [Value.int .i64 0, .int .i64 q, .string (s.extract q p), .string ⟨#[]⟩, .bool false] = (text q (((toL s).drop q).take (k + 1))).cs from by unfold Tok.cs text; rw [hp, extract_take]; rfl)
            have hne1 : ¬ (p : Int) = (q : Int) := by omega
            have hpn : ¬ (p : Int) < 0 := by omega
            have hps : p ≤ s.size := by omega
            have hqp : q ≤ p := by omega
            have hnp : n + 1 ≤ p := by omega
            have hqp2 : q < p := by omega
            have HAL := Lib.hid (HTK.out.row.alloc (.cells #[.int .i64 0, .int .i64 q, .string (s.extract q p), .string ⟨#[]⟩, .bool false] 138))
            have HBK := Lib.hid (Blk.new wr 138 [.int .i64 0, .int .i64 q, .string (s.extract q p), .string ⟨#[]⟩, .bool false])
            have HLN := Lib.hid HTK.out.len
            generalize text q (((toL s).drop q).take (k + 1)) = tx at *
            clear hne hlen hl2 hf hr3 he3 hv HCB HRS hp
            go_wp2_with (first | (go_at_call 57; refine (HFI.out _).mono ?_; rintro e w2 ⟨rfl, rfl⟩) | ((with_reducible refine wp_tokR rfl (.tmp 29) (.tmp 36) rfl A n c done HLN.out rfl HAL.out w2.heap.size _ _ HTX.out rfl HBK.out (by omega) ?_); intro A' c' w3 HR3 HO3 HK3; have HT3 := Lib.hid (HTK.out.push _ HR3.out HO3.out HK3.out); clear HR3 HO3 HK3))
            go_roundw
            case rel => exact ⟨A', _, c', _, p, _, rfl, rfl, hps, hnp, HT3, HRS3, HCB3⟩
            case measure => simp [intOf]; omega
          | zero =>
            have hv : fnumFrom 123 (toL s) q = (q : Int) := by unfold fnumFrom; rw [hf]; rfl
            have HFI := Lib.hid (fun W => findO_c hs hq hv W)
            have hl2 := find2_lt hf
            have hq2 : q + 2 ≤ s.size := by omega
            have hdd : (toL s).drop (q + 2) = ((toL s).drop q).drop 2 := by rw [List.drop_drop]
            clear hne hlen hl2 hv
            cases hc : find2 125 (((toL s).drop q).drop 2) with
            | none =>
              have hv : fnumFrom 125 (toL s) (q + 2) = -1 := by unfold fnumFrom; rw [hdd, hc]
              have HFE := Lib.hid (fun W => findE_c hs hq2 hv W)
              have HR2 := Lib.hid (rs_trunc HRS.out hf hc)
              clear hc hf hv hdd
              go_wp2_with (first | (go_at_call 57; ((with_reducible refine (HFI.out _).mono ?_); rintro e w2 ⟨rfl, rfl⟩)) | (go_at_call 57; ((with_reducible refine (HFE.out _).mono ?_); rintro e w3 ⟨rfl, rfl⟩)))
              go_ret3
              refine ⟨HTK.out.bel, ?_⟩
              rw [← HCB.out, HR2.out]
              rfl
            | some e =>
              obtain ⟨p, hp⟩ : ∃ p, p = q + 2 + e := ⟨_, rfl⟩
              have hv : fnumFrom 125 (toL s) (q + 2) = (p : Int) := by unfold fnumFrom; rw [hdd, hc]; dsimp only; rw [hp]
              have HFE := Lib.hid (fun W => findE_c hs hq2 hv W)
              have he2 := find2_lt hc
              rw [List.length_drop, List.length_drop, toL_len] at he2
              obtain ⟨inner, hin⟩ : ∃ x, x = s.extract (q + 2) p := ⟨_, rfl⟩
              have hti : toL inner = (((toL s).drop q).drop 2).take e := by rw [hin, hp, extract_take, toL_ofL, hdd]
              have his : inner.size = e := by rw [← toL_len, hti, List.length_take, List.length_drop, List.length_drop, toL_len]; omega
              have hps : p ≤ s.size := by omega
              have hqp : q + 2 ≤ p := by omega
              have HWO : Hid (∀ W, Calls Tryz.prog 59 #[.string (s.extract (q + 2) p)] W (WordsPost inner W)) := Lib.hid (fun W => by rw [← hin]; exact words_c inner W (by omega))
              have HFO := Lib.hid (fun W A c (hS : Strs W A (wordsB inner)) (hn : (wordsB inner).length ≤ c) (hcm : c ≤ maxLen) => form_c A c (wordsB inner) W hS (fun x hx => ⟨(wordsB_wd hx).1, by have := (wordsB_wd hx).2; omega⟩) hn hcm)
              have hwt := toL_wordsB inner
              rw [hwt] at HFO
              have hpn : ¬ (p : Int) < 0 := by omega
              clear hdd hv hwt
              cases hF : formW (words (toL inner)) with
              | none =>
                have hd : dirOf (words (toL inner)) = .error 5 := by unfold dirOf; rw [hF]
                have HR2 := Lib.hid (rs_bad HRS.out hf hc (by rw [← hti]; exact hd))
                have HF := Lib.hid hF
                clear hF hd hc hf hti his he2 hp hin
                go_wp2_with (first | (go_at_call 57; ((with_reducible refine (HFI.out _).mono ?_); rintro e w2 ⟨rfl, rfl⟩)) | (go_at_call 57; ((with_reducible refine (HFE.out _).mono ?_); rintro e w3 ⟨rfl, rfl⟩)) | (go_at_call 59; ((with_reducible refine (HWO.out _).mono ?_); rintro e w4 ⟨hb, A4, c4, rfl, hst, hl4, hn4, hm4⟩; have HT4 := Lib.hid (HTK.out.later hb); have HST := Lib.hid hst; clear hb hst)) | (go_at_call 58; ((with_reducible refine (HFO.out _ _ _ HST.out hn4 hm4).mono ?_); rintro e w5 hpd; obtain ⟨hb, k5, s5, p5, h5, b5, rfl⟩ := fp_none HF.out hpd; have HT5 := Lib.hid (HT4.out.later hb); have HT6 := Lib.hid (HT5.out.later (Bel.alloc w5 (.cells #[.int .i64 k5, .int .i64 0, .string s5, .string p5, .bool h5] 138))); clear hb hpd)))
                go_ret3
                refine ⟨HT6.out.bel, ?_⟩
                rw [← HCB.out, HR2.out]
                rfl
              | some t =>
                obtain ⟨k, nm, pt⟩ := t
                have HF := Lib.hid hF
                cases hok : okF k nm pt with
                | false =>
                  have hd : dirOf (words (toL inner)) = .error 11 := by unfold dirOf; rw [hF]; dsimp only; rw [hok]; rfl
                  have HR2 := Lib.hid (rs_bad HRS.out hf hc (by rw [← hti]; exact hd))
                  have HOK := Lib.hid hok
                  clear hF hd hc hf hti his he2 hp hin hok
                  go_wp2_with (first | (go_at_call 57; ((with_reducible refine (HFI.out _).mono ?_); rintro e w2 ⟨rfl, rfl⟩)) | (go_at_call 57; ((with_reducible refine (HFE.out _).mono ?_); rintro e w3 ⟨rfl, rfl⟩)) | (go_at_call 59; ((with_reducible refine (HWO.out _).mono ?_); rintro e w4 ⟨hb, A4, c4, rfl, hst, hl4, hn4, hm4⟩; have HT4 := Lib.hid (HTK.out.later hb); have HST := Lib.hid hst; clear hb hst)) | (go_at_call 58; ((with_reducible refine (HFO.out _ _ _ HST.out hn4 hm4).mono ?_); rintro e w5 hpd; obtain ⟨hb, rfl⟩ := fp_some HF.out hpd; rw [HOK.out]; have HT5 := Lib.hid (HT4.out.later hb); have HT6 := Lib.hid (HT5.out.later (Bel.alloc w5 (.cells #[.int .i64 k, .int .i64 0, .string (ofL nm), .string (ofL (pt.getD [])), .bool pt.isSome] 138))); clear hb hpd)))
                  go_ret3
                  refine ⟨HT6.out.bel, ?_⟩
                  rw [← HCB.out, HR2.out]
                  rfl
                | true =>
                  have hd : dirOf (words (toL inner)) = .ok ⟨k, 0, nm, pt.getD [], pt.isSome⟩ := by unfold dirOf; rw [hF]; dsimp only; rw [hok]; rfl
                  obtain ⟨r4, hr4, he4⟩ := rs_dir HRS.out hf hc (by rw [← hti]; exact hd)
                  rw [List.drop_drop] at hr4
                  have hz : q + (e + 4) = p + 2 := by omega
                  rw [hz] at hr4
                  have HRS4 := Lib.hid hr4
                  have HCB4 : Hid (comb (done ++ [⟨k, q, nm, pt.getD [], pt.isSome⟩]) r4 = r) := Lib.hid (by rw [← comb_snoc]; rw [he4] at HCB; exact HCB.out)
                  have hzs : p + 2 ≤ s.size := by omega
                  have hnz : n + 1 ≤ p + 2 := by omega
                  have HOK := Lib.hid hok
                  have HTX2 := Lib.hid (show [Value.int .i64 k, .int .i64 q, .string (ofL nm), .string (ofL (pt.getD [])), .bool pt.isSome] = Tok.cs ⟨k, q, nm, pt.getD [], pt.isSome⟩ from rfl)
                  clear hF hd hc hf hti his he2 hp hin hok hr4 he4 hz
                  go_wp2_with (first | (go_at_call 57; ((with_reducible refine (HFI.out _).mono ?_); rintro e w2 ⟨rfl, rfl⟩)) | (go_at_call 57; ((with_reducible refine (HFE.out _).mono ?_); rintro e w3 ⟨rfl, rfl⟩)) | (go_at_call 59; ((with_reducible refine (HWO.out _).mono ?_); rintro e w4 ⟨hb, A4, c4, rfl, hst, hl4, hn4, hm4⟩; have HT4 := Lib.hid (HTK.out.later hb); have HST := Lib.hid hst; clear hb hst)) | (go_at_call 58; ((with_reducible refine (HFO.out _ _ _ HST.out hn4 hm4).mono ?_); rintro e w5 hpd; obtain ⟨hb, rfl⟩ := fp_some HF.out hpd; rw [HOK.out]; have HT5 := Lib.hid (HT4.out.later hb); have HT6 := Lib.hid (HT5.out.later (Bel.alloc w5 (.cells #[.int .i64 k, .int .i64 q, .string (ofL nm), .string (ofL (pt.getD [])), .bool pt.isSome] 138))); have HAL2 := Lib.hid (HT6.out.row.alloc (.cells #[.int .i64 k, .int .i64 q, .string (ofL nm), .string (ofL (pt.getD [])), .bool pt.isSome] 138)); have HBK2 := Lib.hid (new_at1 w5 (.cells #[.int .i64 k, .int .i64 q, .string (ofL nm), .string (ofL (pt.getD [])), .bool pt.isSome] 138) 138 [.int .i64 k, .int .i64 q, .string (ofL nm), .string (ofL (pt.getD [])), .bool pt.isSome]); have HLN2 := Lib.hid HT6.out.len; clear hb hpd)) | ((with_reducible refine wp_tokR rfl (.tmp 65) (.tmp 67) rfl A n c done HLN2.out rfl HAL2.out (w5.heap.size + 1) _ _ HTX2.out rfl HBK2.out (by omega) ?_); intro A2 c2 w7 HR7 HO7 HK7; have HT7 := Lib.hid (HT6.out.push _ HR7.out HO7.out HK7.out); clear HR7 HO7 HK7))
                  go_roundw
                  case rel => exact ⟨A2, _, c2, _, p + 2, r4, rfl, by go_num, hzs, hnz, HT7, HRS4, HCB4⟩
                  case measure => simp [intOf]; omega
      · obtain rfl : q = s.size := by omega
        have HR2 := Lib.hid (rs_nil (a := s.size) (r := r2) (by have := HRS.out; rw [List.drop_of_length_le (Nat.le_of_eq (toL_len s))] at this; exact this))
        clear hlt
        go_wp2_with fail
        go_ret3
        refine ⟨HTK.out.bel, ?_⟩
        rw [← HCB.out, HR2.out]
        show ∃ A c, _
        refine ⟨A, c, ?_, ?_, fun k hk => HTK.out.fresh k hk⟩
        · rw [List.append_nil, HTK.out.len]; rfl
        · rw [List.append_nil]; exact HTK.out.row
end Go.Proofs.YtpcapmdfjmpdiaaGreatDoor
