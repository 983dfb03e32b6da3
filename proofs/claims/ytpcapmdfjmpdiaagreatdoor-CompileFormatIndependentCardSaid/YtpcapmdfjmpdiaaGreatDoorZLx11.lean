/-
  Contract: Lex.
-/
import Derived.Test.YtpcapmdfjmpdiaaGreatDoorZSs14
namespace Go.Proofs.YtpcapmdfjmpdiaaGreatDoor
open Go.RowKit Go.BigFrame Go.Maps Go.WideMaps
set_option linter.unusedVariables false
set_option linter.unusedSimpArgs false
attribute [local go_sem ↓] sliced_cut run_min2 run_max2
attribute [local go_sem] cutA_zero

/-- What lies ahead of a place where a directive begins. -/
theorem cutsome_c {s : ByteArray} {q e : Nat} (hs : s.size ≤ 65536) (h : find2 125 (((toL s).drop q).drop 2) = some e) (W : World) (hM : MX W) :
    Calls Tryz.prog 53 #[.string (s.extract (q + 2) s.size), .string ⟨#[125, 125]⟩] W fun x w' => (∃ t, x = .returned (.tuple #[.string (ofL ((((toL s).drop q).drop 2).take e)), .string t, .bool true])) ∧ Bel W w' := by
  have e1 : toL (s.extract (q + 2) s.size) = ((toL s).drop q).drop 2 := by rw [toL_from, List.drop_drop]
  have := cut_some (s := s.extract (q + 2) s.size) (i := e) W hM (by simp; omega) (by rw [e1]; exact h)
  rw [e1] at this
  exact this
theorem cutnone_c {s : ByteArray} {q : Nat} (hs : s.size ≤ 65536) (h : find2 125 (((toL s).drop q).drop 2) = none) (W : World) (hM : MX W) :
    Calls Tryz.prog 53 #[.string (s.extract (q + 2) s.size), .string ⟨#[125, 125]⟩] W fun x w' => (∃ t u, x = .returned (.tuple #[.string t, .string u, .bool false])) ∧ Bel W w' := by
  have e1 : toL (s.extract (q + 2) s.size) = ((toL s).drop q).drop 2 := by rw [toL_from, List.drop_drop]
  exact cut_none W hM (by simp; omega) (by rw [e1]; exact h)
theorem at_index {s : ByteArray} {q : Nat} (hs : s.size ≤ 65536) {v : Int} (hv : fnum 123 ((toL s).drop q) = v) (W : World) (hM : MX W) :
    Calls Tryz.prog 52 #[.string (s.extract q s.size), .string ⟨#[123, 123]⟩] W fun e w' => e = .returned (.int .i64 v) ∧ w' = W := by
  have := index_c (s.extract q s.size) W hM (by simp; omega)
  rw [toL_from, hv] at this
  exact this
theorem dir_err {x : ByteArray} {c : Nat} (h : dirOf (words (toL x)) = .error c) {w : World} {e : Ending} {w' : World} (hp : DirPost x w e w') :
    Bel w w' ∧ e = .returned (.tuple #[.agg #[.int .i64 0, .int .i64 0, .string ByteArray.empty, .string ByteArray.empty, .bool false], .int .i64 c]) ∧ (c = 5 ∨ c = 11) := by
  unfold DirPost at hp
  rw [h] at hp
  exact ⟨hp.1, hp.2.1, hp.2.2⟩
theorem dir_ok {x : ByteArray} {t : Tok} (h : dirOf (words (toL x)) = .ok t) {w : World} {e : Ending} {w' : World} (hp : DirPost x w e w') :
    Bel w w' ∧ e = .returned (.tuple #[.agg #[.int .i64 t.k, .int .i64 0, .string (ofL t.s), .string (ofL t.p), .bool t.h], .int .i64 0]) := by
  unfold DirPost at hp
  rw [h] at hp
  exact ⟨hp.1, hp.2⟩
theorem dirOf_err {ws : List (List UInt8)} {c : Nat} (h : dirOf ws = .error c) : c = 5 ∨ c = 11 := by
  unfold dirOf at h
  cases hf : formW ws with
  | none => rw [hf] at h; injection h with h; exact .inl h.symm
  | some r =>
    obtain ⟨k, n, p⟩ := r
    rw [hf] at h
    dsimp only at h
    split at h
    · cases h
    · injection h with h; exact .inr h.symm
/-- The block that is laid behind another. -/
theorem new_at1 (w : World) (o : Obj) (T : TypeId) (L : List Value) : Blk ((w.alloc o).alloc (.cells L.toArray T)) (w.heap.size + 1) T L := by
  have := Blk.new (w.alloc o) T L
  have e : (w.alloc o).heap.size = w.heap.size + 1 := by simp
  rw [e] at this
  exact this
set_option maxRecDepth 100000 in
set_option maxHeartbeats 6400000 in
theorem lex_c (s : ByteArray) (r : LexR) (w : World) (hT : MX w) (hr : LexOf s r) : Calls Tryz.prog 26 #[.string s] w (LexPost 64 s r w) := by
  unfold LexOf at hr
  by_cases hbig : 65536 < s.size
  · rw [if_pos hbig] at hr
    subst hr
    have hi : (65536 : Int) < (s.size : Int) := by omega
    clear hbig
    go_enter Tryz.func26, Tryz.ntmps26
    go_wp2_with fail
    go_step3
    go_wp2_with fail
    rw [Exit.noGoto_ret]
    go_ret3
    exact ⟨Bel.refl _, rfl⟩
  · rw [if_neg hbig] at hr
    have hi : ¬ (65536 : Int) < (s.size : Int) := by omega
    have hs : s.size ≤ 65536 := by omega
    have HKI := Lib.hid (kinds_c w)
    have HT := Lib.hid hT
    have HR := Lib.hid hr
    clear hbig hr hT
    go_enter Tryz.func26, Tryz.ntmps26
    go_wp2_with fail
    go_step3
    go_wp2_with (go_at_call 51; refine HKI.out.mono ?_; rintro e w1 ⟨rfl, hm, hb⟩; have HM1 := Lib.hid hm; have HB1 := Lib.hid hb; clear hm hb)
    go_step3
    go_wp2_with fail
    go_loopw [5, 7] (fun s5 s7 wr => ∃ (A : Option Addr) (n c : Nat) (done : List Tok) (q : Nat) (r2 : LexR), s5 = .slice A n c ∧ s7 = .int .i64 q ∧ q ≤ s.size ∧ n ≤ q ∧ Hid (TkAt 64 w1 wr A n c done) ∧ Hid (Rs ((toL s).drop q) q r2) ∧ Hid (comb done r2 = r)) (fun _ s7 _ => s.size - (intOf s7).toNat)
    case atStart => exact ⟨none, 0, 0, [], 0, r, rfl, rfl, Nat.zero_le _, Nat.le_refl _, Lib.hid (TkAt.start _ _), HR, Lib.hid (comb_nil r)⟩
    case round =>
      clear HR
      obtain ⟨A, n, c, done, q, r2, rfl, rfl, hq, hnq, HTK, HRS, HCB⟩ := hrel
      have HBW := Lib.hid (HB1.out.trans HTK.out.bel)
      have HMX := Lib.hid (HT.out.bel HBW.out)
      by_cases hlt : q < s.size
      · have hne : (toL s).drop q ≠ [] := by
          intro h0
          have := congrArg List.length h0
          rw [List.length_drop, toL_len] at this
          simp at this; omega
        have hlen : ((toL s).drop q).length = s.size - q := by rw [List.length_drop, toL_len]
        cases hf : find2 123 ((toL s).drop q) with
        | none =>
          have HR2 := Lib.hid (rs_all HRS.out hne hf)
          have HIX := Lib.hid (fun W => at_index hs (v := -1) (by unfold fnum; rw [hf]) W)
          have HTX := Lib.hid (show [Value.int .i64 0, .int .i64 q, .string (s.extract q s.size), .string ⟨#[]⟩, .bool false] = (text q ((toL s).drop q)).cs from by unfold Tok.cs text; rw [← toL_from, ofL_toL]; rfl)
          have HAL := Lib.hid (HTK.out.row.alloc (.cells #[.int .i64 0, .int .i64 q, .string (s.extract q s.size), .string ⟨#[]⟩, .bool false] 64))
          have HBK := Lib.hid (Blk.new wr 64 [.int .i64 0, .int .i64 q, .string (s.extract q s.size), .string ⟨#[]⟩, .bool false])
          have HLN := Lib.hid HTK.out.len
          clear hne hf hlen
          go_wp2_with (first | (go_at_call 52; refine (HIX.out _ HMX.out).mono ?_; rintro e w2 ⟨rfl, rfl⟩) | ((with_reducible refine wp_tokL rfl (.tmp 29) (.tmp 35) rfl A n c done HLN.out rfl HAL.out w2.heap.size _ _ HTX.out rfl HBK.out (by omega) ?_); intro A' c' w3 HR3 HO3 HK3; have HT3 := Lib.hid (HTK.out.push _ HR3.out HO3.out HK3.out); clear HR3 HO3 HK3))
          go_wp2
          rw [Exit.noGoto_ret]
          try simp (config := {zetaDelta := true}) only [Exit.inBlock, Exit.then, Exit.noGoto]
          go_ret3
          refine ⟨HB1.out.trans HT3.out.bel, ?_⟩
          rw [← HCB.out, HR2.out]
          show ∃ A c, _
          refine ⟨A', c', ?_, HT3.out.row, fun k hk => Nat.le_trans HB1.out.size (HT3.out.fresh k hk)⟩
          have hl := HT3.out.len
          rw [List.append_nil, hl]
          rfl
        | some k =>
          cases k with
          | zero =>
            have HIX := Lib.hid (fun W => at_index hs (v := 0) (by unfold fnum; rw [hf]; rfl) W)
            have hl2 := find2_lt hf
            have hq2 : q + 2 ≤ s.size := by omega
            clear hne hlen hl2
            cases hc : find2 125 (((toL s).drop q).drop 2) with
            | none =>
              have HR2 := Lib.hid (rs_trunc HRS.out hf hc)
              have HCU := Lib.hid (fun W => cutnone_c (q := q) hs hc W)
              clear hc hf
              go_wp2_with (first | (go_at_call 52; refine (HIX.out _ HMX.out).mono ?_; rintro e w2 ⟨rfl, rfl⟩) | (go_at_call 53; refine (HCU.out _ HMX.out).mono ?_; rintro e w4 ⟨⟨t, u, rfl⟩, hb⟩; have HT4 := Lib.hid (HTK.out.later hb); clear hb))
              go_wp2
              rw [Exit.noGoto_ret]
              try simp (config := {zetaDelta := true}) only [Exit.inBlock, Exit.then, Exit.noGoto]
              go_ret3
              refine ⟨HB1.out.trans HT4.out.bel, ?_⟩
              rw [← HCB.out, HR2.out]
              rfl
            | some e =>
              have HCU := Lib.hid (fun W => cutsome_c (q := q) hs hc W)
              have he2 := find2_lt hc
              rw [List.length_drop, List.length_drop, toL_len] at he2
              obtain ⟨inner, hin⟩ : ∃ x, x = ofL ((((toL s).drop q).drop 2).take e) := ⟨_, rfl⟩
              have hti : toL inner = (((toL s).drop q).drop 2).take e := by rw [hin, toL_ofL]
              have his : inner.size = e := by rw [← toL_len, hti, List.length_take, List.length_drop, List.length_drop, toL_len]; omega
              rw [← hin] at HCU
              have HDI := Lib.hid (fun W (hM : MX W) (hS : SMap W w.heap.size 9 kindF) => directive_c inner w.heap.size W hM (by omega) hS)
              cases hd : dirOf (words (toL inner)) with
              | error x =>
                have HR2 := Lib.hid (rs_bad HRS.out hf hc (by rw [← hti]; exact hd))
                have HD := Lib.hid hd
                have hx := dirOf_err hd
                have hx0 : ¬ x = 0 := by omega
                clear hc hf hd hin hti hx
                go_wp2_with (first | (go_at_call 52; refine (HIX.out _ HMX.out).mono ?_; rintro e w2 ⟨rfl, rfl⟩) | (go_at_call 53; refine (HCU.out _ HMX.out).mono ?_; rintro e w4 ⟨⟨t, rfl⟩, hb⟩; have HT4 := Lib.hid (HTK.out.later hb); have HBW4 := Lib.hid (HB1.out.trans HT4.out.bel); clear hb) | (go_at_call 54; refine (HDI.out _ (HT.out.bel HBW4.out) (HM1.out.bel HT4.out.bel)).mono ?_; rintro e w5 hpd; obtain ⟨hb, rfl, _⟩ := dir_err HD.out hpd; have HT5 := Lib.hid (HT4.out.later hb); have HT6 := Lib.hid (HT5.out.later (Bel.alloc w5 (.cells #[.int .i64 0, .int .i64 0, .string ByteArray.empty, .string ByteArray.empty, .bool false] 64))); clear hb hpd))
                go_wp2
                rw [Exit.noGoto_ret]
                try simp (config := {zetaDelta := true}) only [Exit.inBlock, Exit.then, Exit.noGoto]
                go_ret3
                refine ⟨HB1.out.trans HT6.out.bel, ?_⟩
                rw [← HCB.out, HR2.out]
                rfl
              | ok t =>
                obtain ⟨r4, hr4, he4⟩ := rs_dir HRS.out hf hc (by rw [← hti]; exact hd)
                rw [List.drop_drop] at hr4
                obtain ⟨z, hz⟩ : ∃ z, z = q + (e + 4) := ⟨_, rfl⟩
                rw [← hz] at hr4
                have HRS4 := Lib.hid hr4
                have HCB4 : Hid (comb (done ++ [{ t with a := q }]) r4 = r) := Lib.hid (by rw [← comb_snoc, ← he4]; exact HCB.out)
                have hzs : z ≤ s.size := by omega
                have hnz : n + 1 ≤ z := by omega
                have hqz : q < z := by omega
                have hlen4 : (2 : Int) + (inner.size : Int) + 2 = ((e + 4 : Nat) : Int) := by omega
                have HD := Lib.hid hd
                have HIS := Lib.hid his
                have HZ := Lib.hid hz
                clear hc hf hd hin hti hr4 he4 his hz hlen4
                have HTX2 := Lib.hid (show [Value.int .i64 t.k, .int .i64 q, .string (ofL t.s), .string (ofL t.p), .bool t.h] = Tok.cs { t with a := q } from rfl)
                have hib : inner.size ≤ 65536 := by have := HIS.out; omega
                go_wp2_with (first | (go_at_call 52; refine (HIX.out _ HMX.out).mono ?_; rintro e w2 ⟨rfl, rfl⟩) | (go_at_call 53; refine (HCU.out _ HMX.out).mono ?_; rintro e w4 ⟨⟨t', rfl⟩, hb⟩; have HT4 := Lib.hid (HTK.out.later hb); have HBW4 := Lib.hid (HB1.out.trans HT4.out.bel); clear hb) | (go_at_call 54; refine (HDI.out _ (HT.out.bel HBW4.out) (HM1.out.bel HT4.out.bel)).mono ?_; rintro e w5 hpd; obtain ⟨hb, rfl⟩ := dir_ok HD.out hpd; have HT5 := Lib.hid (HT4.out.later hb); have HT6 := Lib.hid (HT5.out.later (Bel.alloc w5 (.cells #[.int .i64 t.k, .int .i64 q, .string (ofL t.s), .string (ofL t.p), .bool t.h] 64))); have HAL2 := Lib.hid (HT6.out.row.alloc (.cells #[.int .i64 t.k, .int .i64 q, .string (ofL t.s), .string (ofL t.p), .bool t.h] 64)); have HBK2 := Lib.hid (new_at1 w5 (.cells #[.int .i64 t.k, .int .i64 q, .string (ofL t.s), .string (ofL t.p), .bool t.h] 64) 64 [.int .i64 t.k, .int .i64 q, .string (ofL t.s), .string (ofL t.p), .bool t.h]); have HLN2 := Lib.hid HT6.out.len; clear hb hpd) | ((with_reducible refine wp_tokL rfl (.tmp 78) (.tmp 80) rfl A n c done HLN2.out rfl HAL2.out (w5.heap.size + 1) _ _ HTX2.out rfl HBK2.out (by omega) ?_); intro A2 c2 w7 HR7 HO7 HK7; have HT7 := Lib.hid (HT6.out.push _ HR7.out HO7.out HK7.out); clear HR7 HO7 HK7))
                go_roundw
                case rel =>
                  refine ⟨A2, _, c2, _, z, r4, rfl, ?_, hzs, hnz, HT7, HRS4, HCB4⟩
                  have h1 := HIS.out
                  have h2 := HZ.out
                  refine congrArg (Value.int .i64) ?_
                  omega
                case measure =>
                  have h1 := HIS.out
                  have h2 := HZ.out
                  simp [intOf]; omega
          | succ k =>
            obtain ⟨k1, hk1⟩ : ∃ k1, k1 = k + 1 := ⟨_, rfl⟩
            have HIX := Lib.hid (fun W => at_index hs (v := (k1 : Int)) (by unfold fnum; rw [hf, hk1]) W)
            have hl2 := find2_lt hf
            obtain ⟨r3, hr3, he3⟩ := rs_text HRS.out hf
            rw [List.drop_drop, ← hk1] at hr3
            rw [← hk1] at he3 hl2
            have hf0 : find2 123 ((toL s).drop (q + k1)) = some 0 := by
              have := find2_drop hf
              rw [List.drop_drop, ← hk1] at this
              exact this
            have hkp : 0 < k1 := by omega
            have HRS3 := Lib.hid hr3
            have HCB3 : Hid (comb (done ++ [text q (((toL s).drop q).take k1)]) r3 = r) := Lib.hid (by rw [← comb_snoc, ← he3]; exact HCB.out)
            have HTX := Lib.hid (show [Value.int .i64 0, .int .i64 q, .string (s.extract q (q + k1)), .string ⟨#[]⟩, .bool false] = (text q (((toL s).drop q).take k1)).cs from by unfold Tok.cs text; rw [extract_take]; rfl)
            have hp2 : q + k1 + 2 ≤ s.size := by omega
            clear hne hlen hl2 hk1 hr3 he3 hf HCB HRS
            obtain ⟨p, hp⟩ : ∃ p, p = q + k1 := ⟨_, rfl⟩
            rw [← hp] at hp2 hf0 HTX HRS3
            have hsum : (q : Int) + (k1 : Int) = (p : Int) := by omega
            have hpos : (0 : Int) < (k1 : Int) := by omega
            have hnp : n + 1 ≤ p := by omega
            have hqp : q ≤ p := by omega
            have hps : p < s.size := by omega
            have HAL := Lib.hid (HTK.out.row.alloc (.cells #[.int .i64 0, .int .i64 q, .string (s.extract q p), .string ⟨#[]⟩, .bool false] 64))
            have HBK := Lib.hid (Blk.new wr 64 [.int .i64 0, .int .i64 q, .string (s.extract q p), .string ⟨#[]⟩, .bool false])
            have HLN := Lib.hid HTK.out.len
            have HP := Lib.hid hp
            clear hp
            generalize text q (((toL s).drop q).take k1) = tx at *
            cases hc : find2 125 (((toL s).drop p).drop 2) with
            | none =>
              have HR2 := Lib.hid (rs_trunc HRS3.out hf0 hc)
              have HCU := Lib.hid (fun W => cutnone_c (q := p) hs hc W)
              clear hc hf0
              go_wp2_with (first | (go_at_call 52; refine (HIX.out _ HMX.out).mono ?_; rintro e w2 ⟨rfl, rfl⟩) | ((with_reducible refine wp_tokL rfl (.tmp 40) (.tmp 49) rfl A n c done HLN.out rfl HAL.out w2.heap.size _ _ HTX.out rfl HBK.out (by omega) ?_); intro A' c' w3 HR3 HO3 HK3; have HT3 := Lib.hid (HTK.out.push _ HR3.out HO3.out HK3.out); have HMX3 := Lib.hid (HT.out.bel (HB1.out.trans HT3.out.bel)); clear HR3 HO3 HK3) | (go_at_call 53; refine (HCU.out _ HMX3.out).mono ?_; rintro e w4 ⟨⟨t, u, rfl⟩, hb⟩; have HT4 := Lib.hid (HT3.out.later hb); clear hb))
              go_wp2
              rw [Exit.noGoto_ret]
              try simp (config := {zetaDelta := true}) only [Exit.inBlock, Exit.then, Exit.noGoto]
              go_ret3
              refine ⟨HB1.out.trans HT4.out.bel, ?_⟩
              rw [← HCB3.out, HR2.out]
              rfl
            | some e =>
              have HCU := Lib.hid (fun W => cutsome_c (q := p) hs hc W)
              have he2 := find2_lt hc
              rw [List.length_drop, List.length_drop, toL_len] at he2
              obtain ⟨inner, hin⟩ : ∃ x, x = ofL ((((toL s).drop p).drop 2).take e) := ⟨_, rfl⟩
              have hti : toL inner = (((toL s).drop p).drop 2).take e := by rw [hin, toL_ofL]
              have his : inner.size = e := by rw [← toL_len, hti, List.length_take, List.length_drop, List.length_drop, toL_len]; omega
              rw [← hin] at HCU
              have HDI := Lib.hid (fun W (hM : MX W) (hS : SMap W w.heap.size 9 kindF) => directive_c inner w.heap.size W hM (by omega) hS)
              cases hd : dirOf (words (toL inner)) with
              | error x =>
                have HR2 := Lib.hid (rs_bad HRS3.out hf0 hc (by rw [← hti]; exact hd))
                have HD := Lib.hid hd
                have hx := dirOf_err hd
                have hx0 : ¬ x = 0 := by omega
                clear hc hf0 hd hin hti hx
                go_wp2_with (first | (go_at_call 52; refine (HIX.out _ HMX.out).mono ?_; rintro e w2 ⟨rfl, rfl⟩) | ((with_reducible refine wp_tokL rfl (.tmp 40) (.tmp 49) rfl A n c done HLN.out rfl HAL.out w2.heap.size _ _ HTX.out rfl HBK.out (by omega) ?_); intro A' c' w3 HR3 HO3 HK3; have HT3 := Lib.hid (HTK.out.push _ HR3.out HO3.out HK3.out); have HMX3 := Lib.hid (HT.out.bel (HB1.out.trans HT3.out.bel)); clear HR3 HO3 HK3) | (go_at_call 53; refine (HCU.out _ HMX3.out).mono ?_; rintro e w4 ⟨⟨t, rfl⟩, hb⟩; have HT4 := Lib.hid (HT3.out.later hb); have HBW4 := Lib.hid (HB1.out.trans HT4.out.bel); clear hb) | (go_at_call 54; refine (HDI.out _ (HT.out.bel HBW4.out) (HM1.out.bel HT4.out.bel)).mono ?_; rintro e w5 hpd; obtain ⟨hb, rfl, _⟩ := dir_err HD.out hpd; have HT5 := Lib.hid (HT4.out.later hb); have HT6 := Lib.hid (HT5.out.later (Bel.alloc w5 (.cells #[.int .i64 0, .int .i64 0, .string ByteArray.empty, .string ByteArray.empty, .bool false] 64))); clear hb hpd))
                go_wp2
                rw [Exit.noGoto_ret]
                try simp (config := {zetaDelta := true}) only [Exit.inBlock, Exit.then, Exit.noGoto]
                go_ret3
                refine ⟨HB1.out.trans HT6.out.bel, ?_⟩
                rw [← HCB3.out, HR2.out]
                rfl
              | ok t =>
                obtain ⟨r4, hr4, he4⟩ := rs_dir HRS3.out hf0 hc (by rw [← hti]; exact hd)
                rw [List.drop_drop] at hr4
                obtain ⟨z, hz⟩ : ∃ z, z = p + (e + 4) := ⟨_, rfl⟩
                rw [← hz] at hr4
                have HRS4 := Lib.hid hr4
                have HCB4 : Hid (comb ((done ++ [tx]) ++ [{ t with a := p }]) r4 = r) := Lib.hid (by rw [← comb_snoc, ← he4]; exact HCB3.out)
                have hzs : z ≤ s.size := by omega
                have hnz : (n + 1) + 1 ≤ z := by omega
                have hqz : p < z := by omega
                have hlen4 : (2 : Int) + (inner.size : Int) + 2 = ((e + 4 : Nat) : Int) := by omega
                have HD := Lib.hid hd
                have HIS := Lib.hid his
                have HZ := Lib.hid hz
                clear hc hf0 hd hin hti hr4 he4 his hz hlen4
                have HTX2 := Lib.hid (show [Value.int .i64 t.k, .int .i64 p, .string (ofL t.s), .string (ofL t.p), .bool t.h] = Tok.cs { t with a := p } from rfl)
                have hib : inner.size ≤ 65536 := by have := HIS.out; omega
                go_wp2_with (first | (go_at_call 52; refine (HIX.out _ HMX.out).mono ?_; rintro e w2 ⟨rfl, rfl⟩) | ((with_reducible refine wp_tokL rfl (.tmp 40) (.tmp 49) rfl A n c done HLN.out rfl HAL.out w2.heap.size _ _ HTX.out rfl HBK.out (by omega) ?_); intro A' c' w3 HR3 HO3 HK3; have HT3 := Lib.hid (HTK.out.push _ HR3.out HO3.out HK3.out); have HMX3 := Lib.hid (HT.out.bel (HB1.out.trans HT3.out.bel)); clear HR3 HO3 HK3) | (go_at_call 53; refine (HCU.out _ HMX3.out).mono ?_; rintro e w4 ⟨⟨t', rfl⟩, hb⟩; have HT4 := Lib.hid (HT3.out.later hb); have HBW4 := Lib.hid (HB1.out.trans HT4.out.bel); clear hb) | (go_at_call 54; refine (HDI.out _ (HT.out.bel HBW4.out) (HM1.out.bel HT4.out.bel)).mono ?_; rintro e w5 hpd; obtain ⟨hb, rfl⟩ := dir_ok HD.out hpd; have HT5 := Lib.hid (HT4.out.later hb); have HT6 := Lib.hid (HT5.out.later (Bel.alloc w5 (.cells #[.int .i64 t.k, .int .i64 p, .string (ofL t.s), .string (ofL t.p), .bool t.h] 64))); have HAL2 := Lib.hid (HT6.out.row.alloc (.cells #[.int .i64 t.k, .int .i64 p, .string (ofL t.s), .string (ofL t.p), .bool t.h] 64)); have HBK2 := Lib.hid (new_at1 w5 (.cells #[.int .i64 t.k, .int .i64 p, .string (ofL t.s), .string (ofL t.p), .bool t.h] 64) 64 [.int .i64 t.k, .int .i64 p, .string (ofL t.s), .string (ofL t.p), .bool t.h]); have HLN2 := Lib.hid HT6.out.len; clear hb hpd) | ((with_reducible refine wp_tokL rfl (.tmp 78) (.tmp 80) rfl A' (n + 1) c' (done ++ [tx]) HLN2.out rfl HAL2.out (w5.heap.size + 1) _ _ HTX2.out rfl HBK2.out (by omega) ?_); intro A2 c2 w7 HR7 HO7 HK7; have HT7 := Lib.hid (HT6.out.push _ HR7.out HO7.out HK7.out); clear HR7 HO7 HK7))
                go_roundw
                case rel =>
                  refine ⟨A2, _, c2, _, z, r4, rfl, ?_, hzs, hnz, HT7, HRS4, HCB4⟩
                  have h1 := HIS.out
                  have h2 := HZ.out
                  refine congrArg (Value.int .i64) ?_
                  omega
                case measure =>
                  have h1 := HIS.out
                  have h2 := HZ.out
                  simp [intOf]; omega
      · obtain rfl : q = s.size := by omega
        have HR2 := Lib.hid (rs_nil (a := s.size) (r := r2) (by have := HRS.out; rw [List.drop_of_length_le (Nat.le_of_eq (toL_len s))] at this; exact this))
        clear hlt
        go_wp2_with fail
        go_wp2
        rw [Exit.noGoto_ret]
        try simp (config := {zetaDelta := true}) only [Exit.inBlock, Exit.then, Exit.noGoto]
        go_ret3
        refine ⟨HB1.out.trans HTK.out.bel, ?_⟩
        rw [← HCB.out, HR2.out]
        show ∃ A c, _
        refine ⟨A, c, ?_, ?_, fun k hk => Nat.le_trans HB1.out.size (HTK.out.fresh k hk)⟩
        · rw [List.append_nil, HTK.out.len]; rfl
        · rw [List.append_nil]; exact HTK.out.row
end Go.Proofs.YtpcapmdfjmpdiaaGreatDoor
