/-
  The law LexFormatRoundTrip, walked.
-/
import Derived.Test.YtkiefgifbkpcfaaDoorOff11
namespace Go.Proofs.YtkiefgifbkpcfaaDoor
open Go.RowKit Go.BigFrame
set_option linter.unusedVariables false
set_option linter.unusedSimpArgs false

theorem fmt_at (t : Tok) (a : Nat) : fmt { t with a := a } = fmt t := rfl
theorem fmts_same : ∀ {ts us : List Tok}, us.map (fun t => { t with a := 0 }) = ts.map (fun t => { t with a := 0 }) → fmts us = fmts ts
  | [], [], _ => rfl
  | [], u :: us, h => by simp at h
  | t :: ts, [], h => by simp at h
  | t :: ts, u :: us, h => by
    rw [List.map_cons, List.map_cons] at h
    injection h with h1 h2
    rw [fmts_cons, fmts_cons, fmts_same h2, ← fmt_at u 0, ← fmt_at t 0, h1]
/-- The tokens of the canonical source. -/
theorem rt_pure {s : ByteArray} {ts : List Tok} (h : Lx (toL s) 0 ts) : ∃ us, Lx (fmts ts) 0 us ∧ us.length = ts.length ∧ fmts us = fmts ts ∧ ∀ (k : Nat) (t : Tok), ts[k]? = some t → ∃ a', us[k]? = some { t with a := a' } := by
  obtain ⟨us, h1, h2⟩ := round_trip h 0
  refine ⟨us, h1, by have := congrArg List.length h2; simpa using this, fmts_same h2, fun k t hk => ?_⟩
  have h3 : (us.map (fun t => { t with a := 0 }))[k]? = (ts.map (fun t : Tok => { t with a := 0 }))[k]? := by rw [h2]
  rw [List.getElem?_map, List.getElem?_map, hk] at h3
  cases hu : us[k]? with
  | none => rw [hu] at h3; simp at h3
  | some u =>
    rw [hu] at h3
    simp only [Option.map_some, Option.some.injEq] at h3
    refine ⟨u.a, ?_⟩
    obtain ⟨k1, a1, s1, p1, b1⟩ := u
    obtain ⟨k2, a2, s2, p2, b2⟩ := t
    simp only [Tok.mk.injEq] at h3
    obtain ⟨rfl, _, rfl, rfl, rfl⟩ := h3
    rfl
theorem fmts_step {ts : List Tok} {k : Nat} {t : Tok} (h : ts[k]? = some t) : ofL (fmts (ts.take k)) ++ ofL (fmt t) = ofL (fmts (ts.take (k + 1))) := by
  obtain ⟨hk, e⟩ := List.getElem?_eq_some_iff.1 h
  apply toL_inj
  rw [toL_app, toL_ofL, toL_ofL, toL_ofL, List.take_succ_eq_append_getElem hk, e, fmts_append, fmts_cons, fmts_nil, List.append_nil]
theorem fmts_take_len (ts : List Tok) (k : Nat) : (ofL (fmts (ts.take k))).size ≤ (fmts ts).length := by
  rw [← toL_len, toL_ofL]
  conv => rhs; rw [← List.take_append_drop k ts, fmts_append, List.length_append]
  omega
theorem all_take {ts : List Tok} {n : Nat} (h : n = ts.length) : ts.take n = ts := by rw [h, List.take_length]
set_option maxRecDepth 100000 in
set_option maxHeartbeats 3200000 in
theorem rtLaw (s : ByteArray) (w : World) (hT : MX w) (hs : s.size ≤ maxLen) :
    Calls Tryd.prog 4 #[.string s] w fun e w' => e = .returned (.bool true) ∧ Below w.heap.size w w' := by
  have HT := Lib.hid hT
  have HA := Lib.hid (fun (W : World) (h : MX W) => alive_c W h)
  obtain ⟨r, hlo, hnum, hok, herr⟩ := lexOf_total s
  have HL := Lib.hid (fun (W : World) (h : MX W) => lex_c s r W h hlo)
  by_cases hcase : 5000 < s.size ∨ errR r ≠ 0
  · obtain ⟨num, hn⟩ : ∃ num, num = numR s r := ⟨_, rfl⟩
    obtain ⟨er, he⟩ : ∃ er, er = errR r := ⟨_, rfl⟩
    rw [← he] at hcase
    have HNE := Lib.hid (And.intro hn.symm he.symm)
    have HTS := Lib.hid herr
    clear hT hs hlo hok herr hn he hnum
    by_cases her : er = 0
    · have hi : (5000 : Int) < (s.size : Int) := by omega
      subst her
      clear hcase
      go_enter Tryd.func4, Tryd.ntmps4
      go_wp2_with (first | (go_at_call 9; ((with_reducible refine (HL.out _ HT.out).mono ?_); rintro e w1 hp; obtain ⟨hb, A, c, rfl, hr⟩ := lex_any hp; rw [HNE.out.1, HNE.out.2]; have HB1 := Lib.hid hb; clear hp hb hr)) | (go_at_call 8; refine (HA.out _ (HT.out.bel HB1.out)).mono ?_; rintro e w2 ⟨rfl, hb⟩; have HB2 := Lib.hid (HB1.out.trans hb); clear hb))
      go_ret
      exact ⟨rfl, HB2.out⟩
    · have her2 : ¬ (er : Int) = 0 := by omega
      have hl0 : (toksR r).length = 0 := by rw [HTS.out (by rw [HNE.out.2]; exact her)]; rfl
      by_cases hbig : 5000 < s.size
      · have hi : (5000 : Int) < (s.size : Int) := by omega
        clear hcase hbig
        have HL0 := Lib.hid hl0
        clear hl0
        go_enter Tryd.func4, Tryd.ntmps4
        go_wp2_with (first | (go_at_call 9; ((with_reducible refine (HL.out _ HT.out).mono ?_); rintro e w1 hp; obtain ⟨hb, A, c, rfl, hr⟩ := lex_any hp; rw [HNE.out.1, HNE.out.2, HL0.out]; have HB1 := Lib.hid hb; clear hp hb hr)) | (go_at_call 8; refine (HA.out _ (HT.out.bel HB1.out)).mono ?_; rintro e w2 ⟨rfl, hb⟩; have HB2 := Lib.hid (HB1.out.trans hb); clear hb))
        go_ret
        exact ⟨rfl, HB2.out⟩
      · have hi : ¬ (5000 : Int) < (s.size : Int) := by omega
        have her3 : ((er : Int) != 0) = true := bne_iff_ne.2 her2
        clear hcase hbig
        have HL0 := Lib.hid hl0
        clear hl0
        go_enter Tryd.func4, Tryd.ntmps4
        go_wp2_with (first | (go_at_call 9; ((with_reducible refine (HL.out _ HT.out).mono ?_); rintro e w1 hp; obtain ⟨hb, A, c, rfl, hr⟩ := lex_any hp; rw [HNE.out.1, HNE.out.2, HL0.out]; have HB1 := Lib.hid hb; clear hp hb hr)) | (go_at_call 8; refine (HA.out _ (HT.out.bel HB1.out)).mono ?_; rintro e w2 ⟨rfl, hb⟩; have HB2 := Lib.hid (HB1.out.trans hb); clear hb))
        go_ret
        exact ⟨rfl, HB2.out⟩
  · have hi : ¬ (5000 : Int) < (s.size : Int) := by omega
    have hs5 : s.size ≤ 5000 := by omega
    obtain ⟨ts, rfl, hlx⟩ := hok hs5 (by omega)
    have hcnt := lx_count hlx
    rw [toL_len] at hcnt
    have hfl := lx_len hlx
    rw [toL_len] at hfl
    obtain ⟨us, hux, hul, huf, hua⟩ := rt_pure hlx
    have HL2 := Lib.hid (fun (W : World) (h : MX W) => lex_c (ofL (fmts ts)) (.ok us) W h (by unfold LexOf; rw [if_neg (by rw [← toL_len, toL_ofL]; omega)]; exact hux))
    obtain ⟨n, hn⟩ : ∃ n, n = ts.length := ⟨_, rfl⟩
    have hn5 : n ≤ 5000 := by omega
    have HN := Lib.hid hn
    have HNU : Hid (us.length = n) := Lib.hid (by omega)
    have HUF := Lib.hid huf
    have HUA := Lib.hid hua
    have HFL : Hid ((fmts ts).length ≤ 5000) := Lib.hid (by omega)
    have HG : Hid (∀ t ∈ ts, t.k ≤ 8 ∧ t.s.length ≤ 70000 ∧ t.p.length ≤ 70000) := Lib.hid (fun t ht => by
      obtain ⟨h1, h2, h3, h4⟩ := lx_good hlx t ht
      rw [toL_len] at h2 h3
      refine ⟨?_, by omega, by omega⟩
      by_cases h0 : t.k = 0
      · omega
      · exact (h1.2.1 h0).1)
    clear hT hs hlo hnum hok herr hcase hlx hcnt hn hfl hux hul huf hua
    go_enter Tryd.func4, Tryd.ntmps4
    go_wp2_with (go_at_call 9; ((with_reducible refine (HL.out _ HT.out).mono ?_); rintro e w1 hp; obtain ⟨hb, A, c, rfl, hr, _⟩ := lex_ok hp; rw [← HN.out]; have HB1 := Lib.hid hb; have HR1 := Lib.hid hr; clear hp hb hr))
    go_loopw [6, 40] (fun s6 s40 wr => ∃ k : Nat, k ≤ n ∧ s6 = .string (ofL (fmts (ts.take k))) ∧ s40 = .int .i64 k ∧ Hid (Bel w1 wr)) (fun s6 s40 _ => n - (intOf s40).toNat)
    case atStart => exact ⟨0, Nat.zero_le _, rfl, rfl, Lib.hid (Bel.refl _)⟩
    case round =>
      obtain ⟨k, hk, rfl, rfl, HBR⟩ := hrel
      by_cases hlt : k < n
      · have hkl : k < ts.length := by have := HN.out; omega
        have hkt := List.getElem?_eq_getElem hkl
        obtain ⟨hg1, hg2, hg3⟩ := HG.out _ (List.getElem_mem hkl)
        generalize ts[k] = t at *
        obtain ⟨g, o, hAA, ha⟩ := tok_at HR1.out hkt
        obtain ⟨a0, a1, a2, a3, a4⟩ := ha wr HBR.out
        have HF1 := Lib.hid (fun W => format_c t hg1 hg2 hg3 W)
        have hx := fmts_step hkt
        have hz1 := fmts_take_len ts (k + 1)
        have HZ := HFL.out
        generalize hzz : ofL (fmts (ts.take (k + 1))) = z at hx hz1
        have hz2 : (ofL (fmts (ts.take k))).size + (ofL (fmt t)).size = z.size := by rw [← hx, ByteArray.size_append]
        subst hAA
        have HEND := Lib.hid (fun ob => HBR.out.trans (Bel.alloc wr ob))
        have HX : Hid (Value.string (ofL (fmts (ts.take k)) ++ ofL (fmt t)) = .string z) := Lib.hid (by rw [hx])
        clear ha hkt hg1 hg2 hg3 hkl hx
        go_wp2_with (go_at_call 12; ((with_reducible refine (HF1.out _).mono ?_); rintro e w2 ⟨rfl, hb⟩; have HB2 := Lib.hid ((HEND.out _).trans hb); clear hb))
        go_roundw
        case rel => exact ⟨k + 1, by omega, HX.out.trans (by rw [hzz]), by go_num, HB2⟩
        case measure => simp [intOf]; omega
      · obtain rfl : k = n := by omega
        rw [all_take HN.out]
        have HMX := Lib.hid (HT.out.bel (HB1.out.trans HBR.out))
        have HLX : Hid (∀ W, MX W → _) := HL2
        have HBW := Lib.hid (HB1.out.trans HBR.out)
        have HR1R := Lib.hid (HR1.out.only (bel_only HBR.out) (by simp))
        generalize hXX : ofL (fmts ts) = X at HL2 ⊢
        have HXX := Lib.hid hXX
        clear hXX HLX
        go_wp2_with (go_at_call 9; ((with_reducible refine (HL2.out _ HMX.out).mono ?_); rintro e w2 hp; obtain ⟨hb, B, d, rfl, hr, _⟩ := lex_ok hp; rw [HNU.out]; have HB2 := Lib.hid (HBW.out.trans hb); have HR2 := Lib.hid hr; have HR12 := Lib.hid (HR1R.out.only (bel_only hb) (by simp)); clear hp hb hr))
        go_loopw [12, 72] (fun s12 s72 wr => ∃ j : Nat, j ≤ k ∧ s12 = .string (ofL (fmts (us.take j))) ∧ s72 = .int .i64 j ∧ Hid (Bel w2 wr)) (fun s12 s72 _ => k - (intOf s72).toNat)
        case atStart => exact ⟨0, Nat.zero_le _, rfl, rfl, Lib.hid (Bel.refl _)⟩
        case round =>
          obtain ⟨j, hj, rfl, rfl, HBX⟩ := hrel
          by_cases hlt2 : j < k
          · have hkl : j < ts.length := by have := HN.out; omega
            have hkt := List.getElem?_eq_getElem hkl
            obtain ⟨hg1, hg2, hg3⟩ := HG.out _ (List.getElem_mem hkl)
            obtain ⟨a', hut⟩ := HUA.out _ _ hkt
            generalize ts[j] = t at hkt hg1 hg2 hg3 hut
            obtain ⟨g, o, hAA, ha⟩ := tok_at HR12.out hkt
            obtain ⟨g', o', hBB, hb⟩ := tok_at HR2.out hut
            have hgl := HR12.out.lt g (by rw [hAA]; simp [rowT])
            subst hAA hBB
            obtain ⟨b0, b1, b2, b3, b4⟩ := hb wr HBX.out
            have HF1 := Lib.hid (fun W => format_c ⟨t.k, a', t.s, t.p, t.h⟩ hg1 hg2 hg3 W)
            have hx := fmts_step hut
            have hz1 := fmts_take_len us (j + 1)
            rw [HUF.out] at hz1
            have HZ := HFL.out
            generalize hzz : ofL (fmts (us.take (j + 1))) = z at hx hz1
            have hz2 : (ofL (fmts (us.take j))).size + (ofL (fmt ⟨t.k, a', t.s, t.p, t.h⟩)).size = z.size := by rw [← hx, ByteArray.size_append]
            have HX : Hid (Value.string (ofL (fmts (us.take j)) ++ ofL (fmt ⟨t.k, a', t.s, t.p, t.h⟩)) = .string z) := Lib.hid (by rw [hx])
            have HTA := Lib.hid ha
            have HBN := Lib.hid (Blk.new wr 32 [.int .i64 t.k, .int .i64 a', .string (ofL t.s), .string (ofL t.p), .bool t.h])
            have HEND := Lib.hid (fun ob => HBX.out.trans (Bel.alloc wr ob))
            have hgx : ¬ g = wr.heap.size := by have := HBX.out.size; omega
            clear ha hb hkt hut hg1 hg2 hg3 hkl hx hgl
            go_wp2_with (go_at_call 12; ((with_reducible refine (HF1.out _).mono ?_); rintro e w3 ⟨rfl, hb⟩; have HB3 := Lib.hid ((HEND.out _).trans hb); have HBN3 := Lib.hid (HBN.out.only (bel_only hb) (by simp)); obtain ⟨c0, c1, c2, c3, c4⟩ := cells5 HBN3.out; obtain ⟨f0, f1, f2, f3, f4⟩ := frees5 HBN3.out; obtain ⟨a0, a1, a2, a3, a4⟩ := HTA.out w3 HB3.out; clear hb b0 b1 b2 b3 b4))
            go_quiet (fail)
            go_wp2_with fail
            go_roundw
            case rel => exact ⟨j + 1, by omega, HX.out.trans (by rw [hzz]), by go_num, Lib.hid ((bel_on1 HB3.out ((Only.refl [wr.heap.size] _).setCell (.inl (by simp)) _) HBX.out.size).trans (Bel.draw _ _))⟩
            case measure => simp [intOf]; omega
          · obtain rfl : j = k := by omega
            rw [all_take HNU.out.symm]
            have HM3 := Lib.hid (HT.out.bel (HB2.out.trans HBX.out))
            have HXU : Hid (ofL (fmts us) = X) := Lib.hid (by rw [HUF.out, HXX.out])
            rw [HXU.out]
            have HB3 := Lib.hid (HB2.out.trans HBX.out)
            go_wp2_with (go_at_call 8; refine (HA.out _ HM3.out).mono ?_; rintro e w6 ⟨rfl, hb⟩; have HB6 := Lib.hid (HB3.out.trans hb); clear hb)
            go_ret
            exact ⟨rfl, HB6.out⟩
end Go.Proofs.YtkiefgifbkpcfaaDoor
