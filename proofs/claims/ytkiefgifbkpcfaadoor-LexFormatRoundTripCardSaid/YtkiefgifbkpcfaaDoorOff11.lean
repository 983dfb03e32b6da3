/-
  The law LexOffsets, walked.
-/
import Derived.Test.YtkiefgifbkpcfaaDoorTxt11
namespace Go.Proofs.YtkiefgifbkpcfaaDoor
open Go.RowKit Go.BigFrame
set_option linter.unusedVariables false
set_option linter.unusedSimpArgs false

theorem er_bound {l : List UInt8} {a b c : Nat} (h : Er l a b c) : b ≤ a + l.length ∧ c ≠ 0 := by
  induction h with
  | text l a k b c hf _ ih => have := find2_lt hf; rw [List.length_drop] at ih; exact ⟨by omega, ih.2⟩
  | dir l a e t b c hf hc hd _ ih => have := find2_lt hc; rw [List.length_drop] at this ih; have := find2_lt hf; exact ⟨by omega, ih.2⟩
  | trunc l a hf hc => exact ⟨by omega, by decide⟩
  | bad l a e c hf hc hd => exact ⟨by omega, by rcases dirOf_err hd with h | h <;> omega⟩
/-- What Lex gives is one of these. -/
theorem lexOf_total (s : ByteArray) : ∃ r, LexOf s r ∧ numR s r ≤ s.size ∧ (s.size ≤ 5000 → errR r = 0 → ∃ ts, r = .ok ts ∧ Lx (toL s) 0 ts) ∧ (errR r ≠ 0 → toksR r = []) := by
  by_cases hb : 65536 < s.size
  · exact ⟨.error (0, 6), by unfold LexOf; rw [if_pos hb], Nat.zero_le _, fun h => by omega, fun _ => rfl⟩
  · obtain ⟨r, hr⟩ := rs_total (toL s) 0
    refine ⟨r, by unfold LexOf; rw [if_neg hb]; exact hr, ?_, ?_, ?_⟩
    · match r, hr with
      | .ok ts, _ => exact Nat.le_refl _
      | .error (b, c), hr => have := (er_bound hr).1; rw [toL_len] at this; simp only [numR]; omega
    · match r, hr with
      | .ok ts, hr => exact fun _ _ => ⟨ts, rfl, hr⟩
      | .error (b, c), hr => exact fun _ h => absurd h (er_bound hr).2
    · match r, hr with
      | .ok ts, _ => exact fun h => absurd rfl h
      | .error (b, c), _ => exact fun _ => rfl
/-- What the law asks of a token, by its place. -/
theorem off_pure {s : ByteArray} {ts : List Tok} (h : Lx (toL s) 0 ts) {k : Nat} {t : Tok} (hk : ts[k]? = some t) :
    t.a < s.size ∧ (k = 0 → t.a = 0) ∧ (∀ q, 0 < k → ts[k - 1]? = some q → q.a < t.a ∧ ¬ (t.k = 0 ∧ q.k = 0)) ∧
    (t.k = 0 → t.a + (ofL t.s).size ≤ s.size ∧ s.extract t.a (t.a + (ofL t.s).size) = ofL t.s) ∧ (t.k ≠ 0 → ∀ hl : t.a < s.size, s[t.a] = 123) := by
  have ho : OffOk (toL s) none ts := lx_off h none (by rw [List.drop_zero]) (Nat.zero_le _) rfl
  obtain ⟨h1, h2, h3, h4, h5⟩ := off_at ho hk
  rw [toL_len] at h3 h4
  refine ⟨h3, fun h => h1 h rfl, fun q hq h => h2 q (fun _ => h) hq, fun h => ?_, fun h hl => ?_⟩
  · obtain ⟨g1, g2⟩ := h4 h
    have e : (ofL t.s).size = t.s.length := by rw [← toL_len, toL_ofL]
    rw [e]
    refine ⟨by omega, ?_⟩
    rw [extract_take, g2]
  · have := h5 h
    rw [toL_at hl] at this
    injection this
set_option maxRecDepth 100000 in
set_option maxHeartbeats 3200000 in
theorem offLaw (s : ByteArray) (w : World) (hT : MX w) (hs : s.size ≤ maxLen) :
    Calls Tryd.prog 6 #[.string s] w fun e w' => e = .returned (.bool true) ∧ Below w.heap.size w w' := by
  have HT := Lib.hid hT
  have HA := Lib.hid (fun (W : World) (h : MX W) => alive_c W h)
  obtain ⟨r, hlo, hnum, hok, herr⟩ := lexOf_total s
  have HL := Lib.hid (fun (W : World) (h : MX W) => lex_c s r W h hlo)
  by_cases hcase : 5000 < s.size ∨ errR r ≠ 0
  · obtain ⟨num, hn⟩ : ∃ num, num = numR s r := ⟨_, rfl⟩
    obtain ⟨er, he⟩ : ∃ er, er = errR r := ⟨_, rfl⟩
    rw [← hn] at hnum
    rw [← he] at hcase
    have HNE := Lib.hid (And.intro hn.symm he.symm)
    have hnI : (num : Int) ≤ (s.size : Int) := by omega
    clear hT hs hlo hok herr hn he hnum
    by_cases hbig : 5000 < s.size
    · have hi : (5000 : Int) < (s.size : Int) := by omega
      clear hcase hbig
      by_cases her : er = 0
      · subst her
        go_enter Tryd.func6, Tryd.ntmps6
        go_wp2_with (first | (go_at_call 9; ((with_reducible refine (HL.out _ HT.out).mono ?_); rintro e w1 hp; obtain ⟨hb, A, c, rfl, hr⟩ := lex_any hp; rw [HNE.out.1, HNE.out.2]; have HB1 := Lib.hid hb; clear hp hb hr)) | (go_at_call 8; refine (HA.out _ (HT.out.bel HB1.out)).mono ?_; rintro e w2 ⟨rfl, hb⟩; have HB2 := Lib.hid (HB1.out.trans hb); clear hb))
        go_ret
        exact ⟨rfl, HB2.out⟩
      · have her2 : ¬ (er : Int) = 0 := by omega
        go_enter Tryd.func6, Tryd.ntmps6
        go_wp2_with (first | (go_at_call 9; ((with_reducible refine (HL.out _ HT.out).mono ?_); rintro e w1 hp; obtain ⟨hb, A, c, rfl, hr⟩ := lex_any hp; rw [HNE.out.1, HNE.out.2]; have HB1 := Lib.hid hb; clear hp hb hr)) | (go_at_call 8; refine (HA.out _ (HT.out.bel HB1.out)).mono ?_; rintro e w2 ⟨rfl, hb⟩; have HB2 := Lib.hid (HB1.out.trans hb); clear hb))
        go_ret
        exact ⟨rfl, HB2.out⟩
    · have hi : ¬ (5000 : Int) < (s.size : Int) := by omega
      have her2 : ¬ (er : Int) = 0 := by omega
      have her3 : ((er : Int) != 0) = true := bne_iff_ne.2 her2
      clear hcase hbig
      go_enter Tryd.func6, Tryd.ntmps6
      go_wp2_with (first | (go_at_call 9; ((with_reducible refine (HL.out _ HT.out).mono ?_); rintro e w1 hp; obtain ⟨hb, A, c, rfl, hr⟩ := lex_any hp; rw [HNE.out.1, HNE.out.2]; have HB1 := Lib.hid hb; clear hp hb hr)) | (go_at_call 8; refine (HA.out _ (HT.out.bel HB1.out)).mono ?_; rintro e w2 ⟨rfl, hb⟩; have HB2 := Lib.hid (HB1.out.trans hb); clear hb))
      go_ret
      exact ⟨rfl, HB2.out⟩
  · have hi : ¬ (5000 : Int) < (s.size : Int) := by omega
    have hs5 : s.size ≤ 5000 := by omega
    obtain ⟨ts, rfl, hlx⟩ := hok hs5 (by omega)
    have hcnt := lx_count hlx
    rw [toL_len] at hcnt
    have HP := Lib.hid (fun (k : Nat) (t : Tok) => off_pure (k := k) (t := t) hlx)
    have HE := Lib.hid (lx_empty hlx)
    obtain ⟨n, hn⟩ : ∃ n, n = ts.length := ⟨_, rfl⟩
    have hn5 : n ≤ 5000 := by omega
    have HN := Lib.hid hn
    clear hT hs hlo hnum hok herr hcase hlx hcnt hn
    go_enter Tryd.func6, Tryd.ntmps6
    go_wp2_with (go_at_call 9; ((with_reducible refine (HL.out _ HT.out).mono ?_); rintro e w1 hp; obtain ⟨hb, A, c, rfl, hr, _⟩ := lex_ok hp; rw [← HN.out]; have HB1 := Lib.hid hb; have HR1 := Lib.hid hr; clear hp hb hr))
    go_loopw [38] (fun s38 wr => ∃ k : Nat, k ≤ n ∧ s38 = .int .i64 k ∧ Hid (Bel w1 wr)) (fun s38 _ => n - (intOf s38).toNat)
    case atStart => exact ⟨0, Nat.zero_le _, rfl, Lib.hid (Bel.refl _)⟩
    case round =>
      obtain ⟨k, hk, rfl, HBR⟩ := hrel
      by_cases hlt : k < n
      · have hkt := List.getElem?_eq_getElem (l := ts) (i := k) (by have := HN.out; omega)
        generalize ts[k]'(by have := HN.out; omega) = t at hkt
        obtain ⟨p1, p2, p3, p4, p5⟩ := HP.out k t hkt
        obtain ⟨g, o, hAA, ha⟩ := tok_at HR1.out hkt
        subst hAA
        obtain ⟨a0, a1, a2, a3, a4⟩ := ha wr HBR.out
        obtain ⟨tk, ta, tx, tp, th⟩ := t
        dsimp only at p1 p2 p3 p4 p5 a0 a1 a2 a3 a4
        have hta : (ta : Int) < (s.size : Int) := by omega
        have hta2 : ¬ (s.size : Int) ≤ (ta : Int) := by omega
        by_cases hk0 : k = 0
        · subst hk0
          obtain rfl : ta = 0 := p2 rfl
          have b0 : wr.cell? ⟨g, o, none⟩ = some (.int .i64 tk) := a0
          have b1 : wr.cell? ⟨g, o + 1, none⟩ = some (.int .i64 0) := a1
          have b2 : wr.cell? ⟨g, o + 2, none⟩ = some (.string (ofL tx)) := a2
          have b3 : wr.cell? ⟨g, o + 3, none⟩ = some (.string (ofL tp)) := a3
          have b4 : wr.cell? ⟨g, o + 4, none⟩ = some (.bool th) := a4
          have HEND : Hid (∀ ob, Bel w1 (wr.alloc ob)) := Lib.hid (fun ob => HBR.out.trans (Bel.alloc _ _))
          have hz0 : ¬ (s.size : Int) ≤ 0 := by omega
          have hz5 : ¬ s = ByteArray.empty := by rintro rfl; exact hz0 (Int.le_refl _)
          clear a0 a1 a2 a3 a4 hta hta2
          by_cases h0 : tk = 0
          · obtain ⟨q1, q2⟩ := p4 h0
            rw [Nat.zero_add] at q1 q2
            subst h0
            have c0 : wr.cell? ⟨g, o, none⟩ = some (.int .i64 0) := b0
            clear b0 ha hkt p1 p2 p3 p4 p5
            generalize ofL tx = x at *
            have q3 : ¬ (s.size : Int) < (x.size : Int) := by omega
            go_wp2_with fail
            go_quiet (fail)
            go_wp2_with fail
            have v1 : IntKind.i64.wrap (s.size : Int) = (s.size : Int) := wrap_small _ (by omega) (by omega)
            have v2 : IntKind.i64.wrap (x.size : Int) = (x.size : Int) := wrap_small _ (by omega) (by omega)
            have v3 : ¬ s.size < x.size := by omega
            have v4 : ¬ (s.size : Int) < (x.size : Int) := by omega
            go_quiet (fail)
            go_wp2_with fail
            go_roundw
            case rel => exact ⟨1, by omega, by go_num, Lib.hid ((HEND.out _).trans (Bel.draw _ _))⟩
            case measure => simp [intOf]; omega
          · have hlt0 : 0 < s.size := p1
            have hb : s[0] = 123 := p5 h0 p1
            have n0 : ¬ (tk : Int) = 0 := by omega
            have n1 : ((tk : Int) == 0) = false := by simpa using h0
            have n2 : ((tk : Int) != 0) = true := bne_iff_ne.2 n0
            clear ha hkt p1 p2 p3 p4 p5 h0
            go_wp2_with fail
            go_quiet (fail)
            go_wp2_with fail
            go_quiet (fail)
            go_wp2_with fail
            go_roundw
            case rel => exact ⟨1, by omega, by go_num, Lib.hid ((HEND.out _).trans (Bel.draw _ _))⟩
            case measure => simp [intOf]; omega
        · have hkq := List.getElem?_eq_getElem (l := ts) (i := k - 1) (by have := HN.out; omega)
          generalize ts[k - 1]'(by have := HN.out; omega) = q at hkq
          obtain ⟨g1, o1, hAA, hq⟩ := tok_at HR1.out hkq
          injection hAA with hAA
          injection hAA with e1 e2
          subst e1 e2
          obtain ⟨r1, r2⟩ := p3 q (by omega) hkq
          obtain ⟨j, hj⟩ : ∃ j, j = k - 1 := ⟨_, rfl⟩
          rw [← hj] at hq hkq
          obtain ⟨qk, qa, qx, qp, qh⟩ := q
          dsimp only at r1 r2
          have HQ := Lib.hid (fun ob => hq (wr.alloc ob) (HBR.out.trans (Bel.alloc _ ob)))
          obtain ⟨d0, d1⟩ : (∀ ob, (wr.alloc ob).cell? ⟨g, o + j * 5, none⟩ = some (.int .i64 qk)) ∧ (∀ ob, (wr.alloc ob).cell? ⟨g, o + j * 5 + 1, none⟩ = some (.int .i64 qa)) := ⟨fun ob => (HQ.out ob).1, fun ob => (HQ.out ob).2.1⟩
          have hw : IntKind.i64.wrap ((k : Int) - 1) = (j : Int) := by rw [wrap_small _ (by omega) (by omega)]; omega
          have hjn : (j : Int) < (n : Int) := by omega
          have hjn2 : j < n := by omega
          have hk1 : ¬ (k : Int) = 0 := by omega
          have hk2 : ((k : Int) == 0) = false := by simpa using hk0
          have hk3 : (0 : Int) < (k : Int) := by omega
          have hk4 : 0 < k := by omega
          have hqa : ¬ (ta : Int) ≤ (qa : Int) := by omega
          have hqb : ¬ ta ≤ qa := by omega
          have HEND : Hid (∀ ob, Bel w1 (wr.alloc ob)) := Lib.hid (fun ob => HBR.out.trans (Bel.alloc _ ob))
          have HJ := Lib.hid hj
          by_cases h0 : tk = 0
          · obtain ⟨q1, q2⟩ := p4 h0
            have hqk : qk ≠ 0 := fun h => r2 ⟨h0, h⟩
            have n0 : ¬ (qk : Int) = 0 := by omega
            have n1 : ((qk : Int) == 0) = false := by simpa using hqk
            subst h0
            have c0 : wr.cell? ⟨g, o + k * 5, none⟩ = some (.int .i64 0) := a0
            clear a0 ha hkt p1 p2 p3 p4 p5 hq hkq hj hk0 r1 r2 hqk
            generalize ofL tx = x at *
            go_wp2_with fail
            go_quiet (fail)
            go_wp2_with fail
            have v1 : IntKind.i64.wrap ((s.size : Int) - (ta : Int)) = (s.size : Int) - (ta : Int) := wrap_small _ (by omega) (by omega)
            have v2 : IntKind.i64.wrap ((ta : Int) + (x.size : Int)) = ((ta + x.size : Nat) : Int) := by rw [wrap_small _ (by omega) (by omega)]; omega
            have v4 : ¬ (s.size : Int) - (ta : Int) < (x.size : Int) := by omega
            go_quiet (fail)
            go_wp2_with fail
            go_roundw
            case rel => exact ⟨k + 1, by omega, by go_num, Lib.hid ((HEND.out _).trans (Bel.draw _ _))⟩
            case measure => simp [intOf]; omega
          · have hlt0 : ta < s.size := p1
            have hb : s[ta] = 123 := p5 h0 p1
            have n0 : ¬ (tk : Int) = 0 := by omega
            have n1 : ((tk : Int) == 0) = false := by simpa using h0
            have n2 : ((tk : Int) != 0) = true := bne_iff_ne.2 n0
            clear ha hkt p1 p2 p3 p4 p5 h0 hq hkq hj hk0 r1 r2
            go_wp2_with fail
            go_quiet (fail)
            go_wp2_with fail
            go_quiet (fail)
            go_wp2_with fail
            go_roundw
            case rel => exact ⟨k + 1, by omega, by go_num, Lib.hid ((HEND.out _).trans (Bel.draw _ _))⟩
            case measure => simp [intOf]; omega
      · obtain rfl : k = n := by omega
        have HMX := Lib.hid (HT.out.bel (HB1.out.trans HBR.out))
        have HAL : Hid (∀ W, Bel wr W → Bel w W) := Lib.hid (fun W h => HB1.out.trans (HBR.out.trans h))
        by_cases h0 : s.size = 0
        · have hk0 : k = 0 := by rw [HN.out, HE.out.2 (List.length_eq_zero_iff.1 h0)]; rfl
          have hz := empty_of h0
          clear HN hn5 hk hlt hs5
          subst hk0
          go_wp2_with (go_at_call 8; refine (HA.out _ HMX.out).mono ?_; rintro e w2 ⟨rfl, hb⟩; have HB2 := Lib.hid (HAL.out _ hb); clear hb)
          go_ret
          exact ⟨rfl, HB2.out⟩
        · have hk0 : k ≠ 0 := by
            intro h
            have : ts = [] := List.length_eq_zero_iff.1 (by rw [← HN.out]; exact h)
            exact h0 (by rw [← toL_len, HE.out.1 this]; rfl)
          have hz := empty_not h0
          have hk1 : ¬ (k : Int) = 0 := by omega
          have hk2 : ((k : Int) == 0) = false := by simpa using hk0
          clear HN hn5 hk hlt hs5 h0 hk0
          go_wp2_with (go_at_call 8; refine (HA.out _ HMX.out).mono ?_; rintro e w2 ⟨rfl, hb⟩; have HB2 := Lib.hid (HAL.out _ hb); clear hb)
          go_ret
          exact ⟨rfl, HB2.out⟩
end Go.Proofs.YtkiefgifbkpcfaaDoor
