/-
  The law LexTextIsLiteral, walked.
-/
import Derived.Test.YtkiefgifbkpcfaaDoorMat11
namespace Go.Proofs.YtkiefgifbkpcfaaDoor
open Go.RowKit Go.BigFrame
set_option linter.unusedVariables false
set_option linter.unusedSimpArgs false

theorem no_bb_end {l : List UInt8} {k : Nat} (hk : l.length ≤ k + 1) (h : ∀ j, j < k → ¬ BB 123 l j) : ∀ j, ¬ BB 123 l j := by
  intro j hb
  have h1 := (List.getElem?_eq_some_iff.1 hb.2).1
  exact h j (by omega) hb
theorem text_cells {W : World} {g o : Nat} {s : ByteArray} (h : W.cell? ⟨g, o + 0 * 5, none⟩ = some (.int .i64 ((text 0 (toL s)).k : Int)) ∧ W.cell? ⟨g, o + 0 * 5 + 1, none⟩ = some (.int .i64 ((text 0 (toL s)).a : Int)) ∧ W.cell? ⟨g, o + 0 * 5 + 2, none⟩ = some (.string (ofL (text 0 (toL s)).s)) ∧
    W.cell? ⟨g, o + 0 * 5 + 3, none⟩ = some (.string (ofL (text 0 (toL s)).p)) ∧ W.cell? ⟨g, o + 0 * 5 + 4, none⟩ = some (.bool (text 0 (toL s)).h)) :
    W.cell? ⟨g, o, none⟩ = some (.int .i64 0) ∧ W.cell? ⟨g, o + 1, none⟩ = some (.int .i64 0) ∧ W.cell? ⟨g, o + 2, none⟩ = some (.string s) ∧ W.cell? ⟨g, o + 3, none⟩ = some (.string ⟨#[]⟩) ∧ W.cell? ⟨g, o + 4, none⟩ = some (.bool false) := by
  rw [Nat.zero_mul, Nat.add_zero] at h
  obtain ⟨h0, h1, h2, h3, h4⟩ := h
  refine ⟨h0, h1, ?_, h3, h4⟩
  rw [h2]
  simp only [text, ofL_toL]
set_option maxRecDepth 100000 in
set_option maxHeartbeats 3200000 in
theorem txtLaw (s : ByteArray) (w : World) (hT : MX w) (hs : s.size ≤ maxLen) :
    Calls Tryd.prog 5 #[.string s] w fun e w' => e = .returned (.bool true) ∧ Below w.heap.size w w' := by
  have HT := Lib.hid hT
  have HA := Lib.hid (fun (W : World) (h : MX W) => alive_c W h)
  by_cases hbig : 5000 < s.size
  · have hi : (5000 : Int) < (s.size : Int) := by omega
    clear hT hs
    go_enter Tryd.func5, Tryd.ntmps5
    go_wp2_with (go_at_call 8; refine (HA.out _ HT.out).mono ?_; rintro e w1 ⟨rfl, hb⟩)
    go_ret
    exact ⟨rfl, hb⟩
  have hi : ¬ (5000 : Int) < (s.size : Int) := by omega
  have hs5 : s.size ≤ 5000 := by omega
  have HL := Lib.hid (fun (W : World) r (h : MX W) (hr : Rs (toL s) 0 r) => lex_c s r W h (by unfold LexOf; rw [if_neg (by omega)]; exact hr))
  clear hT hs hbig
  go_enter Tryd.func5, Tryd.ntmps5
  go_wp2_with fail
  go_loop [3] (fun i => ∃ k : Nat, k ≤ s.size ∧ i = .int .i64 k ∧ Hid (∀ j, j < k → ¬ BB 123 (toL s) j)) (fun i => s.size - (intOf i).toNat)
  case atStart => exact ⟨0, Nat.zero_le _, rfl, Lib.hid (fun j h2 => absurd h2 (Nat.not_lt_zero _))⟩
  case round =>
    obtain ⟨k, hks, rfl, HN⟩ := hrel
    by_cases hlt : k + 1 < s.size
    · have hk : k < s.size := by omega
      have h1 := toL_at hk
      have h2 := toL_at hlt
      have b1 : ((s[k].toNat : Int) == 123) = decide (s[k] = 123) := byte_eq (c := 123)
      have b2 : ((s[k + 1].toNat : Int) == 123) = decide (s[k + 1] = 123) := byte_eq (c := 123)
      by_cases e1 : s[k] = 123
      · rw [decide_eq_true e1] at b1
        by_cases e2 : s[k + 1] = 123
        · rw [decide_eq_true e2] at b2
          clear h1 h2 e1 e2
          go_wp2_with (go_at_call 8; refine (HA.out _ HT.out).mono ?_; rintro e w1 ⟨rfl, hb⟩)
          go_ret
          exact ⟨rfl, hb⟩
        · have HN2 : Hid (∀ j, j < k + 1 → ¬ BB 123 (toL s) j) := Lib.hid (fun j h4 hb => by
            by_cases e : j = k
            · subst e; rw [hb.2] at h2; injection h2 with h2; exact e2 h2.symm
            · exact HN.out j (by omega) hb)
          rw [decide_eq_false e2] at b2
          clear h1 h2 e1 e2
          go_wp2_with fail
          go_round
          case rel => exact ⟨k + 1, by omega, by go_num, HN2⟩
          case measure => simp [intOf]; omega
      · have HN2 : Hid (∀ j, j < k + 1 → ¬ BB 123 (toL s) j) := Lib.hid (fun j h4 hb => by
            by_cases e : j = k
            · subst e; rw [hb.1] at h1; injection h1 with h1; exact e1 h1.symm
            · exact HN.out j (by omega) hb)
        rw [decide_eq_false e1] at b1
        clear h1 h2 e1 b2
        go_wp2_with fail
        go_round
        case rel => exact ⟨k + 1, by omega, by go_num, HN2⟩
        case measure => simp [intOf]; omega
    · have hlx := lx_text (no_bb_end (l := toL s) (k := k) (by rw [toL_len]; omega) HN.out) 0
      by_cases h0 : s.size = 0
      · have hl0 : toL s = [] := List.length_eq_zero_iff.1 h0
        rw [if_pos hl0] at hlx
        have HL0 := Lib.hid (fun W (h : MX W) => HL.out W (.ok []) h hlx)
        have hz := empty_of h0
        have HS0 := Lib.hid h0
        clear hlx hl0 HN HL
        go_wp2_with (first | (go_at_call 9; ((with_reducible refine (HL0.out _ HT.out).mono ?_); rintro e w1 hp; obtain ⟨hb, A, c, rfl, hr, _⟩ := lex_ok hp; have HB1 := Lib.hid hb; rw [HS0.out]; clear hp hb hr)) | (go_at_call 8; refine (HA.out _ (HT.out.bel HB1.out)).mono ?_; rintro e w2 ⟨rfl, hb⟩; have HB2 := Lib.hid (HB1.out.trans hb); clear hb))
        go_ret
        exact ⟨rfl, HB2.out⟩
      · have hl0 : toL s ≠ [] := fun h => h0 (by rw [← toL_len, h]; rfl)
        rw [if_neg hl0] at hlx
        have HL0 := Lib.hid (fun W (h : MX W) => HL.out W (.ok [text 0 (toL s)]) h hlx)
        have hz := empty_not h0
        clear hlx hl0 HN HL h0
        go_wp2_with (first | (go_at_call 9; ((with_reducible refine (HL0.out _ HT.out).mono ?_); rintro e w1 hp; obtain ⟨hb, A, c, rfl, hr, _⟩ := lex_ok hp; have HB1 := Lib.hid hb; have HR1 := Lib.hid hr; clear hp hb hr)) | (go_at_call 8; refine (HA.out _ (HT.out.bel HB1.out)).mono ?_; rintro e w2 ⟨rfl, hb⟩; have HB2 := Lib.hid (HB1.out.trans hb); obtain ⟨g, o, hA, h0⟩ := tok_at HR1.out (i := 0) rfl; subst hA; obtain ⟨a0, a1, a2, a3, a4⟩ := text_cells (h0 _ hb); clear hb h0))
        go_ret
        exact ⟨rfl, HB2.out⟩
end Go.Proofs.YtkiefgifbkpcfaaDoor
