/-
  The law InferMatchesReference, walked.
-/
import Derived.Test.YteclclidibmajaaAv16
namespace Go.Proofs.Yteclclidibmajaa
open Go.RowKit Go.BigFrame NT
set_option linter.unusedVariables false
set_option linter.unusedSimpArgs false
set_option maxRecDepth 100000

theorem inferI_le (l : List NT) : (inferI l).1.length ≤ tots l := by
  unfold inferI
  cases h : listI (s0 0) l with
  | no a k => exact Nat.zero_le _
  | ok s es =>
    dsimp only
    split
    · exact listI_le h
    · exact Nat.zero_le _
set_option maxHeartbeats 6400000 in
theorem imLaw (s : ByteArray) (w : World) (hs : s.size ≤ maxLen) :
    Calls Try.prog 3 #[.string s] w fun e w' => e = .returned (.bool true) ∧ Below w.heap.size w w' := by
  obtain ⟨l1, hl1, hP1⟩ := parsed_ex s
  have HPA := Lib.hid (fun W => hP1 W)
  have HLA := Lib.hid hl1
  have HAL := Lib.hid (fun W => alive_c W)
  clear hP1 hl1 hs
  go_enter Try.func3, Try.ntmps3
  go_wp2_with (first
    | (go_at_call 7; ((with_reducible refine (HPA.out _).mono ?_); rintro e w1 hp; obtain ⟨hb, A1, c1, m1, rfl, hr, he⟩ := hp.row; have HB1 := Lib.hid hb; have HX1 := Lib.hid hr; have HT1 := Lib.hid (tots_of he HLA.out); have HC1 := Lib.hid (infer_c hr HT1.out); clear hp he hr hb))
    | (go_at_call 8; ((with_reducible refine (HC1.out).mono ?_); rintro e w2 ⟨hb, A2, n2, c2, rfl, hE⟩; have HB2 := Lib.hid (HB1.out.trans hb); have HE2 := hE; have HC2 := Lib.hid (rinfer_c (HX1.out.bel hb) HT1.out); clear hb hE))
    | (go_at_call 9; ((with_reducible refine (HC2.out).mono ?_); rintro e w3 ⟨hb, A3, n3, c3, rfl, hE⟩; have HB3 := Lib.hid (HB2.out.trans hb); have HE3 := hE; have HE23 := Lib.hid (HE2.out.later hb); clear hb hE))
    | (go_at_call 10; ((with_reducible refine (HAL.out _).mono ?_); rintro e w4 ⟨rfl, hb⟩; have HB4 := Lib.hid (HB3.out.trans hb); have HQ4 := Lib.hid (equale_c (HE23.out.later hb) (HE3.out.later hb) (by have h1 := HE23.out.1; have h2 := inferI_le m1; have h3 := HT1.out; omega) (by have h1 := HE3.out.1; have h2 := inferI_le m1; have h3 := HT1.out; omega)); rw [decide_eq_true rfl] at HQ4; clear hb))
    | (go_at_call 11; ((with_reducible refine (HQ4.out).mono ?_); rintro e w5 ⟨rfl, hb⟩; have HB5 := Lib.hid (HB4.out.trans hb); clear hb)))
  go_ret
  exact ⟨rfl, HB5.out⟩
end Go.Proofs.Yteclclidibmajaa
