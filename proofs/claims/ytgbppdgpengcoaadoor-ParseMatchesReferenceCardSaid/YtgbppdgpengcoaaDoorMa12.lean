/-
  The law ParseMatchesReference, walked.
-/
import Derived.Test.YtgbppdgpengcoaaDoorAl12
import Derived.Test.YtgbppdgpengcoaaDoorEq12
namespace Go.Proofs.YtgbppdgpengcoaaDoor
open Go.RowKit Go.BigFrame NT
set_option linter.unusedVariables false
set_option linter.unusedSimpArgs false

set_option maxRecDepth 100000 in
set_option maxHeartbeats 3200000 in
theorem matLaw (s : ByteArray) (w : World) (hT : MX w) (hs : s.size ≤ maxLen) :
    Calls Tryd.prog 3 #[.string s] w fun e w' => e = .returned (.bool true) ∧ Below w.heap.size w w' := by
  have HT := Lib.hid hT
  have HA := Lib.hid (fun (W : World) (h : MX W) => alive_c W h)
  by_cases hbig : 5000 < s.size
  · have hi : (5000 : Int) < (s.size : Int) := by omega
    clear hT hs
    go_enter Tryd.func3, Tryd.ntmps3
    go_wp2_with (go_at_call 9; refine (HA.out _ HT.out).mono ?_; rintro e w1 ⟨rfl, hb⟩)
    go_ret
    exact ⟨rfl, hb⟩
  have hi : ¬ (5000 : Int) < (s.size : Int) := by omega
  obtain ⟨r, hr, _⟩ := lexOf_total s
  have HP := Lib.hid (fun (W : World) (h : MX W) => parse_c s r W h hr)
  have HQ := Lib.hid (fun (W : World) => refParse_c s r W hr)
  obtain ⟨num, hn⟩ : ∃ num, num = pnumR s (parR r) := ⟨_, rfl⟩
  obtain ⟨er, he⟩ : ∃ er, er = perrR (parR r) := ⟨_, rfl⟩
  have HNE := Lib.hid (And.intro hn.symm he.symm)
  clear hT hs hbig hr hn he
  go_enter Tryd.func3, Tryd.ntmps3
  go_wp2_with (first | (go_at_call 10; ((with_reducible refine (HP.out _ HT.out).mono ?_); rintro e w1 hp; obtain ⟨hb, A, c, m1, rfl, h1, hr1⟩ := par_any hp; rw [HNE.out.1, HNE.out.2]; have HB1 := Lib.hid hb; have HE1 := Lib.hid h1; have HR1 := Lib.hid hr1.lt; clear hp hb h1 hr1)) | (go_at_call 11; ((with_reducible refine (HQ.out _).mono ?_); rintro e w2 hp; obtain ⟨hb, B, d, m2, rfl, h2, hr2⟩ := par_any hp; rw [HNE.out.1, HNE.out.2]; have HB2 := Lib.hid (HB1.out.trans hb); have HE2 := Lib.hid (HE1.out.trans h2.symm); have HR2 := Lib.hid hr2.lt; have HR12 := Lib.hid (HR1.out.bel hb); clear hp hb h2 hr2)) | (go_at_call 9; refine (HA.out _ (HT.out.bel HB2.out)).mono ?_; rintro e w3 ⟨rfl, hb⟩; have HB3 := Lib.hid (HB2.out.trans hb); have HR3 := Lib.hid (HR2.out.bel hb); have HR13 := Lib.hid (HR12.out.bel hb); clear hb) | (go_at_call 12; refine (equal_c true HR13.out HR3.out (by rw [keys_true, keys_true]; exact HE2.out)).mono ?_; rintro e w4 ⟨rfl, hb⟩; have HB4 := Lib.hid (HB3.out.trans hb); clear hb))
  go_ret
  exact ⟨rfl, HB4.out⟩
end Go.Proofs.YtgbppdgpengcoaaDoor
