/-
  The law ParseCountMatchesReference, walked.
-/
import Derived.Test.YtgbppdgpengcoaaDoorAl12
import Derived.Test.YtgbppdgpengcoaaDoorWt12
namespace Go.Proofs.YtgbppdgpengcoaaDoor
open Go.RowKit Go.BigFrame NT
set_option linter.unusedVariables false
set_option linter.unusedSimpArgs false

set_option maxRecDepth 100000 in
set_option maxHeartbeats 3200000 in
theorem cntLaw (A : Option Addr) (c : Nat) (l : List NT) (w : World) (hT : MX w) (hA : Row w (Lt w) A c l) :
    Calls Tryd.prog 4 #[.slice A l.length c] w fun e w' => e = .returned (.bool true) ∧ Below w.heap.size w w' := by
  have HT := Lib.hid hT
  have HAL := Lib.hid (fun (W : World) (h : MX W) => alive_c W h)
  have HTL := Lib.hid (tooLarge12_c hA)
  have HR := Lib.hid hA
  clear hT hA
  go_enter Tryd.func4, Tryd.ntmps4
  go_wp2_with fail
  refine HTL.out.mono ?_
  rintro e w1 ⟨r, hr1, hr0, rfl, hb⟩
  have HB1 := Lib.hid hb
  rcases (show r = 0 ∨ r = 1 by omega) with rfl | rfl
  · have ht := hr0 rfl
    have h1 := cnts_le l
    have h2 := nsts_le l
    have hc6 : cnts l ≤ 1000000 := by omega
    have hn6 : nsts l ≤ 1000000 := by omega
    have HC1 := Lib.hid (fun W (hb : Bel w W) => count_c (HR.out.bel hb) hc6)
    have HC2 := Lib.hid (fun W (hb : Bel w W) => rcount_c (HR.out.bel hb) hc6)
    have HN1 := Lib.hid (fun W (hb : Bel w W) => nest_c (HR.out.bel hb) hn6)
    have HN2 := Lib.hid (fun W (hb : Bel w W) => rnest_c (HR.out.bel hb) hn6)
    clear hb hr0 hr1 ht h1 h2 hc6 hn6
    go_wp2_with (first | (go_at_call 9; refine (HAL.out _ (HT.out.bel HB1.out)).mono ?_; rintro e w2 ⟨rfl, hb⟩; have HB2 := Lib.hid (HB1.out.trans hb); clear hb) | (go_at_call 14; refine (HC1.out _ HB2.out).mono ?_; rintro e w3 ⟨rfl, hb⟩; have HB3 := Lib.hid (HB2.out.trans hb); clear hb) | (go_at_call 15; refine (HC2.out _ HB3.out).mono ?_; rintro e w4 ⟨rfl, hb⟩; have HB4 := Lib.hid (HB3.out.trans hb); clear hb) | (go_at_call 16; refine (HN1.out _ HB4.out).mono ?_; rintro e w5 ⟨rfl, hb⟩; have HB5 := Lib.hid (HB4.out.trans hb); clear hb) | (go_at_call 17; refine (HN2.out _ HB5.out).mono ?_; rintro e w6 ⟨rfl, hb⟩; have HB6 := Lib.hid (HB5.out.trans hb); clear hb))
    go_ret
    exact ⟨rfl, HB6.out⟩
  · clear hb hr0 hr1
    go_wp2_with (go_at_call 9; refine (HAL.out _ (HT.out.bel HB1.out)).mono ?_; rintro e w2 ⟨rfl, hb⟩; have HB2 := Lib.hid (HB1.out.trans hb); clear hb)
    go_ret
    exact ⟨rfl, HB2.out⟩
end Go.Proofs.YtgbppdgpengcoaaDoor
