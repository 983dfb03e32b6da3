/-
  The law PrinterFormatMatchesReference, walked.
-/
import Derived.Test.YthbcjljkpnkakaaPe13
import Derived.Test.YthbcjljkpnkakaaFr13
namespace Go.Proofs.Ythbcjljkpnkakaa
open Go.RowKit Go.BigFrame NT
set_option linter.unusedVariables false
set_option linter.unusedSimpArgs false

theorem rf_c {l m : List NT} (hl : Parsed l) (he : ers m = l) {A : Option Addr} {c : Nat} {w : World} (hA : Row w (Lt w) A c m) :
    Calls Try.prog 10 #[.slice A m.length c] w fun e w' => e = .returned (.string (ofL (fmtNs l))) ∧ Bel w w' := by
  have h : fmtNs m = fmtNs l := by rw [← he, fmtNs_ers]
  have := rfmt_c hA (ng_ers hl.ng he) (by rw [h]; have := hl.again.1; omega)
  rw [h] at this
  exact this
set_option maxRecDepth 100000 in
set_option maxHeartbeats 3200000 in
theorem matLaw (s : ByteArray) (w : World) (hs : s.size ≤ maxLen) :
    Calls Try.prog 3 #[.string s] w fun e w' => e = .returned (.bool true) ∧ Below w.heap.size w w' := by
  obtain ⟨l, hl, hP⟩ := parsed_ex s
  have HP := Lib.hid hP
  have HL := Lib.hid hl
  have HA := Lib.hid (fun W => alive_c W)
  clear hP hl
  obtain ⟨f, hf⟩ : ∃ f, f = ofL (fmtNs l) := ⟨_, rfl⟩
  have HF := Lib.hid hf.symm
  clear hf
  go_enter Try.func3, Try.ntmps3
  go_wp2_with (first | (go_at_call 7; ((with_reducible refine (HP.out _).mono ?_); rintro e w1 hp; obtain ⟨hb, A, c, m, rfl, hr, he⟩ := hp.row; have HB1 := Lib.hid hb; have HR1 := Lib.hid hr; have HE1 := Lib.hid he; clear hp hb hr he)) | (go_at_call 8; ((with_reducible refine (HA.out _).mono ?_); rintro e w2 ⟨rfl, hb⟩; have HB2 := Lib.hid (HB1.out.trans hb); have HR2 := Lib.hid (HR1.out.bel hb); clear hb)) | (go_at_call 9; ((with_reducible refine (pf_c HL.out HE1.out HR2.out).mono ?_); rintro e w3 ⟨rfl, hb⟩; rw [HF.out]; have HB3 := Lib.hid (HB2.out.trans hb); have HR3 := Lib.hid (HR2.out.bel hb); clear hb)) | (go_at_call 10; ((with_reducible refine (rf_c HL.out HE1.out HR3.out).mono ?_); rintro e w4 ⟨rfl, hb⟩; rw [HF.out]; have HB4 := Lib.hid (HB3.out.trans hb); clear hb)))
  go_ret
  exact ⟨rfl, HB4.out⟩
end Go.Proofs.Ythbcjljkpnkakaa
