/-
  alive; the program's Format and Equal, the reference's Equal, at rows of parsed nodes.
  The law PrinterRoundTrip, walked.
-/
import Derived.Test.YthbcjljkpnkakaaDoorFp13
import Derived.Test.YthbcjljkpnkakaaDoorLp13
import Derived.Test.YthbcjljkpnkakaaDoorEp13
import Derived.Test.YthbcjljkpnkakaaDoorEq13
import Derived.Test.YthbcjljkpnkakaaDoorPa12
namespace Go.Proofs.YthbcjljkpnkakaaDoor
open Go.RowKit Go.BigFrame NT
set_option linter.unusedVariables false
set_option linter.unusedSimpArgs false

theorem alive1 : LexOf ⟨#[123, 123, 32, 105, 102, 32, 46, 97, 32, 125, 125, 120, 123, 123, 32, 101, 110, 100, 32, 125, 125]⟩ (.ok [⟨2, 0, [], [97], true⟩, text 11 [120], ⟨8, 12, [], [], false⟩]) := by
  unfold LexOf
  rw [if_neg (by decide)]
  exact Lx.dir [123, 123, 32, 105, 102, 32, 46, 97, 32, 125, 125, 120, 123, 123, 32, 101, 110, 100, 32, 125, 125] 0 7 ⟨2, 0, [], [97], true⟩ _ rfl rfl rfl
    (Lx.text [120, 123, 123, 32, 101, 110, 100, 32, 125, 125] 11 0 _ rfl
      (Lx.dir [123, 123, 32, 101, 110, 100, 32, 125, 125] 12 5 ⟨8, 0, [], [], false⟩ _ rfl rfl rfl (Lx.nil _)))
theorem alive2 : parR (.ok [⟨2, 0, [], [97], true⟩, text 11 [120], ⟨8, 12, [], [], false⟩]) = .ok [nd ⟨2, 0, [], [97], true⟩ false [nd (text 11 [120]) false [] []] []] := rfl
theorem alive3 : fmtNs [nd ⟨2, 0, [], [97], true⟩ false [nd (text 11 [120]) false [] []] []] = [123, 123, 105, 102, 32, 46, 97, 125, 125, 120, 123, 123, 101, 110, 100, 125, 125] := by
  rw [fmtNs_cons, fmtN_nd, fmtNs_cons, fmtN_nd, fmtNs_nil]
  rfl
/-- What a row of parsed nodes is like. -/
theorem PdP.row {l : List NT} {w : World} {e : Ending} {w' : World} (h : PdP l w e w') : Bel w w' ∧ ∃ A c m, e = .returned (.slice A m.length c) ∧ Row w' (Lt w') A c m ∧ ers m = l := by
  obtain ⟨hb, A, c, m, h1, h2, h3⟩ := h
  exact ⟨hb, A, c, m, h1, h2.lt, h3⟩
theorem pf_c {l m : List NT} (hl : Parsed l) (he : ers m = l) {A : Option Addr} {c : Nat} {w : World} (hA : Row w (Lt w) A c m) :
    Calls Tryd.prog 5 #[.slice A m.length c] w fun e w' => e = .returned (.string (ofL (fmtNs l))) ∧ Bel w w' := by
  have h : fmtNs m = fmtNs l := by rw [← he, fmtNs_ers]
  have := pformat_c hA (ng_ers hl.ng he) (wn_ers hl.wn he) (by rw [h]; have := hl.again.1; omega)
  rw [h] at this
  exact this
theorem alive_parsed : Parsed [nd ⟨2, 0, [], [97], true⟩ false [nd (text 11 [120]) false [] []] []] := by
  have h := alive1
  unfold LexOf at h
  rw [if_neg (by decide)] at h
  exact ⟨_, _, 2, by decide, h, rfl⟩
set_option maxRecDepth 100000 in
set_option maxHeartbeats 3200000 in
theorem alive_c (w : World) : Calls Tryd.prog 7 #[] w fun e w' => e = .returned (.bool true) ∧ Bel w w' := by
  have HP := Lib.hid (fun W => parsed_ok _ (by decide) _ alive1 _ alive2 W)
  obtain ⟨f, hf⟩ : ∃ f, f = ofL (fmtNs [nd ⟨2, 0, [], [97], true⟩ false [nd (text 11 [120]) false [] []] []]) := ⟨_, rfl⟩
  have HF := Lib.hid hf.symm
  have hfl : (f.toList == [123, 123, 105, 102, 32, 46, 97, 125, 125, 120, 123, 123, 101, 110, 100, 125, 125]) = true := by
    rw [hf, alive3, ByteArray.toList_eq]
    rfl
  clear hf
  go_enter Tryd.func7, Tryd.ntmps7
  go_wp2_with (first | (go_at_call 4; ((with_reducible refine (HP.out _).mono ?_); rintro e w1 hp; obtain ⟨hb, A, c, m, rfl, hr, he⟩ := hp.row; have HB1 := Lib.hid hb; have HR1 := Lib.hid hr; have HE1 := Lib.hid he; clear hp hb hr he)) | (go_at_call 5; ((with_reducible refine (pf_c alive_parsed HE1.out HR1.out).mono ?_); rintro e w2 ⟨rfl, hb⟩; rw [HF.out]; have HB2 := Lib.hid (HB1.out.trans hb); clear hb)))
  go_ret
  exact ⟨rfl, HB2.out⟩
theorem sameN_ers {l m l' m' : List NT} (h1 : ers l = l') (h2 : ers m = m') : sameN l m = sameN l' m' := by
  have e1 : keys false l = keys false l' := by rw [keys_false, keys_false, ← h1, strips_ers]
  have e2 : keys false m = keys false m' := by rw [keys_false, keys_false, ← h2, strips_ers]
  by_cases h : keys false l' = keys false m'
  · rw [sameN_yes h, sameN_yes (by rw [e1, e2, h])]
  · rw [sameN_no h, sameN_no (by rw [e1, e2]; exact h)]
theorem pe_c {l m l' m' : List NT} (h1 : ers l = l') (h2 : ers m = m') (hp : Parsed m') {A B : Option Addr} {c d : Nat} {w : World} (hA : Row w (Lt w) A c l) (hB : Row w (Lt w) B d m) :
    Calls Tryd.prog 9 #[.slice A l.length c, .slice B m.length d] w fun e w' => e = .returned (.bool (sameN l' m')) ∧ Bel w w' := by
  rw [← sameN_ers h1 h2]
  exact pequal_c hA hB (by rw [← tots_ers, h2]; have := hp.tots; omega)
theorem re_c {l m l' m' : List NT} (h1 : ers l = l') (h2 : ers m = m') {A B : Option Addr} {c d : Nat} {w : World} (hA : Row w (Lt w) A c l) (hB : Row w (Lt w) B d m) :
    Calls Tryd.prog 8 #[.slice A l.length c, .slice B m.length d, .bool false] w fun e w' => e = .returned (.bool (sameN l' m')) ∧ Bel w w' := by
  rw [← sameN_ers h1 h2]
  exact equalA_c hA hB
end Go.Proofs.YthbcjljkpnkakaaDoor

namespace Go.Proofs.YthbcjljkpnkakaaDoor
open Go.RowKit Go.BigFrame NT
set_option linter.unusedVariables false
set_option linter.unusedSimpArgs false

set_option maxRecDepth 100000 in
set_option maxHeartbeats 6400000 in
theorem rtLaw (s : ByteArray) (w : World) (hT : MX w) (hs : s.size ≤ maxLen) :
    Calls Tryd.prog 3 #[.string s] w fun e w' => e = .returned (.bool true) ∧ Below w.heap.size w w' := by
  obtain ⟨l1, hl1, hP1⟩ := parsed_ex s
  obtain ⟨hlen, us, l2, c2, hlx, hpp, hst⟩ := hl1.again
  have hl2 : Parsed l2 := ⟨_, us, c2, hlen, hlx, hpp⟩
  obtain ⟨f, hf⟩ : ∃ f, f = ofL (fmtNs l1) := ⟨_, rfl⟩
  have hft : toL f = fmtNs l1 := by rw [hf, toL_ofL]
  have hfs : f.size ≤ 5000 := by rw [← toL_len, hft]; exact hlen
  have hlo : LexOf f (.ok us) := by
    unfold LexOf
    rw [if_neg (by omega), hft]
    exact hlx
  have hpr : parR (.ok us) = .ok l2 := by unfold parR; dsimp only; rw [hpp]
  have HT := Lib.hid hT
  have HPA := Lib.hid hP1
  have HLA := Lib.hid hl1
  have HLB := Lib.hid hl2
  have HAL := Lib.hid (fun W => alive_c W)
  have HPR := Lib.hid (fun W (h : MX W) => by have := parse_c f (.ok us) W h hlo; rw [hpr] at this; exact this)
  have HF1 := Lib.hid hf.symm
  have HF2 : Hid (ofL (fmtNs l2) = f) := Lib.hid (by rw [hf, fmtNs_of_strips hst])
  have HQ : Hid (sameN l1 l2 = true) := Lib.hid (sameN_yes (by rw [keys_false, keys_false, hst]))
  clear hP1 hl1 hl2 hT hs hlen hlx hpp hst hf hft hlo hpr
  go_enter Tryd.func3, Tryd.ntmps3
  go_wp2_with (first | (go_at_call 4; ((with_reducible refine (HPA.out w).mono ?_); rintro e w1 hp; obtain ⟨hb, A1, c1, m1, rfl, hr, he⟩ := hp.row; have HB1 := Lib.hid hb; have HE1 := Lib.hid he; have HX1 := Lib.hid hr; clear hp he hr hb)) | (go_at_call 5; ((with_reducible refine (pf_c HLA.out HE1.out HX1.out).mono ?_); rintro e w2 ⟨rfl, hb⟩; rw [HF1.out]; have HB2 := Lib.hid (HB1.out.trans hb); have HX2 := Lib.hid (HX1.out.bel hb); clear hb)) | (go_at_call 6; ((with_reducible refine (HPR.out _ (HT.out.bel HB2.out)).mono ?_); rintro e w3 ⟨hb, A3, c3, m3, he, hr, rfl⟩; have HB3 := Lib.hid (HB2.out.trans hb); have HX3 := Lib.hid (HX2.out.bel hb); have HE3 := Lib.hid he; have HZ3 := Lib.hid hr.lt; clear hb he hr)) | (go_at_call 7; ((with_reducible refine (HAL.out w3).mono ?_); rintro e w4 ⟨rfl, hb⟩; have HB4 := Lib.hid (HB3.out.trans hb); have HX4 := Lib.hid (HX3.out.bel hb); have HZ4 := Lib.hid (HZ3.out.bel hb); clear hb)) | (go_at_call 8; ((with_reducible refine (re_c HE1.out HE3.out HX4.out HZ4.out).mono ?_); rintro e w5 ⟨rfl, hb⟩; rw [HQ.out]; have HB5 := Lib.hid (HB4.out.trans hb); have HX5 := Lib.hid (HX4.out.bel hb); have HZ5 := Lib.hid (HZ4.out.bel hb); clear hb)) | (go_at_call 9; ((with_reducible refine (pe_c HE1.out HE3.out HLB.out HX5.out HZ5.out).mono ?_); rintro e w6 ⟨rfl, hb⟩; rw [HQ.out]; have HB6 := Lib.hid (HB5.out.trans hb); have HZ6 := Lib.hid (HZ5.out.bel hb); clear hb)) | (go_at_call 5; ((with_reducible refine (pf_c HLB.out HE3.out HZ6.out).mono ?_); rintro e w7 ⟨rfl, hb⟩; rw [HF2.out]; have HB7 := Lib.hid (HB6.out.trans hb); clear hb)))
  go_ret
  exact ⟨rfl, HB7.out⟩
end Go.Proofs.YthbcjljkpnkakaaDoor
