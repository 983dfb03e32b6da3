/-
  alive; the program's Format and Equal, the reference's Equal, at rows of parsed nodes.
-/
import Derived.Test.YthbcjljkpnkakaaFp13
import Derived.Test.YthbcjljkpnkakaaLp13
import Derived.Test.YthbcjljkpnkakaaEp13
import Derived.Test.YthbcjljkpnkakaaEq13
namespace Go.Proofs.Ythbcjljkpnkakaa
open Go.RowKit Go.BigFrame NT
set_option linter.unusedVariables false
set_option linter.unusedSimpArgs false

theorem alive1 : LexOf ⟨#[123, 123, 32, 105, 102, 32, 46, 97, 32, 125, 125, 120, 123, 123, 32, 101, 110, 100, 32, 125, 125]⟩ (.ok [⟨2, 0, [], [97], true⟩, text 11 [120], ⟨8, 12, [], [], false⟩]) := by
  unfold LexOf
  rw [if_neg (by decide)]
  exact Lx.dir [123, 123, 32, 105, 102, 32, 46, 97, 32, 125, 125, 120, 123, 123, 32, 101, 110, 100, 32, 125, 125] 0 7 ⟨2, 0, [], [97], true⟩ _ rfl rfl rfl
    (Lx.text [120, 123, 123, 32, 101, 110, 100, 32, 125, 125] 11 0 _ rfl
      (Lx.dir [123, 123, 32, 101, 110, 100, 32, 125, 125] 12 5 ⟨8, 0, [], [], false⟩ _ rfl rfl rfl (Lx.nil _)))
theorem alive2 : parR (.ok [⟨2, 0, [], [97], true⟩, text 11 [120], ⟨8, 12, [], [], false⟩]) = .ok [nd ⟨2, 0, [], [97], true⟩ false [nd (text 11 [120]) false [] []] []] := rfl
theorem alive3 : fmtNs [nd ⟨2, 0, [], [97], true⟩ false [nd (text 11 [120]) false [] []] []] = [123, 123, 105, 102, 32, 46, 97, 125, 125, 120, 123, 123, 101, 110, 100, 125, 125] := by
  rw [fmtNs_cons, fmtN_nd, fmtNs_cons, fmtN_nd, fmtNs_nil]
  rfl
/-- What a row of parsed nodes is like. -/
theorem PdP.row {l : List NT} {w : World} {e : Ending} {w' : World} (h : PdP l w e w') : Bel w w' ∧ ∃ A c m, e = .returned (.slice A m.length c) ∧ Row w' (Lt w') A c m ∧ ers m = l := by
  obtain ⟨hb, A, c, m, h1, h2, h3⟩ := h
  exact ⟨hb, A, c, m, h1, h2.lt, h3⟩
theorem pf_c {l m : List NT} (hl : Parsed l) (he : ers m = l) {A : Option Addr} {c : Nat} {w : World} (hA : Row w (Lt w) A c m) :
    Calls Try.prog 9 #[.slice A m.length c] w fun e w' => e = .returned (.string (ofL (fmtNs l))) ∧ Bel w w' := by
  have h : fmtNs m = fmtNs l := by rw [← he, fmtNs_ers]
  have := pformat_c hA (ng_ers hl.ng he) (wn_ers hl.wn he) (by rw [h]; have := hl.again.1; omega)
  rw [h] at this
  exact this
theorem alive_parsed : Parsed [nd ⟨2, 0, [], [97], true⟩ false [nd (text 11 [120]) false [] []] []] := by
  have h := alive1
  unfold LexOf at h
  rw [if_neg (by decide)] at h
  exact ⟨_, _, 2, by decide, h, rfl⟩
set_option maxRecDepth 100000 in
set_option maxHeartbeats 3200000 in
theorem alive_c (w : World) : Calls Try.prog 8 #[] w fun e w' => e = .returned (.bool true) ∧ Bel w w' := by
  have HP := Lib.hid (fun W => parsed_ok _ (by decide) _ alive1 _ alive2 W)
  obtain ⟨f, hf⟩ : ∃ f, f = ofL (fmtNs [nd ⟨2, 0, [], [97], true⟩ false [nd (text 11 [120]) false [] []] []]) := ⟨_, rfl⟩
  have HF := Lib.hid hf.symm
  have hfl : (f.toList == [123, 123, 105, 102, 32, 46, 97, 125, 125, 120, 123, 123, 101, 110, 100, 125, 125]) = true := by
    rw [hf, alive3, ByteArray.toList_eq]
    rfl
  clear hf
  go_enter Try.func8, Try.ntmps8
  go_wp2_with (first | (go_at_call 7; ((with_reducible refine (HP.out _).mono ?_); rintro e w1 hp; obtain ⟨hb, A, c, m, rfl, hr, he⟩ := hp.row; have HB1 := Lib.hid hb; have HR1 := Lib.hid hr; have HE1 := Lib.hid he; clear hp hb hr he)) | (go_at_call 9; ((with_reducible refine (pf_c alive_parsed HE1.out HR1.out).mono ?_); rintro e w2 ⟨rfl, hb⟩; rw [HF.out]; have HB2 := Lib.hid (HB1.out.trans hb); clear hb)))
  go_ret
  exact ⟨rfl, HB2.out⟩
theorem sameN_ers {l m l' m' : List NT} (h1 : ers l = l') (h2 : ers m = m') : sameN l m = sameN l' m' := by
  have e1 : keys false l = keys false l' := by rw [keys_false, keys_false, ← h1, strips_ers]
  have e2 : keys false m = keys false m' := by rw [keys_false, keys_false, ← h2, strips_ers]
  by_cases h : keys false l' = keys false m'
  · rw [sameN_yes h, sameN_yes (by rw [e1, e2, h])]
  · rw [sameN_no h, sameN_no (by rw [e1, e2]; exact h)]
theorem pe_c {l m l' m' : List NT} (h1 : ers l = l') (h2 : ers m = m') (hp : Parsed m') {A B : Option Addr} {c d : Nat} {w : World} (hA : Row w (Lt w) A c l) (hB : Row w (Lt w) B d m) :
    Calls Try.prog 14 #[.slice A l.length c, .slice B m.length d] w fun e w' => e = .returned (.bool (sameN l' m')) ∧ Bel w w' := by
  rw [← sameN_ers h1 h2]
  exact pequal_c hA hB (by rw [← tots_ers, h2]; have := hp.tots; omega)
theorem re_c {l m l' m' : List NT} (h1 : ers l = l') (h2 : ers m = m') {A B : Option Addr} {c d : Nat} {w : World} (hA : Row w (Lt w) A c l) (hB : Row w (Lt w) B d m) :
    Calls Try.prog 13 #[.slice A l.length c, .slice B m.length d, .bool false] w fun e w' => e = .returned (.bool (sameN l' m')) ∧ Bel w w' := by
  rw [← sameN_ers h1 h2]
  exact equalA_c hA hB
end Go.Proofs.Ythbcjljkpnkakaa
