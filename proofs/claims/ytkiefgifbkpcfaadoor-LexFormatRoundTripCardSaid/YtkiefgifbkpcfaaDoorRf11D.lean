/-
  Contract: the reference's form, leaf by leaf (gen_form.py writes it).
-/
import Derived.Test.YtkiefgifbkpcfaaDoorRf11
namespace Go.Proofs.YtkiefgifbkpcfaaDoor
open Go.RowKit Go.BigFrame
set_option linter.unusedVariables false
set_option linter.unusedSimpArgs false
attribute [local go_sem ↓] sliced_cut run_min2 run_max2
attribute [local go_sem] cutA_zero
section
variable {w : World} {g o c : Nat}
set_option maxRecDepth 100000 in
set_option maxHeartbeats 1600000 in
theorem form_1_0_ (w0 : ByteArray) (hg : g < w.heap.size) (hc0 : w.cell? ⟨g, o, none⟩ = some (.string w0)) (hnc : 1 ≤ c) (hc : c ≤ maxLen) (hs0 : 0 < w0.size ∧ w0.size ≤ 70000) (hp0 : isP (toL w0) = true) (hk0 : kw (toL w0) = 1) (d0 : w0 ≠ ⟨#[105, 102]⟩ ∧ w0 ≠ ⟨#[114, 97, 110, 103, 101]⟩ ∧ w0 ≠ ⟨#[99, 97, 108, 108]⟩ ∧ w0 ≠ ⟨#[102, 108, 117, 115, 104]⟩ ∧ w0 ≠ ⟨#[100, 101, 102, 105, 110, 101]⟩ ∧ w0 ≠ ⟨#[101, 108, 115, 101]⟩ ∧ w0 ≠ ⟨#[101, 110, 100]⟩) : Calls Tryd.prog 21 #[.slice (some ⟨g, o, none⟩) 1 c] w (FormPost [toL w0] w) := by
  have h0 := cell_two hg hc0
  obtain ⟨d1, d2, d3, d4, d5, d6, d7⟩ := d0
  have e1 : (w0.toList == [105, 102]) = false := lit_ne d1
  have e2 : (w0.toList == [114, 97, 110, 103, 101]) = false := lit_ne d2
  have e3 : (w0.toList == [99, 97, 108, 108]) = false := lit_ne d3
  have e4 : (w0.toList == [102, 108, 117, 115, 104]) = false := lit_ne d4
  have e5 : (w0.toList == [100, 101, 102, 105, 110, 101]) = false := lit_ne d5
  have e6 : (w0.toList == [101, 108, 115, 101]) = false := lit_ne d6
  have e7 : (w0.toList == [101, 110, 100]) = false := lit_ne d7
  clear d1 d2 d3 d4 d5 d6 d7
  have HP0 := Lib.hid (fun W => refPath_c w0 W hs0.1)
  rw [hp0] at HP0
  have HF : Hid (formW [toL w0] = some (1, [], some (toL w0).tail)) := Lib.hid (by rw [formW1]; simp [hk0])
  have hez : (w0.extract 1 w0.size).size ≤ 2000000 := by simp; omega
  have hx1 : 1 ≤ w0.size := hs0.1
  have HSP := Lib.hid (fun W => refSplit_c (w0.extract 1 w0.size) W hez)
  have HTE := Lib.hid (tail_extract w0)
  have HTP := Lib.hid (tail_path w0)
  clear hez
  clear hg hc0 hp0 hs0 hk0
  cases hq : pathOf (w0.extract 1 w0.size) with
  | none =>
    have HQ := Lib.hid hq
    clear hq
    go_enter Tryd.func21, Tryd.ntmps21
    go_wp2_with (first | (go_at_call 34; ((with_reducible refine (HP0.out _).mono ?_); rintro e w3 ⟨rfl, rfl⟩)) | (go_at_call 36; refine (HSP.out _).mono ?_; rintro e w4 ⟨hb, hm⟩; rw [HQ.out] at hm; obtain rfl := hm; obtain ⟨hz, ht, hb2⟩ := two_blks hb; have HZ4 := Lib.hid hz; have HB4 := Lib.hid hb2; obtain ⟨t0, t1, t2, t3, t4⟩ := cells5 ht; obtain ⟨z0, z1, z2, z3, z4⟩ := cells5 hz; obtain ⟨y0, y1, y2, y3, y4⟩ := frees5 hz; clear hb hz ht hb2))
    refine bodyPost_ret (done3 rfl rfl rfl rfl (one5 _ _ _ _ _) (set5 HZ4.out _ _ _ _ _)) rfl ?_
    refine ⟨bel_on1 HB4.out (only5 _ _ _ _ _ _ _) (Nat.le_refl _), ?_⟩
    rw [HF.out]
    dsimp only
    rw [ok_path 1 rfl, HTP.out, HQ.out]
    rw [show (some (toL w0).tail).getD [] = (toL w0).tail from rfl, HTE.out]
    rfl
  | some l =>
    have HQ := Lib.hid hq
    clear hq
    go_enter Tryd.func21, Tryd.ntmps21
    go_wp2_with (first | (go_at_call 34; ((with_reducible refine (HP0.out _).mono ?_); rintro e w3 ⟨rfl, rfl⟩)) | (go_at_call 36; refine (HSP.out _).mono ?_; rintro e w4 ⟨hb, hm⟩; rw [HQ.out] at hm; obtain ⟨A4, c4, rfl, _⟩ := hm; obtain ⟨hz, ht, hb2⟩ := two_blks hb; have HZ4 := Lib.hid hz; have HB4 := Lib.hid hb2; obtain ⟨t0, t1, t2, t3, t4⟩ := cells5 ht; obtain ⟨z0, z1, z2, z3, z4⟩ := cells5 hz; obtain ⟨y0, y1, y2, y3, y4⟩ := frees5 hz; clear hb hz ht hb2))
    refine bodyPost_ret (done3 rfl rfl rfl rfl (one5 _ _ _ _ _) (set5 HZ4.out _ _ _ _ _)) rfl ?_
    refine ⟨bel_on1 HB4.out (only5 _ _ _ _ _ _ _) (Nat.le_refl _), ?_⟩
    rw [HF.out]
    dsimp only
    rw [ok_path 1 rfl, HTP.out, HQ.out]
    rw [show (some (toL w0).tail).getD [] = (toL w0).tail from rfl, HTE.out]
    rfl
set_option maxRecDepth 100000 in
set_option maxHeartbeats 1600000 in
theorem form_1_0m_ (w0 : ByteArray) (r : List ByteArray) (m : Nat) (hm : 1 < m) (hg : g < w.heap.size) (hc0 : w.cell? ⟨g, o, none⟩ = some (.string w0)) (hnc : m ≤ c) (hc : c ≤ maxLen) (hs0 : 0 < w0.size ∧ w0.size ≤ 70000) (hp0 : isP (toL w0) = true) (hk0 : kw (toL w0) = 1) (d0 : w0 ≠ ⟨#[105, 102]⟩ ∧ w0 ≠ ⟨#[114, 97, 110, 103, 101]⟩ ∧ w0 ≠ ⟨#[99, 97, 108, 108]⟩ ∧ w0 ≠ ⟨#[102, 108, 117, 115, 104]⟩ ∧ w0 ≠ ⟨#[100, 101, 102, 105, 110, 101]⟩ ∧ w0 ≠ ⟨#[101, 108, 115, 101]⟩ ∧ w0 ≠ ⟨#[101, 110, 100]⟩) (hF : formW (toL w0 :: r.map toL) = none) : Calls Tryd.prog 21 #[.slice (some ⟨g, o, none⟩) m c] w (FormPost (toL w0 :: r.map toL) w) := by
  have h0 := cell_two hg hc0
  obtain ⟨d1, d2, d3, d4, d5, d6, d7⟩ := d0
  have e1 : (w0.toList == [105, 102]) = false := lit_ne d1
  have e2 : (w0.toList == [114, 97, 110, 103, 101]) = false := lit_ne d2
  have e3 : (w0.toList == [99, 97, 108, 108]) = false := lit_ne d3
  have e4 : (w0.toList == [102, 108, 117, 115, 104]) = false := lit_ne d4
  have e5 : (w0.toList == [100, 101, 102, 105, 110, 101]) = false := lit_ne d5
  have e6 : (w0.toList == [101, 108, 115, 101]) = false := lit_ne d6
  have e7 : (w0.toList == [101, 110, 100]) = false := lit_ne d7
  clear d1 d2 d3 d4 d5 d6 d7
  have HP0 := Lib.hid (fun W => refPath_c w0 W hs0.1)
  rw [hp0] at HP0
  have HF := Lib.hid hF
  have hm1 : ¬ m = 0 := by omega
  have hm2 : ¬ m - 1 = 0 := by omega
  have hb1 : ((m : Int) == 0) = false := by rw [beq_eq_false_iff_ne]; omega
  have hb2 : (((m - 1 : Nat) : Int) == 0) = false := by rw [beq_eq_false_iff_ne]; omega
  have hez : (w0.extract 1 w0.size).size ≤ 2000000 := by simp; omega
  have hx1 : 1 ≤ w0.size := hs0.1
  have HSP := Lib.hid (fun W => refSplit_c (w0.extract 1 w0.size) W hez)
  have HTE := Lib.hid (tail_extract w0)
  have HTP := Lib.hid (tail_path w0)
  clear hez
  clear hg hc0 hF hp0 hs0 hk0
  cases hq : pathOf (w0.extract 1 w0.size) with
  | none =>
    have HQ := Lib.hid hq
    clear hq
    go_enter Tryd.func21, Tryd.ntmps21
    go_wp2_with (first | (go_at_call 34; ((with_reducible refine (HP0.out _).mono ?_); rintro e w3 ⟨rfl, rfl⟩)) | (go_at_call 36; refine (HSP.out _).mono ?_; rintro e w4 ⟨hb, hm⟩; rw [HQ.out] at hm; obtain rfl := hm; obtain ⟨hz, ht, hb2⟩ := two_blks hb; have HZ4 := Lib.hid hz; have HB4 := Lib.hid hb2; obtain ⟨t0, t1, t2, t3, t4⟩ := cells5 ht; obtain ⟨z0, z1, z2, z3, z4⟩ := cells5 hz; obtain ⟨y0, y1, y2, y3, y4⟩ := frees5 hz; clear hb hz ht hb2))
    refine bodyPost_ret (done3 rfl rfl rfl rfl (one5 _ _ _ _ _) (set5 HZ4.out _ _ _ _ _)) rfl ?_
    refine ⟨bel_on1 HB4.out (only5 _ _ _ _ _ _ _) (Nat.le_refl _), ?_⟩
    rw [HF.out]
    exact ⟨_, _, _, _, _, rfl⟩
  | some l =>
    have HQ := Lib.hid hq
    clear hq
    go_enter Tryd.func21, Tryd.ntmps21
    go_wp2_with (first | (go_at_call 34; ((with_reducible refine (HP0.out _).mono ?_); rintro e w3 ⟨rfl, rfl⟩)) | (go_at_call 36; refine (HSP.out _).mono ?_; rintro e w4 ⟨hb, hm⟩; rw [HQ.out] at hm; obtain ⟨A4, c4, rfl, _⟩ := hm; obtain ⟨hz, ht, hb2⟩ := two_blks hb; have HZ4 := Lib.hid hz; have HB4 := Lib.hid hb2; obtain ⟨t0, t1, t2, t3, t4⟩ := cells5 ht; obtain ⟨z0, z1, z2, z3, z4⟩ := cells5 hz; obtain ⟨y0, y1, y2, y3, y4⟩ := frees5 hz; clear hb hz ht hb2))
    refine bodyPost_ret (done3 rfl rfl rfl rfl (one5 _ _ _ _ _) (set5 HZ4.out _ _ _ _ _)) rfl ?_
    refine ⟨bel_on1 HB4.out (only5 _ _ _ _ _ _ _) (Nat.le_refl _), ?_⟩
    rw [HF.out]
    exact ⟨_, _, _, _, _, rfl⟩
set_option maxRecDepth 100000 in
set_option maxHeartbeats 1600000 in
theorem form_0_0_ (w0 : ByteArray) (hg : g < w.heap.size) (hc0 : w.cell? ⟨g, o, none⟩ = some (.string w0)) (hnc : 1 ≤ c) (hc : c ≤ maxLen) (hs0 : 0 < w0.size) (hp0 : isP (toL w0) = false) (hk0 : kw (toL w0) = 0) (d0 : w0 ≠ ⟨#[105, 102]⟩ ∧ w0 ≠ ⟨#[114, 97, 110, 103, 101]⟩ ∧ w0 ≠ ⟨#[99, 97, 108, 108]⟩ ∧ w0 ≠ ⟨#[102, 108, 117, 115, 104]⟩ ∧ w0 ≠ ⟨#[100, 101, 102, 105, 110, 101]⟩ ∧ w0 ≠ ⟨#[101, 108, 115, 101]⟩ ∧ w0 ≠ ⟨#[101, 110, 100]⟩) : Calls Tryd.prog 21 #[.slice (some ⟨g, o, none⟩) 1 c] w (FormPost [toL w0] w) := by
  have h0 := cell_two hg hc0
  obtain ⟨d1, d2, d3, d4, d5, d6, d7⟩ := d0
  have e1 : (w0.toList == [105, 102]) = false := lit_ne d1
  have e2 : (w0.toList == [114, 97, 110, 103, 101]) = false := lit_ne d2
  have e3 : (w0.toList == [99, 97, 108, 108]) = false := lit_ne d3
  have e4 : (w0.toList == [102, 108, 117, 115, 104]) = false := lit_ne d4
  have e5 : (w0.toList == [100, 101, 102, 105, 110, 101]) = false := lit_ne d5
  have e6 : (w0.toList == [101, 108, 115, 101]) = false := lit_ne d6
  have e7 : (w0.toList == [101, 110, 100]) = false := lit_ne d7
  clear d1 d2 d3 d4 d5 d6 d7
  have HP0 := Lib.hid (fun W => refPath_c w0 W hs0)
  rw [hp0] at HP0
  have HF : Hid (formW [toL w0] = none) := Lib.hid (by rw [formW1]; simp [hk0])
  clear hg hc0 hp0 hs0 hk0
  go_enter Tryd.func21, Tryd.ntmps21
  go_wp2_with (first | (go_at_call 34; ((with_reducible refine (HP0.out _).mono ?_); rintro e w3 ⟨rfl, rfl⟩)))
  refine bodyPost_ret (done3 rfl rfl rfl rfl (one5 _ _ _ _ _) ((Blk.new w 35 [_, _, _, _, _]).alloc _)) rfl ?_
  refine ⟨(Bel.alloc w _).trans (Bel.alloc _ _), ?_⟩
  rw [HF.out]
  exact ⟨_, _, _, _, _, rfl⟩
set_option maxRecDepth 100000 in
set_option maxHeartbeats 1600000 in
theorem form_0_0m_ (w0 : ByteArray) (r : List ByteArray) (m : Nat) (hm : 1 < m) (hg : g < w.heap.size) (hc0 : w.cell? ⟨g, o, none⟩ = some (.string w0)) (hnc : m ≤ c) (hc : c ≤ maxLen) (hs0 : 0 < w0.size) (hp0 : isP (toL w0) = false) (hk0 : kw (toL w0) = 0) (d0 : w0 ≠ ⟨#[105, 102]⟩ ∧ w0 ≠ ⟨#[114, 97, 110, 103, 101]⟩ ∧ w0 ≠ ⟨#[99, 97, 108, 108]⟩ ∧ w0 ≠ ⟨#[102, 108, 117, 115, 104]⟩ ∧ w0 ≠ ⟨#[100, 101, 102, 105, 110, 101]⟩ ∧ w0 ≠ ⟨#[101, 108, 115, 101]⟩ ∧ w0 ≠ ⟨#[101, 110, 100]⟩) (hF : formW (toL w0 :: r.map toL) = none) : Calls Tryd.prog 21 #[.slice (some ⟨g, o, none⟩) m c] w (FormPost (toL w0 :: r.map toL) w) := by
  have h0 := cell_two hg hc0
  obtain ⟨d1, d2, d3, d4, d5, d6, d7⟩ := d0
  have e1 : (w0.toList == [105, 102]) = false := lit_ne d1
  have e2 : (w0.toList == [114, 97, 110, 103, 101]) = false := lit_ne d2
  have e3 : (w0.toList == [99, 97, 108, 108]) = false := lit_ne d3
  have e4 : (w0.toList == [102, 108, 117, 115, 104]) = false := lit_ne d4
  have e5 : (w0.toList == [100, 101, 102, 105, 110, 101]) = false := lit_ne d5
  have e6 : (w0.toList == [101, 108, 115, 101]) = false := lit_ne d6
  have e7 : (w0.toList == [101, 110, 100]) = false := lit_ne d7
  clear d1 d2 d3 d4 d5 d6 d7
  have HP0 := Lib.hid (fun W => refPath_c w0 W hs0)
  rw [hp0] at HP0
  have HF := Lib.hid hF
  have hm1 : ¬ m = 0 := by omega
  have hm2 : ¬ m - 1 = 0 := by omega
  have hb1 : ((m : Int) == 0) = false := by rw [beq_eq_false_iff_ne]; omega
  have hb2 : (((m - 1 : Nat) : Int) == 0) = false := by rw [beq_eq_false_iff_ne]; omega
  clear hg hc0 hF hp0 hs0 hk0
  go_enter Tryd.func21, Tryd.ntmps21
  go_wp2_with (first | (go_at_call 34; ((with_reducible refine (HP0.out _).mono ?_); rintro e w3 ⟨rfl, rfl⟩)))
  refine bodyPost_ret (done3 rfl rfl rfl rfl (one5 _ _ _ _ _) ((Blk.new w 35 [_, _, _, _, _]).alloc _)) rfl ?_
  refine ⟨(Bel.alloc w _).trans (Bel.alloc _ _), ?_⟩
  rw [HF.out]
  exact ⟨_, _, _, _, _, rfl⟩
end
end Go.Proofs.YtkiefgifbkpcfaaDoor
