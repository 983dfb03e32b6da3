/-
  Contract: the reference's form, leaf by leaf (gen_form.py writes it).
-/
import Derived.Test.YtkiefgifbkpcfaaDoorRf11
namespace Go.Proofs.YtkiefgifbkpcfaaDoor
open Go.RowKit Go.BigFrame
set_option linter.unusedVariables false
set_option linter.unusedSimpArgs false
attribute [local go_sem ↓] sliced_cut run_min2 run_max2
attribute [local go_sem] cutA_zero
section
variable {w : World} {g o c : Nat}
set_option maxRecDepth 100000 in
set_option maxHeartbeats 1600000 in
theorem form_2_0_ (hg : g < w.heap.size) (hc0 : w.cell? ⟨g, o, none⟩ = some (.string ⟨#[105, 102]⟩)) (hnc : 1 ≤ c) (hc : c ≤ maxLen) : Calls Tryd.prog 21 #[.slice (some ⟨g, o, none⟩) 1 c] w (FormPost [[105, 102]] w) := by
  have h0 := cell_two hg hc0
  have HF : Hid (formW [[105, 102]] = none) := Lib.hid (by rw [formW1]; simp [kw, isP_cons])
  clear hg hc0
  go_enter Tryd.func21, Tryd.ntmps21
  go_wp2_with (fail)
  refine bodyPost_ret (done3 rfl rfl rfl rfl (one5 _ _ _ _ _) ((Blk.new w 35 [_, _, _, _, _]).alloc _)) rfl ?_
  refine ⟨(Bel.alloc w _).trans (Bel.alloc _ _), ?_⟩
  rw [HF.out]
  exact ⟨_, _, _, _, _, rfl⟩
set_option maxRecDepth 100000 in
set_option maxHeartbeats 1600000 in
theorem form_2_1_n (x : ByteArray) (hg : g < w.heap.size) (hc0 : w.cell? ⟨g, o, none⟩ = some (.string ⟨#[105, 102]⟩)) (hc1 : w.cell? ⟨g, o + 1, none⟩ = some (.string x)) (hnc : 2 ≤ c) (hc : c ≤ maxLen) (hs1 : 0 < x.size ∧ x.size ≤ 70000) (hp1 : isP (toL x) = false) : Calls Tryd.prog 21 #[.slice (some ⟨g, o, none⟩) 2 c] w (FormPost [[105, 102], toL x] w) := by
  have h0 := cell_two hg hc0
  have h1 := cell_two hg hc1
  have hcut1 : cutA c 1 1 (some ⟨g, o, none⟩) = some ⟨g, o + 1, none⟩ := cutA_some g o (by omega)
  have HP1 := Lib.hid (fun W => refPath_c x W hs1.1)
  rw [hp1] at HP1
  have HF : Hid (formW [[105, 102], toL x] = none) := Lib.hid (by rw [formW2]; simp [kw, isP_cons, hp1])
  clear hg hc0 hc1 hp1 hs1
  go_enter Tryd.func21, Tryd.ntmps21
  go_wp2_with (first | (go_at_call 34; ((with_reducible refine (HP1.out _).mono ?_); rintro e w3 ⟨rfl, rfl⟩)))
  refine bodyPost_ret (done3 rfl rfl rfl rfl (one5 _ _ _ _ _) ((Blk.new w 35 [_, _, _, _, _]).alloc _)) rfl ?_
  refine ⟨(Bel.alloc w _).trans (Bel.alloc _ _), ?_⟩
  rw [HF.out]
  exact ⟨_, _, _, _, _, rfl⟩
set_option maxRecDepth 100000 in
set_option maxHeartbeats 1600000 in
theorem form_2_1_p (x : ByteArray) (hg : g < w.heap.size) (hc0 : w.cell? ⟨g, o, none⟩ = some (.string ⟨#[105, 102]⟩)) (hc1 : w.cell? ⟨g, o + 1, none⟩ = some (.string x)) (hnc : 2 ≤ c) (hc : c ≤ maxLen) (hs1 : 0 < x.size ∧ x.size ≤ 70000) (hp1 : isP (toL x) = true) : Calls Tryd.prog 21 #[.slice (some ⟨g, o, none⟩) 2 c] w (FormPost [[105, 102], toL x] w) := by
  have h0 := cell_two hg hc0
  have h1 := cell_two hg hc1
  have hcut1 : cutA c 1 1 (some ⟨g, o, none⟩) = some ⟨g, o + 1, none⟩ := cutA_some g o (by omega)
  have HP1 := Lib.hid (fun W => refPath_c x W hs1.1)
  rw [hp1] at HP1
  have HF : Hid (formW [[105, 102], toL x] = some (2, [], some (toL x).tail)) := Lib.hid (by rw [formW2]; simp [kw, isP_cons, hp1])
  have hez : (x.extract 1 x.size).size ≤ 2000000 := by simp; omega
  have hx1 : 1 ≤ x.size := hs1.1
  have HSP := Lib.hid (fun W => refSplit_c (x.extract 1 x.size) W hez)
  have HTE := Lib.hid (tail_extract x)
  have HTP := Lib.hid (tail_path x)
  clear hez
  clear hg hc0 hc1 hp1 hs1
  cases hq : pathOf (x.extract 1 x.size) with
  | none =>
    have HQ := Lib.hid hq
    clear hq
    go_enter Tryd.func21, Tryd.ntmps21
    go_wp2_with (first | (go_at_call 34; ((with_reducible refine (HP1.out _).mono ?_); rintro e w3 ⟨rfl, rfl⟩)) | (go_at_call 36; refine (HSP.out _).mono ?_; rintro e w4 ⟨hb, hm⟩; rw [HQ.out] at hm; obtain rfl := hm; obtain ⟨hz, ht, hb2⟩ := two_blks hb; have HZ4 := Lib.hid hz; have HB4 := Lib.hid hb2; obtain ⟨t0, t1, t2, t3, t4⟩ := cells5 ht; obtain ⟨z0, z1, z2, z3, z4⟩ := cells5 hz; obtain ⟨y0, y1, y2, y3, y4⟩ := frees5 hz; clear hb hz ht hb2))
    refine bodyPost_ret (done3 rfl rfl rfl rfl (one5 _ _ _ _ _) (set5 HZ4.out _ _ _ _ _)) rfl ?_
    refine ⟨bel_on1 HB4.out (only5 _ _ _ _ _ _ _) (Nat.le_refl _), ?_⟩
    rw [HF.out]
    dsimp only
    rw [ok_path 2 rfl, HTP.out, HQ.out]
    rw [show (some (toL x).tail).getD [] = (toL x).tail from rfl, HTE.out]
    rfl
  | some l =>
    have HQ := Lib.hid hq
    clear hq
    go_enter Tryd.func21, Tryd.ntmps21
    go_wp2_with (first | (go_at_call 34; ((with_reducible refine (HP1.out _).mono ?_); rintro e w3 ⟨rfl, rfl⟩)) | (go_at_call 36; refine (HSP.out _).mono ?_; rintro e w4 ⟨hb, hm⟩; rw [HQ.out] at hm; obtain ⟨A4, c4, rfl, _⟩ := hm; obtain ⟨hz, ht, hb2⟩ := two_blks hb; have HZ4 := Lib.hid hz; have HB4 := Lib.hid hb2; obtain ⟨t0, t1, t2, t3, t4⟩ := cells5 ht; obtain ⟨z0, z1, z2, z3, z4⟩ := cells5 hz; obtain ⟨y0, y1, y2, y3, y4⟩ := frees5 hz; clear hb hz ht hb2))
    refine bodyPost_ret (done3 rfl rfl rfl rfl (one5 _ _ _ _ _) (set5 HZ4.out _ _ _ _ _)) rfl ?_
    refine ⟨bel_on1 HB4.out (only5 _ _ _ _ _ _ _) (Nat.le_refl _), ?_⟩
    rw [HF.out]
    dsimp only
    rw [ok_path 2 rfl, HTP.out, HQ.out]
    rw [show (some (toL x).tail).getD [] = (toL x).tail from rfl, HTE.out]
    rfl
set_option maxRecDepth 100000 in
set_option maxHeartbeats 1600000 in
theorem form_2_1m_n (x : ByteArray) (r : List ByteArray) (m : Nat) (hm : 2 < m) (hg : g < w.heap.size) (hc0 : w.cell? ⟨g, o, none⟩ = some (.string ⟨#[105, 102]⟩)) (hc1 : w.cell? ⟨g, o + 1, none⟩ = some (.string x)) (hnc : m ≤ c) (hc : c ≤ maxLen) (hs1 : 0 < x.size ∧ x.size ≤ 70000) (hp1 : isP (toL x) = false) (hF : formW ([105, 102] :: toL x :: r.map toL) = none) : Calls Tryd.prog 21 #[.slice (some ⟨g, o, none⟩) m c] w (FormPost ([105, 102] :: toL x :: r.map toL) w) := by
  have h0 := cell_two hg hc0
  have h1 := cell_two hg hc1
  have hcut1 : cutA c 1 1 (some ⟨g, o, none⟩) = some ⟨g, o + 1, none⟩ := cutA_some g o (by omega)
  have HP1 := Lib.hid (fun W => refPath_c x W hs1.1)
  rw [hp1] at HP1
  have HF := Lib.hid hF
  have hm1 : ¬ m = 0 := by omega
  have hm2 : ¬ m - 1 = 0 := by omega
  have hb1 : ((m : Int) == 0) = false := by rw [beq_eq_false_iff_ne]; omega
  have hb2 : (((m - 1 : Nat) : Int) == 0) = false := by rw [beq_eq_false_iff_ne]; omega
  have hm3 : ¬ m - 1 - 1 = 0 := by omega
  have hb3 : (((m - 1 - 1 : Nat) : Int) == 0) = false := by rw [beq_eq_false_iff_ne]; omega
  clear hg hc0 hc1 hF hp1 hs1
  go_enter Tryd.func21, Tryd.ntmps21
  go_wp2_with (first | (go_at_call 34; ((with_reducible refine (HP1.out _).mono ?_); rintro e w3 ⟨rfl, rfl⟩)))
  refine bodyPost_ret (done3 rfl rfl rfl rfl (one5 _ _ _ _ _) ((Blk.new w 35 [_, _, _, _, _]).alloc _)) rfl ?_
  refine ⟨(Bel.alloc w _).trans (Bel.alloc _ _), ?_⟩
  rw [HF.out]
  exact ⟨_, _, _, _, _, rfl⟩
set_option maxRecDepth 100000 in
set_option maxHeartbeats 1600000 in
theorem form_2_1m_p (x : ByteArray) (r : List ByteArray) (m : Nat) (hm : 2 < m) (hg : g < w.heap.size) (hc0 : w.cell? ⟨g, o, none⟩ = some (.string ⟨#[105, 102]⟩)) (hc1 : w.cell? ⟨g, o + 1, none⟩ = some (.string x)) (hnc : m ≤ c) (hc : c ≤ maxLen) (hs1 : 0 < x.size ∧ x.size ≤ 70000) (hp1 : isP (toL x) = true) (hF : formW ([105, 102] :: toL x :: r.map toL) = none) : Calls Tryd.prog 21 #[.slice (some ⟨g, o, none⟩) m c] w (FormPost ([105, 102] :: toL x :: r.map toL) w) := by
  have h0 := cell_two hg hc0
  have h1 := cell_two hg hc1
  have hcut1 : cutA c 1 1 (some ⟨g, o, none⟩) = some ⟨g, o + 1, none⟩ := cutA_some g o (by omega)
  have HP1 := Lib.hid (fun W => refPath_c x W hs1.1)
  rw [hp1] at HP1
  have HF := Lib.hid hF
  have hm1 : ¬ m = 0 := by omega
  have hm2 : ¬ m - 1 = 0 := by omega
  have hb1 : ((m : Int) == 0) = false := by rw [beq_eq_false_iff_ne]; omega
  have hb2 : (((m - 1 : Nat) : Int) == 0) = false := by rw [beq_eq_false_iff_ne]; omega
  have hm3 : ¬ m - 1 - 1 = 0 := by omega
  have hb3 : (((m - 1 - 1 : Nat) : Int) == 0) = false := by rw [beq_eq_false_iff_ne]; omega
  have hez : (x.extract 1 x.size).size ≤ 2000000 := by simp; omega
  have hx1 : 1 ≤ x.size := hs1.1
  have HSP := Lib.hid (fun W => refSplit_c (x.extract 1 x.size) W hez)
  have HTE := Lib.hid (tail_extract x)
  have HTP := Lib.hid (tail_path x)
  clear hez
  clear hg hc0 hc1 hF hp1 hs1
  cases hq : pathOf (x.extract 1 x.size) with
  | none =>
    have HQ := Lib.hid hq
    clear hq
    go_enter Tryd.func21, Tryd.ntmps21
    go_wp2_with (first | (go_at_call 34; ((with_reducible refine (HP1.out _).mono ?_); rintro e w3 ⟨rfl, rfl⟩)) | (go_at_call 36; refine (HSP.out _).mono ?_; rintro e w4 ⟨hb, hm⟩; rw [HQ.out] at hm; obtain rfl := hm; obtain ⟨hz, ht, hb2⟩ := two_blks hb; have HZ4 := Lib.hid hz; have HB4 := Lib.hid hb2; obtain ⟨t0, t1, t2, t3, t4⟩ := cells5 ht; obtain ⟨z0, z1, z2, z3, z4⟩ := cells5 hz; obtain ⟨y0, y1, y2, y3, y4⟩ := frees5 hz; clear hb hz ht hb2))
    refine bodyPost_ret (done3 rfl rfl rfl rfl (one5 _ _ _ _ _) (set5 HZ4.out _ _ _ _ _)) rfl ?_
    refine ⟨bel_on1 HB4.out (only5 _ _ _ _ _ _ _) (Nat.le_refl _), ?_⟩
    rw [HF.out]
    exact ⟨_, _, _, _, _, rfl⟩
  | some l =>
    have HQ := Lib.hid hq
    clear hq
    go_enter Tryd.func21, Tryd.ntmps21
    go_wp2_with (first | (go_at_call 34; ((with_reducible refine (HP1.out _).mono ?_); rintro e w3 ⟨rfl, rfl⟩)) | (go_at_call 36; refine (HSP.out _).mono ?_; rintro e w4 ⟨hb, hm⟩; rw [HQ.out] at hm; obtain ⟨A4, c4, rfl, _⟩ := hm; obtain ⟨hz, ht, hb2⟩ := two_blks hb; have HZ4 := Lib.hid hz; have HB4 := Lib.hid hb2; obtain ⟨t0, t1, t2, t3, t4⟩ := cells5 ht; obtain ⟨z0, z1, z2, z3, z4⟩ := cells5 hz; obtain ⟨y0, y1, y2, y3, y4⟩ := frees5 hz; clear hb hz ht hb2))
    refine bodyPost_ret (done3 rfl rfl rfl rfl (one5 _ _ _ _ _) (set5 HZ4.out _ _ _ _ _)) rfl ?_
    refine ⟨bel_on1 HB4.out (only5 _ _ _ _ _ _ _) (Nat.le_refl _), ?_⟩
    rw [HF.out]
    exact ⟨_, _, _, _, _, rfl⟩
set_option maxRecDepth 100000 in
set_option maxHeartbeats 1600000 in
theorem form_3_0_ (hg : g < w.heap.size) (hc0 : w.cell? ⟨g, o, none⟩ = some (.string ⟨#[114, 97, 110, 103, 101]⟩)) (hnc : 1 ≤ c) (hc : c ≤ maxLen) : Calls Tryd.prog 21 #[.slice (some ⟨g, o, none⟩) 1 c] w (FormPost [[114, 97, 110, 103, 101]] w) := by
  have h0 := cell_two hg hc0
  have HF : Hid (formW [[114, 97, 110, 103, 101]] = none) := Lib.hid (by rw [formW1]; simp [kw, isP_cons])
  clear hg hc0
  go_enter Tryd.func21, Tryd.ntmps21
  go_wp2_with (fail)
  refine bodyPost_ret (done3 rfl rfl rfl rfl (one5 _ _ _ _ _) ((Blk.new w 35 [_, _, _, _, _]).alloc _)) rfl ?_
  refine ⟨(Bel.alloc w _).trans (Bel.alloc _ _), ?_⟩
  rw [HF.out]
  exact ⟨_, _, _, _, _, rfl⟩
set_option maxRecDepth 100000 in
set_option maxHeartbeats 1600000 in
theorem form_3_1_n (x : ByteArray) (hg : g < w.heap.size) (hc0 : w.cell? ⟨g, o, none⟩ = some (.string ⟨#[114, 97, 110, 103, 101]⟩)) (hc1 : w.cell? ⟨g, o + 1, none⟩ = some (.string x)) (hnc : 2 ≤ c) (hc : c ≤ maxLen) (hs1 : 0 < x.size ∧ x.size ≤ 70000) (hp1 : isP (toL x) = false) : Calls Tryd.prog 21 #[.slice (some ⟨g, o, none⟩) 2 c] w (FormPost [[114, 97, 110, 103, 101], toL x] w) := by
  have h0 := cell_two hg hc0
  have h1 := cell_two hg hc1
  have hcut1 : cutA c 1 1 (some ⟨g, o, none⟩) = some ⟨g, o + 1, none⟩ := cutA_some g o (by omega)
  have HP1 := Lib.hid (fun W => refPath_c x W hs1.1)
  rw [hp1] at HP1
  have HF : Hid (formW [[114, 97, 110, 103, 101], toL x] = none) := Lib.hid (by rw [formW2]; simp [kw, isP_cons, hp1])
  clear hg hc0 hc1 hp1 hs1
  go_enter Tryd.func21, Tryd.ntmps21
  go_wp2_with (first | (go_at_call 34; ((with_reducible refine (HP1.out _).mono ?_); rintro e w3 ⟨rfl, rfl⟩)))
  refine bodyPost_ret (done3 rfl rfl rfl rfl (one5 _ _ _ _ _) ((Blk.new w 35 [_, _, _, _, _]).alloc _)) rfl ?_
  refine ⟨(Bel.alloc w _).trans (Bel.alloc _ _), ?_⟩
  rw [HF.out]
  exact ⟨_, _, _, _, _, rfl⟩
set_option maxRecDepth 100000 in
set_option maxHeartbeats 1600000 in
theorem form_3_1_p (x : ByteArray) (hg : g < w.heap.size) (hc0 : w.cell? ⟨g, o, none⟩ = some (.string ⟨#[114, 97, 110, 103, 101]⟩)) (hc1 : w.cell? ⟨g, o + 1, none⟩ = some (.string x)) (hnc : 2 ≤ c) (hc : c ≤ maxLen) (hs1 : 0 < x.size ∧ x.size ≤ 70000) (hp1 : isP (toL x) = true) : Calls Tryd.prog 21 #[.slice (some ⟨g, o, none⟩) 2 c] w (FormPost [[114, 97, 110, 103, 101], toL x] w) := by
  have h0 := cell_two hg hc0
  have h1 := cell_two hg hc1
  have hcut1 : cutA c 1 1 (some ⟨g, o, none⟩) = some ⟨g, o + 1, none⟩ := cutA_some g o (by omega)
  have HP1 := Lib.hid (fun W => refPath_c x W hs1.1)
  rw [hp1] at HP1
  have HF : Hid (formW [[114, 97, 110, 103, 101], toL x] = some (3, [], some (toL x).tail)) := Lib.hid (by rw [formW2]; simp [kw, isP_cons, hp1])
  have hez : (x.extract 1 x.size).size ≤ 2000000 := by simp; omega
  have hx1 : 1 ≤ x.size := hs1.1
  have HSP := Lib.hid (fun W => refSplit_c (x.extract 1 x.size) W hez)
  have HTE := Lib.hid (tail_extract x)
  have HTP := Lib.hid (tail_path x)
  clear hez
  clear hg hc0 hc1 hp1 hs1
  cases hq : pathOf (x.extract 1 x.size) with
  | none =>
    have HQ := Lib.hid hq
    clear hq
    go_enter Tryd.func21, Tryd.ntmps21
    go_wp2_with (first | (go_at_call 34; ((with_reducible refine (HP1.out _).mono ?_); rintro e w3 ⟨rfl, rfl⟩)) | (go_at_call 36; refine (HSP.out _).mono ?_; rintro e w4 ⟨hb, hm⟩; rw [HQ.out] at hm; obtain rfl := hm; obtain ⟨hz, ht, hb2⟩ := two_blks hb; have HZ4 := Lib.hid hz; have HB4 := Lib.hid hb2; obtain ⟨t0, t1, t2, t3, t4⟩ := cells5 ht; obtain ⟨z0, z1, z2, z3, z4⟩ := cells5 hz; obtain ⟨y0, y1, y2, y3, y4⟩ := frees5 hz; clear hb hz ht hb2))
    refine bodyPost_ret (done3 rfl rfl rfl rfl (one5 _ _ _ _ _) (set5 HZ4.out _ _ _ _ _)) rfl ?_
    refine ⟨bel_on1 HB4.out (only5 _ _ _ _ _ _ _) (Nat.le_refl _), ?_⟩
    rw [HF.out]
    dsimp only
    rw [ok_path 3 rfl, HTP.out, HQ.out]
    rw [show (some (toL x).tail).getD [] = (toL x).tail from rfl, HTE.out]
    rfl
  | some l =>
    have HQ := Lib.hid hq
    clear hq
    go_enter Tryd.func21, Tryd.ntmps21
    go_wp2_with (first | (go_at_call 34; ((with_reducible refine (HP1.out _).mono ?_); rintro e w3 ⟨rfl, rfl⟩)) | (go_at_call 36; refine (HSP.out _).mono ?_; rintro e w4 ⟨hb, hm⟩; rw [HQ.out] at hm; obtain ⟨A4, c4, rfl, _⟩ := hm; obtain ⟨hz, ht, hb2⟩ := two_blks hb; have HZ4 := Lib.hid hz; have HB4 := Lib.hid hb2; obtain ⟨t0, t1, t2, t3, t4⟩ := cells5 ht; obtain ⟨z0, z1, z2, z3, z4⟩ := cells5 hz; obtain ⟨y0, y1, y2, y3, y4⟩ := frees5 hz; clear hb hz ht hb2))
    refine bodyPost_ret (done3 rfl rfl rfl rfl (one5 _ _ _ _ _) (set5 HZ4.out _ _ _ _ _)) rfl ?_
    refine ⟨bel_on1 HB4.out (only5 _ _ _ _ _ _ _) (Nat.le_refl _), ?_⟩
    rw [HF.out]
    dsimp only
    rw [ok_path 3 rfl, HTP.out, HQ.out]
    rw [show (some (toL x).tail).getD [] = (toL x).tail from rfl, HTE.out]
    rfl
set_option maxRecDepth 100000 in
set_option maxHeartbeats 1600000 in
theorem form_3_1m_n (x : ByteArray) (r : List ByteArray) (m : Nat) (hm : 2 < m) (hg : g < w.heap.size) (hc0 : w.cell? ⟨g, o, none⟩ = some (.string ⟨#[114, 97, 110, 103, 101]⟩)) (hc1 : w.cell? ⟨g, o + 1, none⟩ = some (.string x)) (hnc : m ≤ c) (hc : c ≤ maxLen) (hs1 : 0 < x.size ∧ x.size ≤ 70000) (hp1 : isP (toL x) = false) (hF : formW ([114, 97, 110, 103, 101] :: toL x :: r.map toL) = none) : Calls Tryd.prog 21 #[.slice (some ⟨g, o, none⟩) m c] w (FormPost ([114, 97, 110, 103, 101] :: toL x :: r.map toL) w) := by
  have h0 := cell_two hg hc0
  have h1 := cell_two hg hc1
  have hcut1 : cutA c 1 1 (some ⟨g, o, none⟩) = some ⟨g, o + 1, none⟩ := cutA_some g o (by omega)
  have HP1 := Lib.hid (fun W => refPath_c x W hs1.1)
  rw [hp1] at HP1
  have HF := Lib.hid hF
  have hm1 : ¬ m = 0 := by omega
  have hm2 : ¬ m - 1 = 0 := by omega
  have hb1 : ((m : Int) == 0) = false := by rw [beq_eq_false_iff_ne]; omega
  have hb2 : (((m - 1 : Nat) : Int) == 0) = false := by rw [beq_eq_false_iff_ne]; omega
  have hm3 : ¬ m - 1 - 1 = 0 := by omega
  have hb3 : (((m - 1 - 1 : Nat) : Int) == 0) = false := by rw [beq_eq_false_iff_ne]; omega
  clear hg hc0 hc1 hF hp1 hs1
  go_enter Tryd.func21, Tryd.ntmps21
  go_wp2_with (first | (go_at_call 34; ((with_reducible refine (HP1.out _).mono ?_); rintro e w3 ⟨rfl, rfl⟩)))
  refine bodyPost_ret (done3 rfl rfl rfl rfl (one5 _ _ _ _ _) ((Blk.new w 35 [_, _, _, _, _]).alloc _)) rfl ?_
  refine ⟨(Bel.alloc w _).trans (Bel.alloc _ _), ?_⟩
  rw [HF.out]
  exact ⟨_, _, _, _, _, rfl⟩
set_option maxRecDepth 100000 in
set_option maxHeartbeats 1600000 in
theorem form_3_1m_p (x : ByteArray) (r : List ByteArray) (m : Nat) (hm : 2 < m) (hg : g < w.heap.size) (hc0 : w.cell? ⟨g, o, none⟩ = some (.string ⟨#[114, 97, 110, 103, 101]⟩)) (hc1 : w.cell? ⟨g, o + 1, none⟩ = some (.string x)) (hnc : m ≤ c) (hc : c ≤ maxLen) (hs1 : 0 < x.size ∧ x.size ≤ 70000) (hp1 : isP (toL x) = true) (hF : formW ([114, 97, 110, 103, 101] :: toL x :: r.map toL) = none) : Calls Tryd.prog 21 #[.slice (some ⟨g, o, none⟩) m c] w (FormPost ([114, 97, 110, 103, 101] :: toL x :: r.map toL) w) := by
  have h0 := cell_two hg hc0
  have h1 := cell_two hg hc1
  have hcut1 : cutA c 1 1 (some ⟨g, o, none⟩) = some ⟨g, o + 1, none⟩ := cutA_some g o (by omega)
  have HP1 := Lib.hid (fun W => refPath_c x W hs1.1)
  rw [hp1] at HP1
  have HF := Lib.hid hF
  have hm1 : ¬ m = 0 := by omega
  have hm2 : ¬ m - 1 = 0 := by omega
  have hb1 : ((m : Int) == 0) = false := by rw [beq_eq_false_iff_ne]; omega
  have hb2 : (((m - 1 : Nat) : Int) == 0) = false := by rw [beq_eq_false_iff_ne]; omega
  have hm3 : ¬ m - 1 - 1 = 0 := by omega
  have hb3 : (((m - 1 - 1 : Nat) : Int) == 0) = false := by rw [beq_eq_false_iff_ne]; omega
  have hez : (x.extract 1 x.size).size ≤ 2000000 := by simp; omega
  have hx1 : 1 ≤ x.size := hs1.1
  have HSP := Lib.hid (fun W => refSplit_c (x.extract 1 x.size) W hez)
  have HTE := Lib.hid (tail_extract x)
  have HTP := Lib.hid (tail_path x)
  clear hez
  clear hg hc0 hc1 hF hp1 hs1
  cases hq : pathOf (x.extract 1 x.size) with
  | none =>
    have HQ := Lib.hid hq
    clear hq
    go_enter Tryd.func21, Tryd.ntmps21
    go_wp2_with (first | (go_at_call 34; ((with_reducible refine (HP1.out _).mono ?_); rintro e w3 ⟨rfl, rfl⟩)) | (go_at_call 36; refine (HSP.out _).mono ?_; rintro e w4 ⟨hb, hm⟩; rw [HQ.out] at hm; obtain rfl := hm; obtain ⟨hz, ht, hb2⟩ := two_blks hb; have HZ4 := Lib.hid hz; have HB4 := Lib.hid hb2; obtain ⟨t0, t1, t2, t3, t4⟩ := cells5 ht; obtain ⟨z0, z1, z2, z3, z4⟩ := cells5 hz; obtain ⟨y0, y1, y2, y3, y4⟩ := frees5 hz; clear hb hz ht hb2))
    refine bodyPost_ret (done3 rfl rfl rfl rfl (one5 _ _ _ _ _) (set5 HZ4.out _ _ _ _ _)) rfl ?_
    refine ⟨bel_on1 HB4.out (only5 _ _ _ _ _ _ _) (Nat.le_refl _), ?_⟩
    rw [HF.out]
    exact ⟨_, _, _, _, _, rfl⟩
  | some l =>
    have HQ := Lib.hid hq
    clear hq
    go_enter Tryd.func21, Tryd.ntmps21
    go_wp2_with (first | (go_at_call 34; ((with_reducible refine (HP1.out _).mono ?_); rintro e w3 ⟨rfl, rfl⟩)) | (go_at_call 36; refine (HSP.out _).mono ?_; rintro e w4 ⟨hb, hm⟩; rw [HQ.out] at hm; obtain ⟨A4, c4, rfl, _⟩ := hm; obtain ⟨hz, ht, hb2⟩ := two_blks hb; have HZ4 := Lib.hid hz; have HB4 := Lib.hid hb2; obtain ⟨t0, t1, t2, t3, t4⟩ := cells5 ht; obtain ⟨z0, z1, z2, z3, z4⟩ := cells5 hz; obtain ⟨y0, y1, y2, y3, y4⟩ := frees5 hz; clear hb hz ht hb2))
    refine bodyPost_ret (done3 rfl rfl rfl rfl (one5 _ _ _ _ _) (set5 HZ4.out _ _ _ _ _)) rfl ?_
    refine ⟨bel_on1 HB4.out (only5 _ _ _ _ _ _ _) (Nat.le_refl _), ?_⟩
    rw [HF.out]
    exact ⟨_, _, _, _, _, rfl⟩
end
end Go.Proofs.YtkiefgifbkpcfaaDoor
