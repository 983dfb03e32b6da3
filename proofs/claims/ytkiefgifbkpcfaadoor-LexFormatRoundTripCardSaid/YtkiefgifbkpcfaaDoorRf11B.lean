/-
  Contract: the reference's form, leaf by leaf (gen_form.py writes it).
-/
import Derived.Test.YtkiefgifbkpcfaaDoorRf11
namespace Go.Proofs.YtkiefgifbkpcfaaDoor
open Go.RowKit Go.BigFrame
set_option linter.unusedVariables false
set_option linter.unusedSimpArgs false
attribute [local go_sem ↓] sliced_cut run_min2 run_max2
attribute [local go_sem] cutA_zero
section
variable {w : World} {g o c : Nat}
set_option maxRecDepth 100000 in
set_option maxHeartbeats 1600000 in
theorem form_4_0_ (hg : g < w.heap.size) (hc0 : w.cell? ⟨g, o, none⟩ = some (.string ⟨#[99, 97, 108, 108]⟩)) (hnc : 1 ≤ c) (hc : c ≤ maxLen) : Calls Tryd.prog 21 #[.slice (some ⟨g, o, none⟩) 1 c] w (FormPost [[99, 97, 108, 108]] w) := by
  have h0 := cell_two hg hc0
  have HF : Hid (formW [[99, 97, 108, 108]] = none) := Lib.hid (by rw [formW1]; simp [kw, isP_cons])
  clear hg hc0
  go_enter Tryd.func21, Tryd.ntmps21
  go_wp2_with (fail)
  refine bodyPost_ret (done3 rfl rfl rfl rfl (one5 _ _ _ _ _) ((Blk.new w 35 [_, _, _, _, _]).alloc _)) rfl ?_
  refine ⟨(Bel.alloc w _).trans (Bel.alloc _ _), ?_⟩
  rw [HF.out]
  exact ⟨_, _, _, _, _, rfl⟩
set_option maxRecDepth 100000 in
set_option maxHeartbeats 1600000 in
theorem form_4_1_p (x : ByteArray) (hg : g < w.heap.size) (hc0 : w.cell? ⟨g, o, none⟩ = some (.string ⟨#[99, 97, 108, 108]⟩)) (hc1 : w.cell? ⟨g, o + 1, none⟩ = some (.string x)) (hnc : 2 ≤ c) (hc : c ≤ maxLen) (hs1 : 0 < x.size ∧ x.size ≤ 70000) (hp1 : isP (toL x) = true) : Calls Tryd.prog 21 #[.slice (some ⟨g, o, none⟩) 2 c] w (FormPost [[99, 97, 108, 108], toL x] w) := by
  have h0 := cell_two hg hc0
  have h1 := cell_two hg hc1
  have hcut1 : cutA c 1 1 (some ⟨g, o, none⟩) = some ⟨g, o + 1, none⟩ := cutA_some g o (by omega)
  have HP1 := Lib.hid (fun W => refPath_c x W hs1.1)
  rw [hp1] at HP1
  have HF : Hid (formW [[99, 97, 108, 108], toL x] = none) := Lib.hid (by rw [formW2]; simp [kw, isP_cons, hp1])
  clear hg hc0 hc1 hp1 hs1
  go_enter Tryd.func21, Tryd.ntmps21
  go_wp2_with (first | (go_at_call 34; ((with_reducible refine (HP1.out _).mono ?_); rintro e w3 ⟨rfl, rfl⟩)))
  refine bodyPost_ret (done3 rfl rfl rfl rfl (one5 _ _ _ _ _) ((Blk.new w 35 [_, _, _, _, _]).alloc _)) rfl ?_
  refine ⟨(Bel.alloc w _).trans (Bel.alloc _ _), ?_⟩
  rw [HF.out]
  exact ⟨_, _, _, _, _, rfl⟩
set_option maxRecDepth 100000 in
set_option maxHeartbeats 1600000 in
theorem form_4_1m_p (x : ByteArray) (r : List ByteArray) (m : Nat) (hm : 2 < m) (hg : g < w.heap.size) (hc0 : w.cell? ⟨g, o, none⟩ = some (.string ⟨#[99, 97, 108, 108]⟩)) (hc1 : w.cell? ⟨g, o + 1, none⟩ = some (.string x)) (hnc : m ≤ c) (hc : c ≤ maxLen) (hs1 : 0 < x.size ∧ x.size ≤ 70000) (hp1 : isP (toL x) = true) (hF : formW ([99, 97, 108, 108] :: toL x :: r.map toL) = none) : Calls Tryd.prog 21 #[.slice (some ⟨g, o, none⟩) m c] w (FormPost ([99, 97, 108, 108] :: toL x :: r.map toL) w) := by
  have h0 := cell_two hg hc0
  have h1 := cell_two hg hc1
  have hcut1 : cutA c 1 1 (some ⟨g, o, none⟩) = some ⟨g, o + 1, none⟩ := cutA_some g o (by omega)
  have HP1 := Lib.hid (fun W => refPath_c x W hs1.1)
  rw [hp1] at HP1
  have HF := Lib.hid hF
  have hm1 : ¬ m = 0 := by omega
  have hm2 : ¬ m - 1 = 0 := by omega
  have hb1 : ((m : Int) == 0) = false := by rw [beq_eq_false_iff_ne]; omega
  have hb2 : (((m - 1 : Nat) : Int) == 0) = false := by rw [beq_eq_false_iff_ne]; omega
  have hm3 : ¬ m - 1 - 1 = 0 := by omega
  have hb3 : (((m - 1 - 1 : Nat) : Int) == 0) = false := by rw [beq_eq_false_iff_ne]; omega
  clear hg hc0 hc1 hF hp1 hs1
  go_enter Tryd.func21, Tryd.ntmps21
  go_wp2_with (first | (go_at_call 34; ((with_reducible refine (HP1.out _).mono ?_); rintro e w3 ⟨rfl, rfl⟩)))
  refine bodyPost_ret (done3 rfl rfl rfl rfl (one5 _ _ _ _ _) ((Blk.new w 35 [_, _, _, _, _]).alloc _)) rfl ?_
  refine ⟨(Bel.alloc w _).trans (Bel.alloc _ _), ?_⟩
  rw [HF.out]
  exact ⟨_, _, _, _, _, rfl⟩
set_option maxRecDepth 100000 in
set_option maxHeartbeats 1600000 in
theorem form_4_1_n (x : ByteArray) (hg : g < w.heap.size) (hc0 : w.cell? ⟨g, o, none⟩ = some (.string ⟨#[99, 97, 108, 108]⟩)) (hc1 : w.cell? ⟨g, o + 1, none⟩ = some (.string x)) (hnc : 2 ≤ c) (hc : c ≤ maxLen) (hs1 : 0 < x.size ∧ x.size ≤ 70000) (hp1 : isP (toL x) = false) : Calls Tryd.prog 21 #[.slice (some ⟨g, o, none⟩) 2 c] w (FormPost [[99, 97, 108, 108], toL x] w) := by
  have h0 := cell_two hg hc0
  have h1 := cell_two hg hc1
  have hcut1 : cutA c 1 1 (some ⟨g, o, none⟩) = some ⟨g, o + 1, none⟩ := cutA_some g o (by omega)
  have HP1 := Lib.hid (fun W => refPath_c x W hs1.1)
  rw [hp1] at HP1
  have HF : Hid (formW [[99, 97, 108, 108], toL x] = some (4, toL x, none)) := Lib.hid (by rw [formW2]; simp [kw, isP_cons, hp1])
  have hxm : x.size ≤ maxLen := by unfold maxLen; omega
  have HNM := Lib.hid (fun W => refName_c x hxm W)
  clear hxm
  clear hg hc0 hc1 hp1 hs1
  cases hnb : nameB x with
  | false =>
    have HNB := Lib.hid hnb
    rw [hnb] at HNM
    clear hnb
    go_enter Tryd.func21, Tryd.ntmps21
    go_wp2_with (first | (go_at_call 34; ((with_reducible refine (HP1.out _).mono ?_); rintro e w3 ⟨rfl, rfl⟩)) | (go_at_call 35; refine (HNM.out _).mono ?_; rintro e w3 ⟨rfl, rfl⟩))
    refine bodyPost_ret (done3 rfl rfl rfl rfl (one5 _ _ _ _ _) ((Blk.new w 35 [_, _, _, _, _]).alloc _)) rfl ?_
    refine ⟨(Bel.alloc w _).trans (Bel.alloc _ _), ?_⟩
    rw [HF.out]
    dsimp only
    rw [show okF 4 (toL x) none = false from by unfold okF; rw [show nameL (toL x) = false from HNB.out]; rfl]
    rw [ofL_toL]
    rfl
  | true =>
    have HNB := Lib.hid hnb
    rw [hnb] at HNM
    clear hnb
    go_enter Tryd.func21, Tryd.ntmps21
    go_wp2_with (first | (go_at_call 34; ((with_reducible refine (HP1.out _).mono ?_); rintro e w3 ⟨rfl, rfl⟩)) | (go_at_call 35; refine (HNM.out _).mono ?_; rintro e w3 ⟨rfl, rfl⟩))
    refine bodyPost_ret (done3 rfl rfl rfl rfl (one5 _ _ _ _ _) ((Blk.new w 35 [_, _, _, _, _]).alloc _)) rfl ?_
    refine ⟨(Bel.alloc w _).trans (Bel.alloc _ _), ?_⟩
    rw [HF.out]
    dsimp only
    rw [show okF 4 (toL x) none = true from by unfold okF; rw [show nameL (toL x) = true from HNB.out]; rfl]
    rw [ofL_toL]
    rfl
set_option maxRecDepth 100000 in
set_option maxHeartbeats 1600000 in
theorem form_4_2_nn (x y : ByteArray) (hg : g < w.heap.size) (hc0 : w.cell? ⟨g, o, none⟩ = some (.string ⟨#[99, 97, 108, 108]⟩)) (hc1 : w.cell? ⟨g, o + 1, none⟩ = some (.string x)) (hc2 : w.cell? ⟨g, o + 2, none⟩ = some (.string y)) (hnc : 3 ≤ c) (hc : c ≤ maxLen) (hs1 : 0 < x.size ∧ x.size ≤ 70000) (hp1 : isP (toL x) = false) (hs2 : 0 < y.size ∧ y.size ≤ 70000) (hp2 : isP (toL y) = false) : Calls Tryd.prog 21 #[.slice (some ⟨g, o, none⟩) 3 c] w (FormPost [[99, 97, 108, 108], toL x, toL y] w) := by
  have h0 := cell_two hg hc0
  have h1 := cell_two hg hc1
  have h2 := cell_two hg hc2
  have hcut1 : cutA c 1 1 (some ⟨g, o, none⟩) = some ⟨g, o + 1, none⟩ := cutA_some g o (by omega)
  have hcut2 : cutA (c - 1) 1 1 (some ⟨g, o + 1, none⟩) = some ⟨g, o + 2, none⟩ := cutA_some g (o + 1) (by omega)
  have HP1 := Lib.hid (fun W => refPath_c x W hs1.1)
  rw [hp1] at HP1
  have HP2 := Lib.hid (fun W => refPath_c y W hs2.1)
  rw [hp2] at HP2
  have HF : Hid (formW [[99, 97, 108, 108], toL x, toL y] = none) := Lib.hid (by rw [formW3]; simp [kw, isP_cons, hp1, hp2])
  have hxm : x.size ≤ maxLen := by unfold maxLen; omega
  have HNM := Lib.hid (fun W => refName_c x hxm W)
  clear hxm
  clear hg hc0 hc1 hc2 hp1 hp2 hs1 hs2
  cases hnb : nameB x with
  | false =>
    have HNB := Lib.hid hnb
    rw [hnb] at HNM
    clear hnb
    go_enter Tryd.func21, Tryd.ntmps21
    go_wp2_with (first | (go_at_call 34; ((with_reducible refine (HP1.out _).mono ?_); rintro e w3 ⟨rfl, rfl⟩)) | (go_at_call 34; ((with_reducible refine (HP2.out _).mono ?_); rintro e w3 ⟨rfl, rfl⟩)) | (go_at_call 35; refine (HNM.out _).mono ?_; rintro e w3 ⟨rfl, rfl⟩))
    refine bodyPost_ret (done3 rfl rfl rfl rfl (one5 _ _ _ _ _) ((Blk.new w 35 [_, _, _, _, _]).alloc _)) rfl ?_
    refine ⟨(Bel.alloc w _).trans (Bel.alloc _ _), ?_⟩
    rw [HF.out]
    exact ⟨_, _, _, _, _, rfl⟩
  | true =>
    have HNB := Lib.hid hnb
    rw [hnb] at HNM
    clear hnb
    go_enter Tryd.func21, Tryd.ntmps21
    go_wp2_with (first | (go_at_call 34; ((with_reducible refine (HP1.out _).mono ?_); rintro e w3 ⟨rfl, rfl⟩)) | (go_at_call 34; ((with_reducible refine (HP2.out _).mono ?_); rintro e w3 ⟨rfl, rfl⟩)) | (go_at_call 35; refine (HNM.out _).mono ?_; rintro e w3 ⟨rfl, rfl⟩))
    refine bodyPost_ret (done3 rfl rfl rfl rfl (one5 _ _ _ _ _) ((Blk.new w 35 [_, _, _, _, _]).alloc _)) rfl ?_
    refine ⟨(Bel.alloc w _).trans (Bel.alloc _ _), ?_⟩
    rw [HF.out]
    exact ⟨_, _, _, _, _, rfl⟩
set_option maxRecDepth 100000 in
set_option maxHeartbeats 1600000 in
theorem form_4_2m_nn (x y : ByteArray) (r : List ByteArray) (m : Nat) (hm : 3 < m) (hg : g < w.heap.size) (hc0 : w.cell? ⟨g, o, none⟩ = some (.string ⟨#[99, 97, 108, 108]⟩)) (hc1 : w.cell? ⟨g, o + 1, none⟩ = some (.string x)) (hc2 : w.cell? ⟨g, o + 2, none⟩ = some (.string y)) (hnc : m ≤ c) (hc : c ≤ maxLen) (hs1 : 0 < x.size ∧ x.size ≤ 70000) (hp1 : isP (toL x) = false) (hs2 : 0 < y.size ∧ y.size ≤ 70000) (hp2 : isP (toL y) = false) (hF : formW ([99, 97, 108, 108] :: toL x :: toL y :: r.map toL) = none) : Calls Tryd.prog 21 #[.slice (some ⟨g, o, none⟩) m c] w (FormPost ([99, 97, 108, 108] :: toL x :: toL y :: r.map toL) w) := by
  have h0 := cell_two hg hc0
  have h1 := cell_two hg hc1
  have h2 := cell_two hg hc2
  have hcut1 : cutA c 1 1 (some ⟨g, o, none⟩) = some ⟨g, o + 1, none⟩ := cutA_some g o (by omega)
  have hcut2 : cutA (c - 1) 1 1 (some ⟨g, o + 1, none⟩) = some ⟨g, o + 2, none⟩ := cutA_some g (o + 1) (by omega)
  have HP1 := Lib.hid (fun W => refPath_c x W hs1.1)
  rw [hp1] at HP1
  have HP2 := Lib.hid (fun W => refPath_c y W hs2.1)
  rw [hp2] at HP2
  have HF := Lib.hid hF
  have hm1 : ¬ m = 0 := by omega
  have hm2 : ¬ m - 1 = 0 := by omega
  have hb1 : ((m : Int) == 0) = false := by rw [beq_eq_false_iff_ne]; omega
  have hb2 : (((m - 1 : Nat) : Int) == 0) = false := by rw [beq_eq_false_iff_ne]; omega
  have hm3 : ¬ m - 1 - 1 = 0 := by omega
  have hb3 : (((m - 1 - 1 : Nat) : Int) == 0) = false := by rw [beq_eq_false_iff_ne]; omega
  have hm4 : ¬ m - 1 - 1 - 1 = 0 := by omega
  have hb4 : (((m - 1 - 1 - 1 : Nat) : Int) == 0) = false := by rw [beq_eq_false_iff_ne]; omega
  have hxm : x.size ≤ maxLen := by unfold maxLen; omega
  have HNM := Lib.hid (fun W => refName_c x hxm W)
  clear hxm
  clear hg hc0 hc1 hc2 hF hp1 hp2 hs1 hs2
  cases hnb : nameB x with
  | false =>
    have HNB := Lib.hid hnb
    rw [hnb] at HNM
    clear hnb
    go_enter Tryd.func21, Tryd.ntmps21
    go_wp2_with (first | (go_at_call 34; ((with_reducible refine (HP1.out _).mono ?_); rintro e w3 ⟨rfl, rfl⟩)) | (go_at_call 34; ((with_reducible refine (HP2.out _).mono ?_); rintro e w3 ⟨rfl, rfl⟩)) | (go_at_call 35; refine (HNM.out _).mono ?_; rintro e w3 ⟨rfl, rfl⟩))
    refine bodyPost_ret (done3 rfl rfl rfl rfl (one5 _ _ _ _ _) ((Blk.new w 35 [_, _, _, _, _]).alloc _)) rfl ?_
    refine ⟨(Bel.alloc w _).trans (Bel.alloc _ _), ?_⟩
    rw [HF.out]
    exact ⟨_, _, _, _, _, rfl⟩
  | true =>
    have HNB := Lib.hid hnb
    rw [hnb] at HNM
    clear hnb
    go_enter Tryd.func21, Tryd.ntmps21
    go_wp2_with (first | (go_at_call 34; ((with_reducible refine (HP1.out _).mono ?_); rintro e w3 ⟨rfl, rfl⟩)) | (go_at_call 34; ((with_reducible refine (HP2.out _).mono ?_); rintro e w3 ⟨rfl, rfl⟩)) | (go_at_call 35; refine (HNM.out _).mono ?_; rintro e w3 ⟨rfl, rfl⟩))
    refine bodyPost_ret (done3 rfl rfl rfl rfl (one5 _ _ _ _ _) ((Blk.new w 35 [_, _, _, _, _]).alloc _)) rfl ?_
    refine ⟨(Bel.alloc w _).trans (Bel.alloc _ _), ?_⟩
    rw [HF.out]
    exact ⟨_, _, _, _, _, rfl⟩
set_option maxRecDepth 100000 in
set_option maxHeartbeats 1600000 in
theorem form_4_2_np (x y : ByteArray) (hg : g < w.heap.size) (hc0 : w.cell? ⟨g, o, none⟩ = some (.string ⟨#[99, 97, 108, 108]⟩)) (hc1 : w.cell? ⟨g, o + 1, none⟩ = some (.string x)) (hc2 : w.cell? ⟨g, o + 2, none⟩ = some (.string y)) (hnc : 3 ≤ c) (hc : c ≤ maxLen) (hs1 : 0 < x.size ∧ x.size ≤ 70000) (hp1 : isP (toL x) = false) (hs2 : 0 < y.size ∧ y.size ≤ 70000) (hp2 : isP (toL y) = true) : Calls Tryd.prog 21 #[.slice (some ⟨g, o, none⟩) 3 c] w (FormPost [[99, 97, 108, 108], toL x, toL y] w) := by
  have h0 := cell_two hg hc0
  have h1 := cell_two hg hc1
  have h2 := cell_two hg hc2
  have hcut1 : cutA c 1 1 (some ⟨g, o, none⟩) = some ⟨g, o + 1, none⟩ := cutA_some g o (by omega)
  have hcut2 : cutA (c - 1) 1 1 (some ⟨g, o + 1, none⟩) = some ⟨g, o + 2, none⟩ := cutA_some g (o + 1) (by omega)
  have HP1 := Lib.hid (fun W => refPath_c x W hs1.1)
  rw [hp1] at HP1
  have HP2 := Lib.hid (fun W => refPath_c y W hs2.1)
  rw [hp2] at HP2
  have HF : Hid (formW [[99, 97, 108, 108], toL x, toL y] = some (4, toL x, some (toL y).tail)) := Lib.hid (by rw [formW3]; simp [kw, isP_cons, hp1, hp2])
  have hxm : x.size ≤ maxLen := by unfold maxLen; omega
  have HNM := Lib.hid (fun W => refName_c x hxm W)
  clear hxm
  have hez : (y.extract 1 y.size).size ≤ 2000000 := by simp; omega
  have hx1 : 1 ≤ y.size := hs2.1
  have HSP := Lib.hid (fun W => refSplit_c (y.extract 1 y.size) W hez)
  have HTE := Lib.hid (tail_extract y)
  have HTP := Lib.hid (tail_path y)
  clear hez
  clear hg hc0 hc1 hc2 hp1 hp2 hs1 hs2
  cases hnb : nameB x with
  | false =>
    have HNB := Lib.hid hnb
    rw [hnb] at HNM
    clear hnb
    cases hq : pathOf (y.extract 1 y.size) with
    | none =>
      have HQ := Lib.hid hq
      clear hq
      go_enter Tryd.func21, Tryd.ntmps21
      go_wp2_with (first | (go_at_call 34; ((with_reducible refine (HP1.out _).mono ?_); rintro e w3 ⟨rfl, rfl⟩)) | (go_at_call 34; ((with_reducible refine (HP2.out _).mono ?_); rintro e w3 ⟨rfl, rfl⟩)) | (go_at_call 35; refine (HNM.out _).mono ?_; rintro e w3 ⟨rfl, rfl⟩) | (go_at_call 36; refine (HSP.out _).mono ?_; rintro e w4 ⟨hb, hm⟩; rw [HQ.out] at hm; obtain rfl := hm; obtain ⟨hz, ht, hb2⟩ := two_blks hb; have HZ4 := Lib.hid hz; have HB4 := Lib.hid hb2; obtain ⟨t0, t1, t2, t3, t4⟩ := cells5 ht; obtain ⟨z0, z1, z2, z3, z4⟩ := cells5 hz; obtain ⟨y0, y1, y2, y3, y4⟩ := frees5 hz; clear hb hz ht hb2))
      refine bodyPost_ret (done3 rfl rfl rfl rfl (one5 _ _ _ _ _) (set5 HZ4.out _ _ _ _ _)) rfl ?_
      refine ⟨bel_on1 HB4.out (only5 _ _ _ _ _ _ _) (Nat.le_refl _), ?_⟩
      rw [HF.out]
      dsimp only
      rw [ok_both, show nameL (toL x) = false from HNB.out, HTP.out, HQ.out]
      rw [show (some (toL y).tail).getD [] = (toL y).tail from rfl, HTE.out]
      rw [ofL_toL]
      rfl
    | some l =>
      have HQ := Lib.hid hq
      clear hq
      go_enter Tryd.func21, Tryd.ntmps21
      go_wp2_with (first | (go_at_call 34; ((with_reducible refine (HP1.out _).mono ?_); rintro e w3 ⟨rfl, rfl⟩)) | (go_at_call 34; ((with_reducible refine (HP2.out _).mono ?_); rintro e w3 ⟨rfl, rfl⟩)) | (go_at_call 35; refine (HNM.out _).mono ?_; rintro e w3 ⟨rfl, rfl⟩) | (go_at_call 36; refine (HSP.out _).mono ?_; rintro e w4 ⟨hb, hm⟩; rw [HQ.out] at hm; obtain ⟨A4, c4, rfl, _⟩ := hm; obtain ⟨hz, ht, hb2⟩ := two_blks hb; have HZ4 := Lib.hid hz; have HB4 := Lib.hid hb2; obtain ⟨t0, t1, t2, t3, t4⟩ := cells5 ht; obtain ⟨z0, z1, z2, z3, z4⟩ := cells5 hz; obtain ⟨y0, y1, y2, y3, y4⟩ := frees5 hz; clear hb hz ht hb2))
      refine bodyPost_ret (done3 rfl rfl rfl rfl (one5 _ _ _ _ _) (set5 HZ4.out _ _ _ _ _)) rfl ?_
      refine ⟨bel_on1 HB4.out (only5 _ _ _ _ _ _ _) (Nat.le_refl _), ?_⟩
      rw [HF.out]
      dsimp only
      rw [ok_both, show nameL (toL x) = false from HNB.out, HTP.out, HQ.out]
      rw [show (some (toL y).tail).getD [] = (toL y).tail from rfl, HTE.out]
      rw [ofL_toL]
      rfl
  | true =>
    have HNB := Lib.hid hnb
    rw [hnb] at HNM
    clear hnb
    cases hq : pathOf (y.extract 1 y.size) with
    | none =>
      have HQ := Lib.hid hq
      clear hq
      go_enter Tryd.func21, Tryd.ntmps21
      go_wp2_with (first | (go_at_call 34; ((with_reducible refine (HP1.out _).mono ?_); rintro e w3 ⟨rfl, rfl⟩)) | (go_at_call 34; ((with_reducible refine (HP2.out _).mono ?_); rintro e w3 ⟨rfl, rfl⟩)) | (go_at_call 35; refine (HNM.out _).mono ?_; rintro e w3 ⟨rfl, rfl⟩) | (go_at_call 36; refine (HSP.out _).mono ?_; rintro e w4 ⟨hb, hm⟩; rw [HQ.out] at hm; obtain rfl := hm; obtain ⟨hz, ht, hb2⟩ := two_blks hb; have HZ4 := Lib.hid hz; have HB4 := Lib.hid hb2; obtain ⟨t0, t1, t2, t3, t4⟩ := cells5 ht; obtain ⟨z0, z1, z2, z3, z4⟩ := cells5 hz; obtain ⟨y0, y1, y2, y3, y4⟩ := frees5 hz; clear hb hz ht hb2))
      refine bodyPost_ret (done3 rfl rfl rfl rfl (one5 _ _ _ _ _) (set5 HZ4.out _ _ _ _ _)) rfl ?_
      refine ⟨bel_on1 HB4.out (only5 _ _ _ _ _ _ _) (Nat.le_refl _), ?_⟩
      rw [HF.out]
      dsimp only
      rw [ok_both, show nameL (toL x) = true from HNB.out, HTP.out, HQ.out]
      rw [show (some (toL y).tail).getD [] = (toL y).tail from rfl, HTE.out]
      rw [ofL_toL]
      rfl
    | some l =>
      have HQ := Lib.hid hq
      clear hq
      go_enter Tryd.func21, Tryd.ntmps21
      go_wp2_with (first | (go_at_call 34; ((with_reducible refine (HP1.out _).mono ?_); rintro e w3 ⟨rfl, rfl⟩)) | (go_at_call 34; ((with_reducible refine (HP2.out _).mono ?_); rintro e w3 ⟨rfl, rfl⟩)) | (go_at_call 35; refine (HNM.out _).mono ?_; rintro e w3 ⟨rfl, rfl⟩) | (go_at_call 36; refine (HSP.out _).mono ?_; rintro e w4 ⟨hb, hm⟩; rw [HQ.out] at hm; obtain ⟨A4, c4, rfl, _⟩ := hm; obtain ⟨hz, ht, hb2⟩ := two_blks hb; have HZ4 := Lib.hid hz; have HB4 := Lib.hid hb2; obtain ⟨t0, t1, t2, t3, t4⟩ := cells5 ht; obtain ⟨z0, z1, z2, z3, z4⟩ := cells5 hz; obtain ⟨y0, y1, y2, y3, y4⟩ := frees5 hz; clear hb hz ht hb2))
      refine bodyPost_ret (done3 rfl rfl rfl rfl (one5 _ _ _ _ _) (set5 HZ4.out _ _ _ _ _)) rfl ?_
      refine ⟨bel_on1 HB4.out (only5 _ _ _ _ _ _ _) (Nat.le_refl _), ?_⟩
      rw [HF.out]
      dsimp only
      rw [ok_both, show nameL (toL x) = true from HNB.out, HTP.out, HQ.out]
      rw [show (some (toL y).tail).getD [] = (toL y).tail from rfl, HTE.out]
      rw [ofL_toL]
      rfl
set_option maxRecDepth 100000 in
set_option maxHeartbeats 1600000 in
theorem form_4_2m_np (x y : ByteArray) (r : List ByteArray) (m : Nat) (hm : 3 < m) (hg : g < w.heap.size) (hc0 : w.cell? ⟨g, o, none⟩ = some (.string ⟨#[99, 97, 108, 108]⟩)) (hc1 : w.cell? ⟨g, o + 1, none⟩ = some (.string x)) (hc2 : w.cell? ⟨g, o + 2, none⟩ = some (.string y)) (hnc : m ≤ c) (hc : c ≤ maxLen) (hs1 : 0 < x.size ∧ x.size ≤ 70000) (hp1 : isP (toL x) = false) (hs2 : 0 < y.size ∧ y.size ≤ 70000) (hp2 : isP (toL y) = true) (hF : formW ([99, 97, 108, 108] :: toL x :: toL y :: r.map toL) = none) : Calls Tryd.prog 21 #[.slice (some ⟨g, o, none⟩) m c] w (FormPost ([99, 97, 108, 108] :: toL x :: toL y :: r.map toL) w) := by
  have h0 := cell_two hg hc0
  have h1 := cell_two hg hc1
  have h2 := cell_two hg hc2
  have hcut1 : cutA c 1 1 (some ⟨g, o, none⟩) = some ⟨g, o + 1, none⟩ := cutA_some g o (by omega)
  have hcut2 : cutA (c - 1) 1 1 (some ⟨g, o + 1, none⟩) = some ⟨g, o + 2, none⟩ := cutA_some g (o + 1) (by omega)
  have HP1 := Lib.hid (fun W => refPath_c x W hs1.1)
  rw [hp1] at HP1
  have HP2 := Lib.hid (fun W => refPath_c y W hs2.1)
  rw [hp2] at HP2
  have HF := Lib.hid hF
  have hm1 : ¬ m = 0 := by omega
  have hm2 : ¬ m - 1 = 0 := by omega
  have hb1 : ((m : Int) == 0) = false := by rw [beq_eq_false_iff_ne]; omega
  have hb2 : (((m - 1 : Nat) : Int) == 0) = false := by rw [beq_eq_false_iff_ne]; omega
  have hm3 : ¬ m - 1 - 1 = 0 := by omega
  have hb3 : (((m - 1 - 1 : Nat) : Int) == 0) = false := by rw [beq_eq_false_iff_ne]; omega
  have hm4 : ¬ m - 1 - 1 - 1 = 0 := by omega
  have hb4 : (((m - 1 - 1 - 1 : Nat) : Int) == 0) = false := by rw [beq_eq_false_iff_ne]; omega
  have hxm : x.size ≤ maxLen := by unfold maxLen; omega
  have HNM := Lib.hid (fun W => refName_c x hxm W)
  clear hxm
  have hez : (y.extract 1 y.size).size ≤ 2000000 := by simp; omega
  have hx1 : 1 ≤ y.size := hs2.1
  have HSP := Lib.hid (fun W => refSplit_c (y.extract 1 y.size) W hez)
  have HTE := Lib.hid (tail_extract y)
  have HTP := Lib.hid (tail_path y)
  clear hez
  clear hg hc0 hc1 hc2 hF hp1 hp2 hs1 hs2
  cases hnb : nameB x with
  | false =>
    have HNB := Lib.hid hnb
    rw [hnb] at HNM
    clear hnb
    cases hq : pathOf (y.extract 1 y.size) with
    | none =>
      have HQ := Lib.hid hq
      clear hq
      go_enter Tryd.func21, Tryd.ntmps21
      go_wp2_with (first | (go_at_call 34; ((with_reducible refine (HP1.out _).mono ?_); rintro e w3 ⟨rfl, rfl⟩)) | (go_at_call 34; ((with_reducible refine (HP2.out _).mono ?_); rintro e w3 ⟨rfl, rfl⟩)) | (go_at_call 35; refine (HNM.out _).mono ?_; rintro e w3 ⟨rfl, rfl⟩) | (go_at_call 36; refine (HSP.out _).mono ?_; rintro e w4 ⟨hb, hm⟩; rw [HQ.out] at hm; obtain rfl := hm; obtain ⟨hz, ht, hb2⟩ := two_blks hb; have HZ4 := Lib.hid hz; have HB4 := Lib.hid hb2; obtain ⟨t0, t1, t2, t3, t4⟩ := cells5 ht; obtain ⟨z0, z1, z2, z3, z4⟩ := cells5 hz; obtain ⟨y0, y1, y2, y3, y4⟩ := frees5 hz; clear hb hz ht hb2))
      refine bodyPost_ret (done3 rfl rfl rfl rfl (one5 _ _ _ _ _) (set5 HZ4.out _ _ _ _ _)) rfl ?_
      refine ⟨bel_on1 HB4.out (only5 _ _ _ _ _ _ _) (Nat.le_refl _), ?_⟩
      rw [HF.out]
      exact ⟨_, _, _, _, _, rfl⟩
    | some l =>
      have HQ := Lib.hid hq
      clear hq
      go_enter Tryd.func21, Tryd.ntmps21
      go_wp2_with (first | (go_at_call 34; ((with_reducible refine (HP1.out _).mono ?_); rintro e w3 ⟨rfl, rfl⟩)) | (go_at_call 34; ((with_reducible refine (HP2.out _).mono ?_); rintro e w3 ⟨rfl, rfl⟩)) | (go_at_call 35; refine (HNM.out _).mono ?_; rintro e w3 ⟨rfl, rfl⟩) | (go_at_call 36; refine (HSP.out _).mono ?_; rintro e w4 ⟨hb, hm⟩; rw [HQ.out] at hm; obtain ⟨A4, c4, rfl, _⟩ := hm; obtain ⟨hz, ht, hb2⟩ := two_blks hb; have HZ4 := Lib.hid hz; have HB4 := Lib.hid hb2; obtain ⟨t0, t1, t2, t3, t4⟩ := cells5 ht; obtain ⟨z0, z1, z2, z3, z4⟩ := cells5 hz; obtain ⟨y0, y1, y2, y3, y4⟩ := frees5 hz; clear hb hz ht hb2))
      refine bodyPost_ret (done3 rfl rfl rfl rfl (one5 _ _ _ _ _) (set5 HZ4.out _ _ _ _ _)) rfl ?_
      refine ⟨bel_on1 HB4.out (only5 _ _ _ _ _ _ _) (Nat.le_refl _), ?_⟩
      rw [HF.out]
      exact ⟨_, _, _, _, _, rfl⟩
  | true =>
    have HNB := Lib.hid hnb
    rw [hnb] at HNM
    clear hnb
    cases hq : pathOf (y.extract 1 y.size) with
    | none =>
      have HQ := Lib.hid hq
      clear hq
      go_enter Tryd.func21, Tryd.ntmps21
      go_wp2_with (first | (go_at_call 34; ((with_reducible refine (HP1.out _).mono ?_); rintro e w3 ⟨rfl, rfl⟩)) | (go_at_call 34; ((with_reducible refine (HP2.out _).mono ?_); rintro e w3 ⟨rfl, rfl⟩)) | (go_at_call 35; refine (HNM.out _).mono ?_; rintro e w3 ⟨rfl, rfl⟩) | (go_at_call 36; refine (HSP.out _).mono ?_; rintro e w4 ⟨hb, hm⟩; rw [HQ.out] at hm; obtain rfl := hm; obtain ⟨hz, ht, hb2⟩ := two_blks hb; have HZ4 := Lib.hid hz; have HB4 := Lib.hid hb2; obtain ⟨t0, t1, t2, t3, t4⟩ := cells5 ht; obtain ⟨z0, z1, z2, z3, z4⟩ := cells5 hz; obtain ⟨y0, y1, y2, y3, y4⟩ := frees5 hz; clear hb hz ht hb2))
      refine bodyPost_ret (done3 rfl rfl rfl rfl (one5 _ _ _ _ _) (set5 HZ4.out _ _ _ _ _)) rfl ?_
      refine ⟨bel_on1 HB4.out (only5 _ _ _ _ _ _ _) (Nat.le_refl _), ?_⟩
      rw [HF.out]
      exact ⟨_, _, _, _, _, rfl⟩
    | some l =>
      have HQ := Lib.hid hq
      clear hq
      go_enter Tryd.func21, Tryd.ntmps21
      go_wp2_with (first | (go_at_call 34; ((with_reducible refine (HP1.out _).mono ?_); rintro e w3 ⟨rfl, rfl⟩)) | (go_at_call 34; ((with_reducible refine (HP2.out _).mono ?_); rintro e w3 ⟨rfl, rfl⟩)) | (go_at_call 35; refine (HNM.out _).mono ?_; rintro e w3 ⟨rfl, rfl⟩) | (go_at_call 36; refine (HSP.out _).mono ?_; rintro e w4 ⟨hb, hm⟩; rw [HQ.out] at hm; obtain ⟨A4, c4, rfl, _⟩ := hm; obtain ⟨hz, ht, hb2⟩ := two_blks hb; have HZ4 := Lib.hid hz; have HB4 := Lib.hid hb2; obtain ⟨t0, t1, t2, t3, t4⟩ := cells5 ht; obtain ⟨z0, z1, z2, z3, z4⟩ := cells5 hz; obtain ⟨y0, y1, y2, y3, y4⟩ := frees5 hz; clear hb hz ht hb2))
      refine bodyPost_ret (done3 rfl rfl rfl rfl (one5 _ _ _ _ _) (set5 HZ4.out _ _ _ _ _)) rfl ?_
      refine ⟨bel_on1 HB4.out (only5 _ _ _ _ _ _ _) (Nat.le_refl _), ?_⟩
      rw [HF.out]
      exact ⟨_, _, _, _, _, rfl⟩
end
end Go.Proofs.YtkiefgifbkpcfaaDoor
