/-
  Contract: the reference's form, leaf by leaf (gen_form.py writes it).
-/
import Derived.Test.YtkiefgifbkpcfaaDoorRf11
namespace Go.Proofs.YtkiefgifbkpcfaaDoor
open Go.RowKit Go.BigFrame
set_option linter.unusedVariables false
set_option linter.unusedSimpArgs false
attribute [local go_sem ↓] sliced_cut run_min2 run_max2
attribute [local go_sem] cutA_zero
section
variable {w : World} {g o c : Nat}
set_option maxRecDepth 100000 in
set_option maxHeartbeats 1600000 in
theorem form_5_0_ (hg : g < w.heap.size) (hc0 : w.cell? ⟨g, o, none⟩ = some (.string ⟨#[102, 108, 117, 115, 104]⟩)) (hnc : 1 ≤ c) (hc : c ≤ maxLen) : Calls Tryd.prog 21 #[.slice (some ⟨g, o, none⟩) 1 c] w (FormPost [[102, 108, 117, 115, 104]] w) := by
  have h0 := cell_two hg hc0
  have HF : Hid (formW [[102, 108, 117, 115, 104]] = some (5, [], none)) := Lib.hid (by rw [formW1]; simp [kw, isP_cons])
  clear hg hc0
  go_enter Tryd.func21, Tryd.ntmps21
  go_wp2_with (fail)
  refine bodyPost_ret (done3 rfl rfl rfl rfl (one5 _ _ _ _ _) ((Blk.new w 35 [_, _, _, _, _]).alloc _)) rfl ?_
  refine ⟨(Bel.alloc w _).trans (Bel.alloc _ _), ?_⟩
  rw [HF.out]
  dsimp only
  rfl
set_option maxRecDepth 100000 in
set_option maxHeartbeats 1600000 in
theorem form_5_0m_ (r : List ByteArray) (m : Nat) (hm : 1 < m) (hg : g < w.heap.size) (hc0 : w.cell? ⟨g, o, none⟩ = some (.string ⟨#[102, 108, 117, 115, 104]⟩)) (hnc : m ≤ c) (hc : c ≤ maxLen) (hF : formW ([102, 108, 117, 115, 104] :: r.map toL) = none) : Calls Tryd.prog 21 #[.slice (some ⟨g, o, none⟩) m c] w (FormPost ([102, 108, 117, 115, 104] :: r.map toL) w) := by
  have h0 := cell_two hg hc0
  have HF := Lib.hid hF
  have hm1 : ¬ m = 0 := by omega
  have hm2 : ¬ m - 1 = 0 := by omega
  have hb1 : ((m : Int) == 0) = false := by rw [beq_eq_false_iff_ne]; omega
  have hb2 : (((m - 1 : Nat) : Int) == 0) = false := by rw [beq_eq_false_iff_ne]; omega
  clear hg hc0 hF
  go_enter Tryd.func21, Tryd.ntmps21
  go_wp2_with (fail)
  refine bodyPost_ret (done3 rfl rfl rfl rfl (one5 _ _ _ _ _) ((Blk.new w 35 [_, _, _, _, _]).alloc _)) rfl ?_
  refine ⟨(Bel.alloc w _).trans (Bel.alloc _ _), ?_⟩
  rw [HF.out]
  exact ⟨_, _, _, _, _, rfl⟩
set_option maxRecDepth 100000 in
set_option maxHeartbeats 1600000 in
theorem form_7_0_ (hg : g < w.heap.size) (hc0 : w.cell? ⟨g, o, none⟩ = some (.string ⟨#[101, 108, 115, 101]⟩)) (hnc : 1 ≤ c) (hc : c ≤ maxLen) : Calls Tryd.prog 21 #[.slice (some ⟨g, o, none⟩) 1 c] w (FormPost [[101, 108, 115, 101]] w) := by
  have h0 := cell_two hg hc0
  have HF : Hid (formW [[101, 108, 115, 101]] = some (7, [], none)) := Lib.hid (by rw [formW1]; simp [kw, isP_cons])
  clear hg hc0
  go_enter Tryd.func21, Tryd.ntmps21
  go_wp2_with (fail)
  refine bodyPost_ret (done3 rfl rfl rfl rfl (one5 _ _ _ _ _) ((Blk.new w 35 [_, _, _, _, _]).alloc _)) rfl ?_
  refine ⟨(Bel.alloc w _).trans (Bel.alloc _ _), ?_⟩
  rw [HF.out]
  dsimp only
  rfl
set_option maxRecDepth 100000 in
set_option maxHeartbeats 1600000 in
theorem form_7_0m_ (r : List ByteArray) (m : Nat) (hm : 1 < m) (hg : g < w.heap.size) (hc0 : w.cell? ⟨g, o, none⟩ = some (.string ⟨#[101, 108, 115, 101]⟩)) (hnc : m ≤ c) (hc : c ≤ maxLen) (hF : formW ([101, 108, 115, 101] :: r.map toL) = none) : Calls Tryd.prog 21 #[.slice (some ⟨g, o, none⟩) m c] w (FormPost ([101, 108, 115, 101] :: r.map toL) w) := by
  have h0 := cell_two hg hc0
  have HF := Lib.hid hF
  have hm1 : ¬ m = 0 := by omega
  have hm2 : ¬ m - 1 = 0 := by omega
  have hb1 : ((m : Int) == 0) = false := by rw [beq_eq_false_iff_ne]; omega
  have hb2 : (((m - 1 : Nat) : Int) == 0) = false := by rw [beq_eq_false_iff_ne]; omega
  clear hg hc0 hF
  go_enter Tryd.func21, Tryd.ntmps21
  go_wp2_with (fail)
  refine bodyPost_ret (done3 rfl rfl rfl rfl (one5 _ _ _ _ _) ((Blk.new w 35 [_, _, _, _, _]).alloc _)) rfl ?_
  refine ⟨(Bel.alloc w _).trans (Bel.alloc _ _), ?_⟩
  rw [HF.out]
  exact ⟨_, _, _, _, _, rfl⟩
set_option maxRecDepth 100000 in
set_option maxHeartbeats 1600000 in
theorem form_8_0_ (hg : g < w.heap.size) (hc0 : w.cell? ⟨g, o, none⟩ = some (.string ⟨#[101, 110, 100]⟩)) (hnc : 1 ≤ c) (hc : c ≤ maxLen) : Calls Tryd.prog 21 #[.slice (some ⟨g, o, none⟩) 1 c] w (FormPost [[101, 110, 100]] w) := by
  have h0 := cell_two hg hc0
  have HF : Hid (formW [[101, 110, 100]] = some (8, [], none)) := Lib.hid (by rw [formW1]; simp [kw, isP_cons])
  clear hg hc0
  go_enter Tryd.func21, Tryd.ntmps21
  go_wp2_with (fail)
  refine bodyPost_ret (done3 rfl rfl rfl rfl (one5 _ _ _ _ _) ((Blk.new w 35 [_, _, _, _, _]).alloc _)) rfl ?_
  refine ⟨(Bel.alloc w _).trans (Bel.alloc _ _), ?_⟩
  rw [HF.out]
  dsimp only
  rfl
set_option maxRecDepth 100000 in
set_option maxHeartbeats 1600000 in
theorem form_8_0m_ (r : List ByteArray) (m : Nat) (hm : 1 < m) (hg : g < w.heap.size) (hc0 : w.cell? ⟨g, o, none⟩ = some (.string ⟨#[101, 110, 100]⟩)) (hnc : m ≤ c) (hc : c ≤ maxLen) (hF : formW ([101, 110, 100] :: r.map toL) = none) : Calls Tryd.prog 21 #[.slice (some ⟨g, o, none⟩) m c] w (FormPost ([101, 110, 100] :: r.map toL) w) := by
  have h0 := cell_two hg hc0
  have HF := Lib.hid hF
  have hm1 : ¬ m = 0 := by omega
  have hm2 : ¬ m - 1 = 0 := by omega
  have hb1 : ((m : Int) == 0) = false := by rw [beq_eq_false_iff_ne]; omega
  have hb2 : (((m - 1 : Nat) : Int) == 0) = false := by rw [beq_eq_false_iff_ne]; omega
  clear hg hc0 hF
  go_enter Tryd.func21, Tryd.ntmps21
  go_wp2_with (fail)
  refine bodyPost_ret (done3 rfl rfl rfl rfl (one5 _ _ _ _ _) ((Blk.new w 35 [_, _, _, _, _]).alloc _)) rfl ?_
  refine ⟨(Bel.alloc w _).trans (Bel.alloc _ _), ?_⟩
  rw [HF.out]
  exact ⟨_, _, _, _, _, rfl⟩
set_option maxRecDepth 100000 in
set_option maxHeartbeats 1600000 in
theorem form_6_0_ (hg : g < w.heap.size) (hc0 : w.cell? ⟨g, o, none⟩ = some (.string ⟨#[100, 101, 102, 105, 110, 101]⟩)) (hnc : 1 ≤ c) (hc : c ≤ maxLen) : Calls Tryd.prog 21 #[.slice (some ⟨g, o, none⟩) 1 c] w (FormPost [[100, 101, 102, 105, 110, 101]] w) := by
  have h0 := cell_two hg hc0
  have HF : Hid (formW [[100, 101, 102, 105, 110, 101]] = none) := Lib.hid (by rw [formW1]; simp [kw, isP_cons])
  clear hg hc0
  go_enter Tryd.func21, Tryd.ntmps21
  go_wp2_with (fail)
  refine bodyPost_ret (done3 rfl rfl rfl rfl (one5 _ _ _ _ _) ((Blk.new w 35 [_, _, _, _, _]).alloc _)) rfl ?_
  refine ⟨(Bel.alloc w _).trans (Bel.alloc _ _), ?_⟩
  rw [HF.out]
  exact ⟨_, _, _, _, _, rfl⟩
set_option maxRecDepth 100000 in
set_option maxHeartbeats 1600000 in
theorem form_6_1_p (x : ByteArray) (hg : g < w.heap.size) (hc0 : w.cell? ⟨g, o, none⟩ = some (.string ⟨#[100, 101, 102, 105, 110, 101]⟩)) (hc1 : w.cell? ⟨g, o + 1, none⟩ = some (.string x)) (hnc : 2 ≤ c) (hc : c ≤ maxLen) (hs1 : 0 < x.size ∧ x.size ≤ 70000) (hp1 : isP (toL x) = true) : Calls Tryd.prog 21 #[.slice (some ⟨g, o, none⟩) 2 c] w (FormPost [[100, 101, 102, 105, 110, 101], toL x] w) := by
  have h0 := cell_two hg hc0
  have h1 := cell_two hg hc1
  have hcut1 : cutA c 1 1 (some ⟨g, o, none⟩) = some ⟨g, o + 1, none⟩ := cutA_some g o (by omega)
  have HP1 := Lib.hid (fun W => refPath_c x W hs1.1)
  rw [hp1] at HP1
  have HF : Hid (formW [[100, 101, 102, 105, 110, 101], toL x] = none) := Lib.hid (by rw [formW2]; simp [kw, isP_cons, hp1])
  clear hg hc0 hc1 hp1 hs1
  go_enter Tryd.func21, Tryd.ntmps21
  go_wp2_with (first | (go_at_call 34; ((with_reducible refine (HP1.out _).mono ?_); rintro e w3 ⟨rfl, rfl⟩)))
  refine bodyPost_ret (done3 rfl rfl rfl rfl (one5 _ _ _ _ _) ((Blk.new w 35 [_, _, _, _, _]).alloc _)) rfl ?_
  refine ⟨(Bel.alloc w _).trans (Bel.alloc _ _), ?_⟩
  rw [HF.out]
  exact ⟨_, _, _, _, _, rfl⟩
set_option maxRecDepth 100000 in
set_option maxHeartbeats 1600000 in
theorem form_6_1m_p (x : ByteArray) (r : List ByteArray) (m : Nat) (hm : 2 < m) (hg : g < w.heap.size) (hc0 : w.cell? ⟨g, o, none⟩ = some (.string ⟨#[100, 101, 102, 105, 110, 101]⟩)) (hc1 : w.cell? ⟨g, o + 1, none⟩ = some (.string x)) (hnc : m ≤ c) (hc : c ≤ maxLen) (hs1 : 0 < x.size ∧ x.size ≤ 70000) (hp1 : isP (toL x) = true) (hF : formW ([100, 101, 102, 105, 110, 101] :: toL x :: r.map toL) = none) : Calls Tryd.prog 21 #[.slice (some ⟨g, o, none⟩) m c] w (FormPost ([100, 101, 102, 105, 110, 101] :: toL x :: r.map toL) w) := by
  have h0 := cell_two hg hc0
  have h1 := cell_two hg hc1
  have hcut1 : cutA c 1 1 (some ⟨g, o, none⟩) = some ⟨g, o + 1, none⟩ := cutA_some g o (by omega)
  have HP1 := Lib.hid (fun W => refPath_c x W hs1.1)
  rw [hp1] at HP1
  have HF := Lib.hid hF
  have hm1 : ¬ m = 0 := by omega
  have hm2 : ¬ m - 1 = 0 := by omega
  have hb1 : ((m : Int) == 0) = false := by rw [beq_eq_false_iff_ne]; omega
  have hb2 : (((m - 1 : Nat) : Int) == 0) = false := by rw [beq_eq_false_iff_ne]; omega
  have hm3 : ¬ m - 1 - 1 = 0 := by omega
  have hb3 : (((m - 1 - 1 : Nat) : Int) == 0) = false := by rw [beq_eq_false_iff_ne]; omega
  clear hg hc0 hc1 hF hp1 hs1
  go_enter Tryd.func21, Tryd.ntmps21
  go_wp2_with (first | (go_at_call 34; ((with_reducible refine (HP1.out _).mono ?_); rintro e w3 ⟨rfl, rfl⟩)))
  refine bodyPost_ret (done3 rfl rfl rfl rfl (one5 _ _ _ _ _) ((Blk.new w 35 [_, _, _, _, _]).alloc _)) rfl ?_
  refine ⟨(Bel.alloc w _).trans (Bel.alloc _ _), ?_⟩
  rw [HF.out]
  exact ⟨_, _, _, _, _, rfl⟩
set_option maxRecDepth 100000 in
set_option maxHeartbeats 1600000 in
theorem form_6_1_n (x : ByteArray) (hg : g < w.heap.size) (hc0 : w.cell? ⟨g, o, none⟩ = some (.string ⟨#[100, 101, 102, 105, 110, 101]⟩)) (hc1 : w.cell? ⟨g, o + 1, none⟩ = some (.string x)) (hnc : 2 ≤ c) (hc : c ≤ maxLen) (hs1 : 0 < x.size ∧ x.size ≤ 70000) (hp1 : isP (toL x) = false) : Calls Tryd.prog 21 #[.slice (some ⟨g, o, none⟩) 2 c] w (FormPost [[100, 101, 102, 105, 110, 101], toL x] w) := by
  have h0 := cell_two hg hc0
  have h1 := cell_two hg hc1
  have hcut1 : cutA c 1 1 (some ⟨g, o, none⟩) = some ⟨g, o + 1, none⟩ := cutA_some g o (by omega)
  have HP1 := Lib.hid (fun W => refPath_c x W hs1.1)
  rw [hp1] at HP1
  have HF : Hid (formW [[100, 101, 102, 105, 110, 101], toL x] = some (6, toL x, none)) := Lib.hid (by rw [formW2]; simp [kw, isP_cons, hp1])
  have hxm : x.size ≤ maxLen := by unfold maxLen; omega
  have HNM := Lib.hid (fun W => refName_c x hxm W)
  clear hxm
  clear hg hc0 hc1 hp1 hs1
  cases hnb : nameB x with
  | false =>
    have HNB := Lib.hid hnb
    rw [hnb] at HNM
    clear hnb
    go_enter Tryd.func21, Tryd.ntmps21
    go_wp2_with (first | (go_at_call 34; ((with_reducible refine (HP1.out _).mono ?_); rintro e w3 ⟨rfl, rfl⟩)) | (go_at_call 35; refine (HNM.out _).mono ?_; rintro e w3 ⟨rfl, rfl⟩))
    refine bodyPost_ret (done3 rfl rfl rfl rfl (one5 _ _ _ _ _) ((Blk.new w 35 [_, _, _, _, _]).alloc _)) rfl ?_
    refine ⟨(Bel.alloc w _).trans (Bel.alloc _ _), ?_⟩
    rw [HF.out]
    dsimp only
    rw [show okF 6 (toL x) none = false from by unfold okF; rw [show nameL (toL x) = false from HNB.out]; rfl]
    rw [ofL_toL]
    rfl
  | true =>
    have HNB := Lib.hid hnb
    rw [hnb] at HNM
    clear hnb
    go_enter Tryd.func21, Tryd.ntmps21
    go_wp2_with (first | (go_at_call 34; ((with_reducible refine (HP1.out _).mono ?_); rintro e w3 ⟨rfl, rfl⟩)) | (go_at_call 35; refine (HNM.out _).mono ?_; rintro e w3 ⟨rfl, rfl⟩))
    refine bodyPost_ret (done3 rfl rfl rfl rfl (one5 _ _ _ _ _) ((Blk.new w 35 [_, _, _, _, _]).alloc _)) rfl ?_
    refine ⟨(Bel.alloc w _).trans (Bel.alloc _ _), ?_⟩
    rw [HF.out]
    dsimp only
    rw [show okF 6 (toL x) none = true from by unfold okF; rw [show nameL (toL x) = true from HNB.out]; rfl]
    rw [ofL_toL]
    rfl
set_option maxRecDepth 100000 in
set_option maxHeartbeats 1600000 in
theorem form_6_1m_n (x : ByteArray) (r : List ByteArray) (m : Nat) (hm : 2 < m) (hg : g < w.heap.size) (hc0 : w.cell? ⟨g, o, none⟩ = some (.string ⟨#[100, 101, 102, 105, 110, 101]⟩)) (hc1 : w.cell? ⟨g, o + 1, none⟩ = some (.string x)) (hnc : m ≤ c) (hc : c ≤ maxLen) (hs1 : 0 < x.size ∧ x.size ≤ 70000) (hp1 : isP (toL x) = false) (hF : formW ([100, 101, 102, 105, 110, 101] :: toL x :: r.map toL) = none) : Calls Tryd.prog 21 #[.slice (some ⟨g, o, none⟩) m c] w (FormPost ([100, 101, 102, 105, 110, 101] :: toL x :: r.map toL) w) := by
  have h0 := cell_two hg hc0
  have h1 := cell_two hg hc1
  have hcut1 : cutA c 1 1 (some ⟨g, o, none⟩) = some ⟨g, o + 1, none⟩ := cutA_some g o (by omega)
  have HP1 := Lib.hid (fun W => refPath_c x W hs1.1)
  rw [hp1] at HP1
  have HF := Lib.hid hF
  have hm1 : ¬ m = 0 := by omega
  have hm2 : ¬ m - 1 = 0 := by omega
  have hb1 : ((m : Int) == 0) = false := by rw [beq_eq_false_iff_ne]; omega
  have hb2 : (((m - 1 : Nat) : Int) == 0) = false := by rw [beq_eq_false_iff_ne]; omega
  have hm3 : ¬ m - 1 - 1 = 0 := by omega
  have hb3 : (((m - 1 - 1 : Nat) : Int) == 0) = false := by rw [beq_eq_false_iff_ne]; omega
  have hxm : x.size ≤ maxLen := by unfold maxLen; omega
  have HNM := Lib.hid (fun W => refName_c x hxm W)
  clear hxm
  clear hg hc0 hc1 hF hp1 hs1
  cases hnb : nameB x with
  | false =>
    have HNB := Lib.hid hnb
    rw [hnb] at HNM
    clear hnb
    go_enter Tryd.func21, Tryd.ntmps21
    go_wp2_with (first | (go_at_call 34; ((with_reducible refine (HP1.out _).mono ?_); rintro e w3 ⟨rfl, rfl⟩)) | (go_at_call 35; refine (HNM.out _).mono ?_; rintro e w3 ⟨rfl, rfl⟩))
    refine bodyPost_ret (done3 rfl rfl rfl rfl (one5 _ _ _ _ _) ((Blk.new w 35 [_, _, _, _, _]).alloc _)) rfl ?_
    refine ⟨(Bel.alloc w _).trans (Bel.alloc _ _), ?_⟩
    rw [HF.out]
    exact ⟨_, _, _, _, _, rfl⟩
  | true =>
    have HNB := Lib.hid hnb
    rw [hnb] at HNM
    clear hnb
    go_enter Tryd.func21, Tryd.ntmps21
    go_wp2_with (first | (go_at_call 34; ((with_reducible refine (HP1.out _).mono ?_); rintro e w3 ⟨rfl, rfl⟩)) | (go_at_call 35; refine (HNM.out _).mono ?_; rintro e w3 ⟨rfl, rfl⟩))
    refine bodyPost_ret (done3 rfl rfl rfl rfl (one5 _ _ _ _ _) ((Blk.new w 35 [_, _, _, _, _]).alloc _)) rfl ?_
    refine ⟨(Bel.alloc w _).trans (Bel.alloc _ _), ?_⟩
    rw [HF.out]
    exact ⟨_, _, _, _, _, rfl⟩
end
end Go.Proofs.YtkiefgifbkpcfaaDoor
