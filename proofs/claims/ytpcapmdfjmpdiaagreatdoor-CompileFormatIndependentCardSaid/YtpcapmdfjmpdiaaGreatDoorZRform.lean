/-
  Contract: the reference's form.
  Contract: the reference's form, leaf by leaf (gen_form.py writes it).
  Contract: the reference's form, leaf by leaf (gen_form.py writes it).
  Contract: the reference's form, leaf by leaf (gen_form.py writes it).
  Contract: the reference's form, leaf by leaf (gen_form.py writes it).
  Contract: the reference's form, put together.
-/
import Derived.Test.YtpcapmdfjmpdiaaGreatDoorZSs14
namespace Go.Proofs.YtpcapmdfjmpdiaaGreatDoor
open Go.RowKit Go.BigFrame
set_option linter.unusedVariables false
set_option linter.unusedSimpArgs false
attribute [local go_sem ↓] sliced_cut run_min2 run_max2
attribute [local go_sem] cutA_zero

/-- What the reference's form gives. -/
def FormPost (ws : List (List UInt8)) (w : World) (e : Ending) (w' : World) : Prop :=
  Bel w w' ∧ match formW ws with
    | none => ∃ (k : Int) (s p : ByteArray) (h b : Bool), e = .returned (.tuple #[.agg #[.int .i64 k, .int .i64 0, .string s, .string p, .bool h], .bool false, .bool b])
    | some (k, n, p) => e = .returned (.tuple #[.agg #[.int .i64 k, .int .i64 0, .string (ofL n), .string (ofL (p.getD [])), .bool p.isSome], .bool true, .bool (okF k n p)])
theorem done3 {f : Func} (hf : f.results = #[.cell 2 138, .tmp 3, .tmp 4]) {tmps : Array Value} {g : Nat} {x y : Value} {v0 v1 v2 v3 v4 : Value} {W : World} (hp : tmps.getD 2 undef = .pointer (some ⟨g, 0, none⟩)) (h3 : tmps.getD 3 undef = x) (h4 : tmps.getD 4 undef = y)
    (h1 : v0.oneCell' = true ∧ v1.oneCell' = true ∧ v2.oneCell' = true ∧ v3.oneCell' = true ∧ v4.oneCell' = true)
    (hB : Blk W g 138 [v0, v1, v2, v3, v4]) : (results f tmps).run Tryz.prog W = .ok (.tuple #[.agg #[v0, v1, v2, v3, v4], x, y]) W := by
  have hp' : tmps[2]?.getD undef = .pointer (some ⟨g, 0, none⟩) := by simpa using hp
  have h3' : tmps[3]?.getD undef = x := by simpa using h3
  have h4' : tmps[4]?.getD undef = y := by simpa using h4
  have hl := run_loadVar_row W g 138 #[v0, v1, v2, v3, v4] (0, 0) _ (P := Tryz.prog) (ty := 138) hB Tryz.underlying138 rfl (by kernel_rfl)
  simp [results, hf, hp', h3', h4', asAddr, hl]
/-- Two blocks that were laid, later. -/
theorem two_blks {w w4 : World} {T : TypeId} {L0 L1 : List Value} (hb : Bel ((w.alloc (.cells L0.toArray T)).alloc (.cells L1.toArray T)) w4) : Blk w4 w.heap.size T L0 ∧ Blk w4 (w.heap.size + 1) T L1 ∧ Bel w w4 := by
  have h0 := (Blk.new w T L0).alloc (.cells L1.toArray T)
  have h1 := Blk.new (w.alloc (.cells L0.toArray T)) T L1
  have e : (w.alloc (.cells L0.toArray T)).heap.size = w.heap.size + 1 := by simp
  rw [e] at h1
  exact ⟨h0.below hb h0.lt, h1.below hb h1.lt, ((Bel.alloc w _).trans (Bel.alloc _ _)).trans hb⟩
theorem cell_two {w : World} {g p : Nat} {v : Value} (hg : g < w.heap.size) (h : w.cell? ⟨g, p, none⟩ = some v) : ∀ o1 o2, ((w.alloc o1).alloc o2).cell? ⟨g, p, none⟩ = some v :=
  fun o1 o2 => (Bel.cell ((Bel.alloc w o1).trans (Bel.alloc _ o2)) hg).trans h
theorem ok_both (n q : List UInt8) : okF 4 n (some q) = (nameL n && pathL q) := by unfold okF; rfl
theorem ok_path (k : Nat) (hk : (k == 4 || k == 6) = false) (q : List UInt8) : okF k [] (some q) = pathL q := by unfold okF; rw [hk]; rfl
theorem lit_words {x : ByteArray} {l : List UInt8} (h : toL x = l) : x = ofL l := by rw [← h, ofL_toL]
/-- Another string than a written one. -/
theorem lit_ne {x : ByteArray} {l : List UInt8} (h : x ≠ ⟨l.toArray⟩) : (x.toList == l) = false := by
  rw [ByteArray.toList_eq, beq_eq_false_iff_ne]
  intro h2
  apply h
  rw [← h2]
end Go.Proofs.YtpcapmdfjmpdiaaGreatDoor

namespace Go.Proofs.YtpcapmdfjmpdiaaGreatDoor
open Go.RowKit Go.BigFrame
set_option linter.unusedVariables false
set_option linter.unusedSimpArgs false
attribute [local go_sem ↓] sliced_cut run_min2 run_max2
attribute [local go_sem] cutA_zero
section
variable {w : World} {g o c : Nat}
set_option maxRecDepth 100000 in
set_option maxHeartbeats 1600000 in
theorem form_2_0_ (hg : g < w.heap.size) (hc0 : w.cell? ⟨g, o, none⟩ = some (.string ⟨#[105, 102]⟩)) (hnc : 1 ≤ c) (hc : c ≤ maxLen) : Calls Tryz.prog 58 #[.slice (some ⟨g, o, none⟩) 1 c] w (FormPost [[105, 102]] w) := by
  have h0 := cell_two hg hc0
  have HF : Hid (formW [[105, 102]] = none) := Lib.hid (by rw [formW1]; simp [kw, isP_cons])
  clear hg hc0
  go_enter Tryz.func58, Tryz.ntmps58
  go_wp2_with (fail)
  refine bodyPost_ret (done3 rfl rfl rfl rfl (one5 _ _ _ _ _) ((Blk.new w 138 [_, _, _, _, _]).alloc _)) rfl ?_
  refine ⟨(Bel.alloc w _).trans (Bel.alloc _ _), ?_⟩
  rw [HF.out]
  exact ⟨_, _, _, _, _, rfl⟩
set_option maxRecDepth 100000 in
set_option maxHeartbeats 1600000 in
theorem form_2_1_n (x : ByteArray) (hg : g < w.heap.size) (hc0 : w.cell? ⟨g, o, none⟩ = some (.string ⟨#[105, 102]⟩)) (hc1 : w.cell? ⟨g, o + 1, none⟩ = some (.string x)) (hnc : 2 ≤ c) (hc : c ≤ maxLen) (hs1 : 0 < x.size ∧ x.size ≤ 70000) (hp1 : isP (toL x) = false) : Calls Tryz.prog 58 #[.slice (some ⟨g, o, none⟩) 2 c] w (FormPost [[105, 102], toL x] w) := by
  have h0 := cell_two hg hc0
  have h1 := cell_two hg hc1
  have hcut1 : cutA c 1 1 (some ⟨g, o, none⟩) = some ⟨g, o + 1, none⟩ := cutA_some g o (by omega)
  have HP1 := Lib.hid (fun W => refPath_c x W hs1.1)
  rw [hp1] at HP1
  have HF : Hid (formW [[105, 102], toL x] = none) := Lib.hid (by rw [formW2]; simp [kw, isP_cons, hp1])
  clear hg hc0 hc1 hp1 hs1
  go_enter Tryz.func58, Tryz.ntmps58
  go_wp2_with (first | (go_at_call 88; ((with_reducible refine (HP1.out _).mono ?_); rintro e w3 ⟨rfl, rfl⟩)))
  refine bodyPost_ret (done3 rfl rfl rfl rfl (one5 _ _ _ _ _) ((Blk.new w 138 [_, _, _, _, _]).alloc _)) rfl ?_
  refine ⟨(Bel.alloc w _).trans (Bel.alloc _ _), ?_⟩
  rw [HF.out]
  exact ⟨_, _, _, _, _, rfl⟩
set_option maxRecDepth 100000 in
set_option maxHeartbeats 1600000 in
theorem form_2_1_p (x : ByteArray) (hg : g < w.heap.size) (hc0 : w.cell? ⟨g, o, none⟩ = some (.string ⟨#[105, 102]⟩)) (hc1 : w.cell? ⟨g, o + 1, none⟩ = some (.string x)) (hnc : 2 ≤ c) (hc : c ≤ maxLen) (hs1 : 0 < x.size ∧ x.size ≤ 70000) (hp1 : isP (toL x) = true) : Calls Tryz.prog 58 #[.slice (some ⟨g, o, none⟩) 2 c] w (FormPost [[105, 102], toL x] w) := by
  have h0 := cell_two hg hc0
  have h1 := cell_two hg hc1
  have hcut1 : cutA c 1 1 (some ⟨g, o, none⟩) = some ⟨g, o + 1, none⟩ := cutA_some g o (by omega)
  have HP1 := Lib.hid (fun W => refPath_c x W hs1.1)
  rw [hp1] at HP1
  have HF : Hid (formW [[105, 102], toL x] = some (2, [], some (toL x).tail)) := Lib.hid (by rw [formW2]; simp [kw, isP_cons, hp1])
  have hez : (x.extract 1 x.size).size ≤ 2000000 := by simp; omega
  have hx1 : 1 ≤ x.size := hs1.1
  have HSP := Lib.hid (fun W => refSplit_c (x.extract 1 x.size) W hez)
  have HTE := Lib.hid (tail_extract x)
  have HTP := Lib.hid (tail_path x)
  clear hez
  clear hg hc0 hc1 hp1 hs1
  cases hq : pathOf (x.extract 1 x.size) with
  | none =>
    have HQ := Lib.hid hq
    clear hq
    go_enter Tryz.func58, Tryz.ntmps58
    go_wp2_with (first | (go_at_call 88; ((with_reducible refine (HP1.out _).mono ?_); rintro e w3 ⟨rfl, rfl⟩)) | (go_at_call 50; refine (HSP.out _).mono ?_; rintro e w4 ⟨hb, hm⟩; rw [HQ.out] at hm; obtain rfl := hm; obtain ⟨hz, ht, hb2⟩ := two_blks hb; have HZ4 := Lib.hid hz; have HB4 := Lib.hid hb2; obtain ⟨t0, t1, t2, t3, t4⟩ := cells5 ht; obtain ⟨z0, z1, z2, z3, z4⟩ := cells5 hz; obtain ⟨y0, y1, y2, y3, y4⟩ := frees5 hz; clear hb hz ht hb2))
    refine bodyPost_ret (done3 rfl rfl rfl rfl (one5 _ _ _ _ _) (set5 HZ4.out _ _ _ _ _)) rfl ?_
    refine ⟨bel_on1 HB4.out (only5 _ _ _ _ _ _ _) (Nat.le_refl _), ?_⟩
    rw [HF.out]
    dsimp only
    rw [ok_path 2 rfl, HTP.out, HQ.out]
    rw [show (some (toL x).tail).getD [] = (toL x).tail from rfl, HTE.out]
    rfl
  | some l =>
    have HQ := Lib.hid hq
    clear hq
    go_enter Tryz.func58, Tryz.ntmps58
    go_wp2_with (first | (go_at_call 88; ((with_reducible refine (HP1.out _).mono ?_); rintro e w3 ⟨rfl, rfl⟩)) | (go_at_call 50; refine (HSP.out _).mono ?_; rintro e w4 ⟨hb, hm⟩; rw [HQ.out] at hm; obtain ⟨A4, c4, rfl, _⟩ := hm; obtain ⟨hz, ht, hb2⟩ := two_blks hb; have HZ4 := Lib.hid hz; have HB4 := Lib.hid hb2; obtain ⟨t0, t1, t2, t3, t4⟩ := cells5 ht; obtain ⟨z0, z1, z2, z3, z4⟩ := cells5 hz; obtain ⟨y0, y1, y2, y3, y4⟩ := frees5 hz; clear hb hz ht hb2))
    refine bodyPost_ret (done3 rfl rfl rfl rfl (one5 _ _ _ _ _) (set5 HZ4.out _ _ _ _ _)) rfl ?_
    refine ⟨bel_on1 HB4.out (only5 _ _ _ _ _ _ _) (Nat.le_refl _), ?_⟩
    rw [HF.out]
    dsimp only
    rw [ok_path 2 rfl, HTP.out, HQ.out]
    rw [show (some (toL x).tail).getD [] = (toL x).tail from rfl, HTE.out]
    rfl
set_option maxRecDepth 100000 in
set_option maxHeartbeats 1600000 in
theorem form_2_1m_n (x : ByteArray) (r : List ByteArray) (m : Nat) (hm : 2 < m) (hg : g < w.heap.size) (hc0 : w.cell? ⟨g, o, none⟩ = some (.string ⟨#[105, 102]⟩)) (hc1 : w.cell? ⟨g, o + 1, none⟩ = some (.string x)) (hnc : m ≤ c) (hc : c ≤ maxLen) (hs1 : 0 < x.size ∧ x.size ≤ 70000) (hp1 : isP (toL x) = false) (hF : formW ([105, 102] :: toL x :: r.map toL) = none) : Calls Tryz.prog 58 #[.slice (some ⟨g, o, none⟩) m c] w (FormPost ([105, 102] :: toL x :: r.map toL) w) := by
  have h0 := cell_two hg hc0
  have h1 := cell_two hg hc1
  have hcut1 : cutA c 1 1 (some ⟨g, o, none⟩) = some ⟨g, o + 1, none⟩ := cutA_some g o (by omega)
  have HP1 := Lib.hid (fun W => refPath_c x W hs1.1)
  rw [hp1] at HP1
  have HF := Lib.hid hF
  have hm1 : ¬ m = 0 := by omega
  have hm2 : ¬ m - 1 = 0 := by omega
  have hb1 : ((m : Int) == 0) = false := by rw [beq_eq_false_iff_ne]; omega
  have hb2 : (((m - 1 : Nat) : Int) == 0) = false := by rw [beq_eq_false_iff_ne]; omega
  have hm3 : ¬ m - 1 - 1 = 0 := by omega
  have hb3 : (((m - 1 - 1 : Nat) : Int) == 0) = false := by rw [beq_eq_false_iff_ne]; omega
  clear hg hc0 hc1 hF hp1 hs1
  go_enter Tryz.func58, Tryz.ntmps58
  go_wp2_with (first | (go_at_call 88; ((with_reducible refine (HP1.out _).mono ?_); rintro e w3 ⟨rfl, rfl⟩)))
  refine bodyPost_ret (done3 rfl rfl rfl rfl (one5 _ _ _ _ _) ((Blk.new w 138 [_, _, _, _, _]).alloc _)) rfl ?_
  refine ⟨(Bel.alloc w _).trans (Bel.alloc _ _), ?_⟩
  rw [HF.out]
  exact ⟨_, _, _, _, _, rfl⟩
set_option maxRecDepth 100000 in
set_option maxHeartbeats 1600000 in
theorem form_2_1m_p (x : ByteArray) (r : List ByteArray) (m : Nat) (hm : 2 < m) (hg : g < w.heap.size) (hc0 : w.cell? ⟨g, o, none⟩ = some (.string ⟨#[105, 102]⟩)) (hc1 : w.cell? ⟨g, o + 1, none⟩ = some (.string x)) (hnc : m ≤ c) (hc : c ≤ maxLen) (hs1 : 0 < x.size ∧ x.size ≤ 70000) (hp1 : isP (toL x) = true) (hF : formW ([105, 102] :: toL x :: r.map toL) = none) : Calls Tryz.prog 58 #[.slice (some ⟨g, o, none⟩) m c] w (FormPost ([105, 102] :: toL x :: r.map toL) w) := by
  have h0 := cell_two hg hc0
  have h1 := cell_two hg hc1
  have hcut1 : cutA c 1 1 (some ⟨g, o, none⟩) = some ⟨g, o + 1, none⟩ := cutA_some g o (by omega)
  have HP1 := Lib.hid (fun W => refPath_c x W hs1.1)
  rw [hp1] at HP1
  have HF := Lib.hid hF
  have hm1 : ¬ m = 0 := by omega
  have hm2 : ¬ m - 1 = 0 := by omega
  have hb1 : ((m : Int) == 0) = false := by rw [beq_eq_false_iff_ne]; omega
  have hb2 : (((m - 1 : Nat) : Int) == 0) = false := by rw [beq_eq_false_iff_ne]; omega
  have hm3 : ¬ m - 1 - 1 = 0 := by omega
  have hb3 : (((m - 1 - 1 : Nat) : Int) == 0) = false := by rw [beq_eq_false_iff_ne]; omega
  have hez : (x.extract 1 x.size).size ≤ 2000000 := by simp; omega
  have hx1 : 1 ≤ x.size := hs1.1
  have HSP := Lib.hid (fun W => refSplit_c (x.extract 1 x.size) W hez)
  have HTE := Lib.hid (tail_extract x)
  have HTP := Lib.hid (tail_path x)
  clear hez
  clear hg hc0 hc1 hF hp1 hs1
  cases hq : pathOf (x.extract 1 x.size) with
  | none =>
    have HQ := Lib.hid hq
    clear hq
    go_enter Tryz.func58, Tryz.ntmps58
    go_wp2_with (first | (go_at_call 88; ((with_reducible refine (HP1.out _).mono ?_); rintro e w3 ⟨rfl, rfl⟩)) | (go_at_call 50; refine (HSP.out _).mono ?_; rintro e w4 ⟨hb, hm⟩; rw [HQ.out] at hm; obtain rfl := hm; obtain ⟨hz, ht, hb2⟩ := two_blks hb; have HZ4 := Lib.hid hz; have HB4 := Lib.hid hb2; obtain ⟨t0, t1, t2, t3, t4⟩ := cells5 ht; obtain ⟨z0, z1, z2, z3, z4⟩ := cells5 hz; obtain ⟨y0, y1, y2, y3, y4⟩ := frees5 hz; clear hb hz ht hb2))
    refine bodyPost_ret (done3 rfl rfl rfl rfl (one5 _ _ _ _ _) (set5 HZ4.out _ _ _ _ _)) rfl ?_
    refine ⟨bel_on1 HB4.out (only5 _ _ _ _ _ _ _) (Nat.le_refl _), ?_⟩
    rw [HF.out]
    exact ⟨_, _, _, _, _, rfl⟩
  | some l =>
    have HQ := Lib.hid hq
    clear hq
    go_enter Tryz.func58, Tryz.ntmps58
    go_wp2_with (first | (go_at_call 88; ((with_reducible refine (HP1.out _).mono ?_); rintro e w3 ⟨rfl, rfl⟩)) | (go_at_call 50; refine (HSP.out _).mono ?_; rintro e w4 ⟨hb, hm⟩; rw [HQ.out] at hm; obtain ⟨A4, c4, rfl, _⟩ := hm; obtain ⟨hz, ht, hb2⟩ := two_blks hb; have HZ4 := Lib.hid hz; have HB4 := Lib.hid hb2; obtain ⟨t0, t1, t2, t3, t4⟩ := cells5 ht; obtain ⟨z0, z1, z2, z3, z4⟩ := cells5 hz; obtain ⟨y0, y1, y2, y3, y4⟩ := frees5 hz; clear hb hz ht hb2))
    refine bodyPost_ret (done3 rfl rfl rfl rfl (one5 _ _ _ _ _) (set5 HZ4.out _ _ _ _ _)) rfl ?_
    refine ⟨bel_on1 HB4.out (only5 _ _ _ _ _ _ _) (Nat.le_refl _), ?_⟩
    rw [HF.out]
    exact ⟨_, _, _, _, _, rfl⟩
set_option maxRecDepth 100000 in
set_option maxHeartbeats 1600000 in
theorem form_3_0_ (hg : g < w.heap.size) (hc0 : w.cell? ⟨g, o, none⟩ = some (.string ⟨#[114, 97, 110, 103, 101]⟩)) (hnc : 1 ≤ c) (hc : c ≤ maxLen) : Calls Tryz.prog 58 #[.slice (some ⟨g, o, none⟩) 1 c] w (FormPost [[114, 97, 110, 103, 101]] w) := by
  have h0 := cell_two hg hc0
  have HF : Hid (formW [[114, 97, 110, 103, 101]] = none) := Lib.hid (by rw [formW1]; simp [kw, isP_cons])
  clear hg hc0
  go_enter Tryz.func58, Tryz.ntmps58
  go_wp2_with (fail)
  refine bodyPost_ret (done3 rfl rfl rfl rfl (one5 _ _ _ _ _) ((Blk.new w 138 [_, _, _, _, _]).alloc _)) rfl ?_
  refine ⟨(Bel.alloc w _).trans (Bel.alloc _ _), ?_⟩
  rw [HF.out]
  exact ⟨_, _, _, _, _, rfl⟩
set_option maxRecDepth 100000 in
set_option maxHeartbeats 1600000 in
theorem form_3_1_n (x : ByteArray) (hg : g < w.heap.size) (hc0 : w.cell? ⟨g, o, none⟩ = some (.string ⟨#[114, 97, 110, 103, 101]⟩)) (hc1 : w.cell? ⟨g, o + 1, none⟩ = some (.string x)) (hnc : 2 ≤ c) (hc : c ≤ maxLen) (hs1 : 0 < x.size ∧ x.size ≤ 70000) (hp1 : isP (toL x) = false) : Calls Tryz.prog 58 #[.slice (some ⟨g, o, none⟩) 2 c] w (FormPost [[114, 97, 110, 103, 101], toL x] w) := by
  have h0 := cell_two hg hc0
  have h1 := cell_two hg hc1
  have hcut1 : cutA c 1 1 (some ⟨g, o, none⟩) = some ⟨g, o + 1, none⟩ := cutA_some g o (by omega)
  have HP1 := Lib.hid (fun W => refPath_c x W hs1.1)
  rw [hp1] at HP1
  have HF : Hid (formW [[114, 97, 110, 103, 101], toL x] = none) := Lib.hid (by rw [formW2]; simp [kw, isP_cons, hp1])
  clear hg hc0 hc1 hp1 hs1
  go_enter Tryz.func58, Tryz.ntmps58
  go_wp2_with (first | (go_at_call 88; ((with_reducible refine (HP1.out _).mono ?_); rintro e w3 ⟨rfl, rfl⟩)))
  refine bodyPost_ret (done3 rfl rfl rfl rfl (one5 _ _ _ _ _) ((Blk.new w 138 [_, _, _, _, _]).alloc _)) rfl ?_
  refine ⟨(Bel.alloc w _).trans (Bel.alloc _ _), ?_⟩
  rw [HF.out]
  exact ⟨_, _, _, _, _, rfl⟩
set_option maxRecDepth 100000 in
set_option maxHeartbeats 1600000 in
theorem form_3_1_p (x : ByteArray) (hg : g < w.heap.size) (hc0 : w.cell? ⟨g, o, none⟩ = some (.string ⟨#[114, 97, 110, 103, 101]⟩)) (hc1 : w.cell? ⟨g, o + 1, none⟩ = some (.string x)) (hnc : 2 ≤ c) (hc : c ≤ maxLen) (hs1 : 0 < x.size ∧ x.size ≤ 70000) (hp1 : isP (toL x) = true) : Calls Tryz.prog 58 #[.slice (some ⟨g, o, none⟩) 2 c] w (FormPost [[114, 97, 110, 103, 101], toL x] w) := by
  have h0 := cell_two hg hc0
  have h1 := cell_two hg hc1
  have hcut1 : cutA c 1 1 (some ⟨g, o, none⟩) = some ⟨g, o + 1, none⟩ := cutA_some g o (by omega)
  have HP1 := Lib.hid (fun W => refPath_c x W hs1.1)
  rw [hp1] at HP1
  have HF : Hid (formW [[114, 97, 110, 103, 101], toL x] = some (3, [], some (toL x).tail)) := Lib.hid (by rw [formW2]; simp [kw, isP_cons, hp1])
  have hez : (x.extract 1 x.size).size ≤ 2000000 := by simp; omega
  have hx1 : 1 ≤ x.size := hs1.1
  have HSP := Lib.hid (fun W => refSplit_c (x.extract 1 x.size) W hez)
  have HTE := Lib.hid (tail_extract x)
  have HTP := Lib.hid (tail_path x)
  clear hez
  clear hg hc0 hc1 hp1 hs1
  cases hq : pathOf (x.extract 1 x.size) with
  | none =>
    have HQ := Lib.hid hq
    clear hq
    go_enter Tryz.func58, Tryz.ntmps58
    go_wp2_with (first | (go_at_call 88; ((with_reducible refine (HP1.out _).mono ?_); rintro e w3 ⟨rfl, rfl⟩)) | (go_at_call 50; refine (HSP.out _).mono ?_; rintro e w4 ⟨hb, hm⟩; rw [HQ.out] at hm; obtain rfl := hm; obtain ⟨hz, ht, hb2⟩ := two_blks hb; have HZ4 := Lib.hid hz; have HB4 := Lib.hid hb2; obtain ⟨t0, t1, t2, t3, t4⟩ := cells5 ht; obtain ⟨z0, z1, z2, z3, z4⟩ := cells5 hz; obtain ⟨y0, y1, y2, y3, y4⟩ := frees5 hz; clear hb hz ht hb2))
    refine bodyPost_ret (done3 rfl rfl rfl rfl (one5 _ _ _ _ _) (set5 HZ4.out _ _ _ _ _)) rfl ?_
    refine ⟨bel_on1 HB4.out (only5 _ _ _ _ _ _ _) (Nat.le_refl _), ?_⟩
    rw [HF.out]
    dsimp only
    rw [ok_path 3 rfl, HTP.out, HQ.out]
    rw [show (some (toL x).tail).getD [] = (toL x).tail from rfl, HTE.out]
    rfl
  | some l =>
    have HQ := Lib.hid hq
    clear hq
    go_enter Tryz.func58, Tryz.ntmps58
    go_wp2_with (first | (go_at_call 88; ((with_reducible refine (HP1.out _).mono ?_); rintro e w3 ⟨rfl, rfl⟩)) | (go_at_call 50; refine (HSP.out _).mono ?_; rintro e w4 ⟨hb, hm⟩; rw [HQ.out] at hm; obtain ⟨A4, c4, rfl, _⟩ := hm; obtain ⟨hz, ht, hb2⟩ := two_blks hb; have HZ4 := Lib.hid hz; have HB4 := Lib.hid hb2; obtain ⟨t0, t1, t2, t3, t4⟩ := cells5 ht; obtain ⟨z0, z1, z2, z3, z4⟩ := cells5 hz; obtain ⟨y0, y1, y2, y3, y4⟩ := frees5 hz; clear hb hz ht hb2))
    refine bodyPost_ret (done3 rfl rfl rfl rfl (one5 _ _ _ _ _) (set5 HZ4.out _ _ _ _ _)) rfl ?_
    refine ⟨bel_on1 HB4.out (only5 _ _ _ _ _ _ _) (Nat.le_refl _), ?_⟩
    rw [HF.out]
    dsimp only
    rw [ok_path 3 rfl, HTP.out, HQ.out]
    rw [show (some (toL x).tail).getD [] = (toL x).tail from rfl, HTE.out]
    rfl
set_option maxRecDepth 100000 in
set_option maxHeartbeats 1600000 in
theorem form_3_1m_n (x : ByteArray) (r : List ByteArray) (m : Nat) (hm : 2 < m) (hg : g < w.heap.size) (hc0 : w.cell? ⟨g, o, none⟩ = some (.string ⟨#[114, 97, 110, 103, 101]⟩)) (hc1 : w.cell? ⟨g, o + 1, none⟩ = some (.string x)) (hnc : m ≤ c) (hc : c ≤ maxLen) (hs1 : 0 < x.size ∧ x.size ≤ 70000) (hp1 : isP (toL x) = false) (hF : formW ([114, 97, 110, 103, 101] :: toL x :: r.map toL) = none) : Calls Tryz.prog 58 #[.slice (some ⟨g, o, none⟩) m c] w (FormPost ([114, 97, 110, 103, 101] :: toL x :: r.map toL) w) := by
  have h0 := cell_two hg hc0
  have h1 := cell_two hg hc1
  have hcut1 : cutA c 1 1 (some ⟨g, o, none⟩) = some ⟨g, o + 1, none⟩ := cutA_some g o (by omega)
  have HP1 := Lib.hid (fun W => refPath_c x W hs1.1)
  rw [hp1] at HP1
  have HF := Lib.hid hF
  have hm1 : ¬ m = 0 := by omega
  have hm2 : ¬ m - 1 = 0 := by omega
  have hb1 : ((m : Int) == 0) = false := by rw [beq_eq_false_iff_ne]; omega
  have hb2 : (((m - 1 : Nat) : Int) == 0) = false := by rw [beq_eq_false_iff_ne]; omega
  have hm3 : ¬ m - 1 - 1 = 0 := by omega
  have hb3 : (((m - 1 - 1 : Nat) : Int) == 0) = false := by rw [beq_eq_false_iff_ne]; omega
  clear hg hc0 hc1 hF hp1 hs1
  go_enter Tryz.func58, Tryz.ntmps58
  go_wp2_with (first | (go_at_call 88; ((with_reducible refine (HP1.out _).mono ?_); rintro e w3 ⟨rfl, rfl⟩)))
  refine bodyPost_ret (done3 rfl rfl rfl rfl (one5 _ _ _ _ _) ((Blk.new w 138 [_, _, _, _, _]).alloc _)) rfl ?_
  refine ⟨(Bel.alloc w _).trans (Bel.alloc _ _), ?_⟩
  rw [HF.out]
  exact ⟨_, _, _, _, _, rfl⟩
set_option maxRecDepth 100000 in
set_option maxHeartbeats 1600000 in
theorem form_3_1m_p (x : ByteArray) (r : List ByteArray) (m : Nat) (hm : 2 < m) (hg : g < w.heap.size) (hc0 : w.cell? ⟨g, o, none⟩ = some (.string ⟨#[114, 97, 110, 103, 101]⟩)) (hc1 : w.cell? ⟨g, o + 1, none⟩ = some (.string x)) (hnc : m ≤ c) (hc : c ≤ maxLen) (hs1 : 0 < x.size ∧ x.size ≤ 70000) (hp1 : isP (toL x) = true) (hF : formW ([114, 97, 110, 103, 101] :: toL x :: r.map toL) = none) : Calls Tryz.prog 58 #[.slice (some ⟨g, o, none⟩) m c] w (FormPost ([114, 97, 110, 103, 101] :: toL x :: r.map toL) w) := by
  have h0 := cell_two hg hc0
  have h1 := cell_two hg hc1
  have hcut1 : cutA c 1 1 (some ⟨g, o, none⟩) = some ⟨g, o + 1, none⟩ := cutA_some g o (by omega)
  have HP1 := Lib.hid (fun W => refPath_c x W hs1.1)
  rw [hp1] at HP1
  have HF := Lib.hid hF
  have hm1 : ¬ m = 0 := by omega
  have hm2 : ¬ m - 1 = 0 := by omega
  have hb1 : ((m : Int) == 0) = false := by rw [beq_eq_false_iff_ne]; omega
  have hb2 : (((m - 1 : Nat) : Int) == 0) = false := by rw [beq_eq_false_iff_ne]; omega
  have hm3 : ¬ m - 1 - 1 = 0 := by omega
  have hb3 : (((m - 1 - 1 : Nat) : Int) == 0) = false := by rw [beq_eq_false_iff_ne]; omega
  have hez : (x.extract 1 x.size).size ≤ 2000000 := by simp; omega
  have hx1 : 1 ≤ x.size := hs1.1
  have HSP := Lib.hid (fun W => refSplit_c (x.extract 1 x.size) W hez)
  have HTE := Lib.hid (tail_extract x)
  have HTP := Lib.hid (tail_path x)
  clear hez
  clear hg hc0 hc1 hF hp1 hs1
  cases hq : pathOf (x.extract 1 x.size) with
  | none =>
    have HQ := Lib.hid hq
    clear hq
    go_enter Tryz.func58, Tryz.ntmps58
    go_wp2_with (first | (go_at_call 88; ((with_reducible refine (HP1.out _).mono ?_); rintro e w3 ⟨rfl, rfl⟩)) | (go_at_call 50; refine (HSP.out _).mono ?_; rintro e w4 ⟨hb, hm⟩; rw [HQ.out] at hm; obtain rfl := hm; obtain ⟨hz, ht, hb2⟩ := two_blks hb; have HZ4 := Lib.hid hz; have HB4 := Lib.hid hb2; obtain ⟨t0, t1, t2, t3, t4⟩ := cells5 ht; obtain ⟨z0, z1, z2, z3, z4⟩ := cells5 hz; obtain ⟨y0, y1, y2, y3, y4⟩ := frees5 hz; clear hb hz ht hb2))
    refine bodyPost_ret (done3 rfl rfl rfl rfl (one5 _ _ _ _ _) (set5 HZ4.out _ _ _ _ _)) rfl ?_
    refine ⟨bel_on1 HB4.out (only5 _ _ _ _ _ _ _) (Nat.le_refl _), ?_⟩
    rw [HF.out]
    exact ⟨_, _, _, _, _, rfl⟩
  | some l =>
    have HQ := Lib.hid hq
    clear hq
    go_enter Tryz.func58, Tryz.ntmps58
    go_wp2_with (first | (go_at_call 88; ((with_reducible refine (HP1.out _).mono ?_); rintro e w3 ⟨rfl, rfl⟩)) | (go_at_call 50; refine (HSP.out _).mono ?_; rintro e w4 ⟨hb, hm⟩; rw [HQ.out] at hm; obtain ⟨A4, c4, rfl, _⟩ := hm; obtain ⟨hz, ht, hb2⟩ := two_blks hb; have HZ4 := Lib.hid hz; have HB4 := Lib.hid hb2; obtain ⟨t0, t1, t2, t3, t4⟩ := cells5 ht; obtain ⟨z0, z1, z2, z3, z4⟩ := cells5 hz; obtain ⟨y0, y1, y2, y3, y4⟩ := frees5 hz; clear hb hz ht hb2))
    refine bodyPost_ret (done3 rfl rfl rfl rfl (one5 _ _ _ _ _) (set5 HZ4.out _ _ _ _ _)) rfl ?_
    refine ⟨bel_on1 HB4.out (only5 _ _ _ _ _ _ _) (Nat.le_refl _), ?_⟩
    rw [HF.out]
    exact ⟨_, _, _, _, _, rfl⟩
end
end Go.Proofs.YtpcapmdfjmpdiaaGreatDoor

namespace Go.Proofs.YtpcapmdfjmpdiaaGreatDoor
open Go.RowKit Go.BigFrame
set_option linter.unusedVariables false
set_option linter.unusedSimpArgs false
attribute [local go_sem ↓] sliced_cut run_min2 run_max2
attribute [local go_sem] cutA_zero
section
variable {w : World} {g o c : Nat}
set_option maxRecDepth 100000 in
set_option maxHeartbeats 1600000 in
theorem form_4_0_ (hg : g < w.heap.size) (hc0 : w.cell? ⟨g, o, none⟩ = some (.string ⟨#[99, 97, 108, 108]⟩)) (hnc : 1 ≤ c) (hc : c ≤ maxLen) : Calls Tryz.prog 58 #[.slice (some ⟨g, o, none⟩) 1 c] w (FormPost [[99, 97, 108, 108]] w) := by
  have h0 := cell_two hg hc0
  have HF : Hid (formW [[99, 97, 108, 108]] = none) := Lib.hid (by rw [formW1]; simp [kw, isP_cons])
  clear hg hc0
  go_enter Tryz.func58, Tryz.ntmps58
  go_wp2_with (fail)
  refine bodyPost_ret (done3 rfl rfl rfl rfl (one5 _ _ _ _ _) ((Blk.new w 138 [_, _, _, _, _]).alloc _)) rfl ?_
  refine ⟨(Bel.alloc w _).trans (Bel.alloc _ _), ?_⟩
  rw [HF.out]
  exact ⟨_, _, _, _, _, rfl⟩
set_option maxRecDepth 100000 in
set_option maxHeartbeats 1600000 in
theorem form_4_1_p (x : ByteArray) (hg : g < w.heap.size) (hc0 : w.cell? ⟨g, o, none⟩ = some (.string ⟨#[99, 97, 108, 108]⟩)) (hc1 : w.cell? ⟨g, o + 1, none⟩ = some (.string x)) (hnc : 2 ≤ c) (hc : c ≤ maxLen) (hs1 : 0 < x.size ∧ x.size ≤ 70000) (hp1 : isP (toL x) = true) : Calls Tryz.prog 58 #[.slice (some ⟨g, o, none⟩) 2 c] w (FormPost [[99, 97, 108, 108], toL x] w) := by
  have h0 := cell_two hg hc0
  have h1 := cell_two hg hc1
  have hcut1 : cutA c 1 1 (some ⟨g, o, none⟩) = some ⟨g, o + 1, none⟩ := cutA_some g o (by omega)
  have HP1 := Lib.hid (fun W => refPath_c x W hs1.1)
  rw [hp1] at HP1
  have HF : Hid (formW [[99, 97, 108, 108], toL x] = none) := Lib.hid (by rw [formW2]; simp [kw, isP_cons, hp1])
  clear hg hc0 hc1 hp1 hs1
  go_enter Tryz.func58, Tryz.ntmps58
  go_wp2_with (first | (go_at_call 88; ((with_reducible refine (HP1.out _).mono ?_); rintro e w3 ⟨rfl, rfl⟩)))
  refine bodyPost_ret (done3 rfl rfl rfl rfl (one5 _ _ _ _ _) ((Blk.new w 138 [_, _, _, _, _]).alloc _)) rfl ?_
  refine ⟨(Bel.alloc w _).trans (Bel.alloc _ _), ?_⟩
  rw [HF.out]
  exact ⟨_, _, _, _, _, rfl⟩
set_option maxRecDepth 100000 in
set_option maxHeartbeats 1600000 in
theorem form_4_1m_p (x : ByteArray) (r : List ByteArray) (m : Nat) (hm : 2 < m) (hg : g < w.heap.size) (hc0 : w.cell? ⟨g, o, none⟩ = some (.string ⟨#[99, 97, 108, 108]⟩)) (hc1 : w.cell? ⟨g, o + 1, none⟩ = some (.string x)) (hnc : m ≤ c) (hc : c ≤ maxLen) (hs1 : 0 < x.size ∧ x.size ≤ 70000) (hp1 : isP (toL x) = true) (hF : formW ([99, 97, 108, 108] :: toL x :: r.map toL) = none) : Calls Tryz.prog 58 #[.slice (some ⟨g, o, none⟩) m c] w (FormPost ([99, 97, 108, 108] :: toL x :: r.map toL) w) := by
  have h0 := cell_two hg hc0
  have h1 := cell_two hg hc1
  have hcut1 : cutA c 1 1 (some ⟨g, o, none⟩) = some ⟨g, o + 1, none⟩ := cutA_some g o (by omega)
  have HP1 := Lib.hid (fun W => refPath_c x W hs1.1)
  rw [hp1] at HP1
  have HF := Lib.hid hF
  have hm1 : ¬ m = 0 := by omega
  have hm2 : ¬ m - 1 = 0 := by omega
  have hb1 : ((m : Int) == 0) = false := by rw [beq_eq_false_iff_ne]; omega
  have hb2 : (((m - 1 : Nat) : Int) == 0) = false := by rw [beq_eq_false_iff_ne]; omega
  have hm3 : ¬ m - 1 - 1 = 0 := by omega
  have hb3 : (((m - 1 - 1 : Nat) : Int) == 0) = false := by rw [beq_eq_false_iff_ne]; omega
  clear hg hc0 hc1 hF hp1 hs1
  go_enter Tryz.func58, Tryz.ntmps58
  go_wp2_with (first | (go_at_call 88; ((with_reducible refine (HP1.out _).mono ?_); rintro e w3 ⟨rfl, rfl⟩)))
  refine bodyPost_ret (done3 rfl rfl rfl rfl (one5 _ _ _ _ _) ((Blk.new w 138 [_, _, _, _, _]).alloc _)) rfl ?_
  refine ⟨(Bel.alloc w _).trans (Bel.alloc _ _), ?_⟩
  rw [HF.out]
  exact ⟨_, _, _, _, _, rfl⟩
set_option maxRecDepth 100000 in
set_option maxHeartbeats 1600000 in
theorem form_4_1_n (x : ByteArray) (hg : g < w.heap.size) (hc0 : w.cell? ⟨g, o, none⟩ = some (.string ⟨#[99, 97, 108, 108]⟩)) (hc1 : w.cell? ⟨g, o + 1, none⟩ = some (.string x)) (hnc : 2 ≤ c) (hc : c ≤ maxLen) (hs1 : 0 < x.size ∧ x.size ≤ 70000) (hp1 : isP (toL x) = false) : Calls Tryz.prog 58 #[.slice (some ⟨g, o, none⟩) 2 c] w (FormPost [[99, 97, 108, 108], toL x] w) := by
  have h0 := cell_two hg hc0
  have h1 := cell_two hg hc1
  have hcut1 : cutA c 1 1 (some ⟨g, o, none⟩) = some ⟨g, o + 1, none⟩ := cutA_some g o (by omega)
  have HP1 := Lib.hid (fun W => refPath_c x W hs1.1)
  rw [hp1] at HP1
  have HF : Hid (formW [[99, 97, 108, 108], toL x] = some (4, toL x, none)) := Lib.hid (by rw [formW2]; simp [kw, isP_cons, hp1])
  have hxm : x.size ≤ maxLen := by unfold maxLen; omega
  have HNM := Lib.hid (fun W => refName_c x hxm W)
  clear hxm
  clear hg hc0 hc1 hp1 hs1
  cases hnb : nameB x with
  | false =>
    have HNB := Lib.hid hnb
    rw [hnb] at HNM
    clear hnb
    go_enter Tryz.func58, Tryz.ntmps58
    go_wp2_with (first | (go_at_call 88; ((with_reducible refine (HP1.out _).mono ?_); rintro e w3 ⟨rfl, rfl⟩)) | (go_at_call 74; refine (HNM.out _).mono ?_; rintro e w3 ⟨rfl, rfl⟩))
    refine bodyPost_ret (done3 rfl rfl rfl rfl (one5 _ _ _ _ _) ((Blk.new w 138 [_, _, _, _, _]).alloc _)) rfl ?_
    refine ⟨(Bel.alloc w _).trans (Bel.alloc _ _), ?_⟩
    rw [HF.out]
    dsimp only
    rw [show okF 4 (toL x) none = false from by unfold okF; rw [show nameL (toL x) = false from HNB.out]; rfl]
    rw [ofL_toL]
    rfl
  | true =>
    have HNB := Lib.hid hnb
    rw [hnb] at HNM
    clear hnb
    go_enter Tryz.func58, Tryz.ntmps58
    go_wp2_with (first | (go_at_call 88; ((with_reducible refine (HP1.out _).mono ?_); rintro e w3 ⟨rfl, rfl⟩)) | (go_at_call 74; refine (HNM.out _).mono ?_; rintro e w3 ⟨rfl, rfl⟩))
    refine bodyPost_ret (done3 rfl rfl rfl rfl (one5 _ _ _ _ _) ((Blk.new w 138 [_, _, _, _, _]).alloc _)) rfl ?_
    refine ⟨(Bel.alloc w _).trans (Bel.alloc _ _), ?_⟩
    rw [HF.out]
    dsimp only
    rw [show okF 4 (toL x) none = true from by unfold okF; rw [show nameL (toL x) = true from HNB.out]; rfl]
    rw [ofL_toL]
    rfl
set_option maxRecDepth 100000 in
set_option maxHeartbeats 1600000 in
theorem form_4_2_nn (x y : ByteArray) (hg : g < w.heap.size) (hc0 : w.cell? ⟨g, o, none⟩ = some (.string ⟨#[99, 97, 108, 108]⟩)) (hc1 : w.cell? ⟨g, o + 1, none⟩ = some (.string x)) (hc2 : w.cell? ⟨g, o + 2, none⟩ = some (.string y)) (hnc : 3 ≤ c) (hc : c ≤ maxLen) (hs1 : 0 < x.size ∧ x.size ≤ 70000) (hp1 : isP (toL x) = false) (hs2 : 0 < y.size ∧ y.size ≤ 70000) (hp2 : isP (toL y) = false) : Calls Tryz.prog 58 #[.slice (some ⟨g, o, none⟩) 3 c] w (FormPost [[99, 97, 108, 108], toL x, toL y] w) := by
  have h0 := cell_two hg hc0
  have h1 := cell_two hg hc1
  have h2 := cell_two hg hc2
  have hcut1 : cutA c 1 1 (some ⟨g, o, none⟩) = some ⟨g, o + 1, none⟩ := cutA_some g o (by omega)
  have hcut2 : cutA (c - 1) 1 1 (some ⟨g, o + 1, none⟩) = some ⟨g, o + 2, none⟩ := cutA_some g (o + 1) (by omega)
  have HP1 := Lib.hid (fun W => refPath_c x W hs1.1)
  rw [hp1] at HP1
  have HP2 := Lib.hid (fun W => refPath_c y W hs2.1)
  rw [hp2] at HP2
  have HF : Hid (formW [[99, 97, 108, 108], toL x, toL y] = none) := Lib.hid (by rw [formW3]; simp [kw, isP_cons, hp1, hp2])
  have hxm : x.size ≤ maxLen := by unfold maxLen; omega
  have HNM := Lib.hid (fun W => refName_c x hxm W)
  clear hxm
  clear hg hc0 hc1 hc2 hp1 hp2 hs1 hs2
  cases hnb : nameB x with
  | false =>
    have HNB := Lib.hid hnb
    rw [hnb] at HNM
    clear hnb
    go_enter Tryz.func58, Tryz.ntmps58
    go_wp2_with (first | (go_at_call 88; ((with_reducible refine (HP1.out _).mono ?_); rintro e w3 ⟨rfl, rfl⟩)) | (go_at_call 88; ((with_reducible refine (HP2.out _).mono ?_); rintro e w3 ⟨rfl, rfl⟩)) | (go_at_call 74; refine (HNM.out _).mono ?_; rintro e w3 ⟨rfl, rfl⟩))
    refine bodyPost_ret (done3 rfl rfl rfl rfl (one5 _ _ _ _ _) ((Blk.new w 138 [_, _, _, _, _]).alloc _)) rfl ?_
    refine ⟨(Bel.alloc w _).trans (Bel.alloc _ _), ?_⟩
    rw [HF.out]
    exact ⟨_, _, _, _, _, rfl⟩
  | true =>
    have HNB := Lib.hid hnb
    rw [hnb] at HNM
    clear hnb
    go_enter Tryz.func58, Tryz.ntmps58
    go_wp2_with (first | (go_at_call 88; ((with_reducible refine (HP1.out _).mono ?_); rintro e w3 ⟨rfl, rfl⟩)) | (go_at_call 88; ((with_reducible refine (HP2.out _).mono ?_); rintro e w3 ⟨rfl, rfl⟩)) | (go_at_call 74; refine (HNM.out _).mono ?_; rintro e w3 ⟨rfl, rfl⟩))
    refine bodyPost_ret (done3 rfl rfl rfl rfl (one5 _ _ _ _ _) ((Blk.new w 138 [_, _, _, _, _]).alloc _)) rfl ?_
    refine ⟨(Bel.alloc w _).trans (Bel.alloc _ _), ?_⟩
    rw [HF.out]
    exact ⟨_, _, _, _, _, rfl⟩
set_option maxRecDepth 100000 in
set_option maxHeartbeats 1600000 in
theorem form_4_2m_nn (x y : ByteArray) (r : List ByteArray) (m : Nat) (hm : 3 < m) (hg : g < w.heap.size) (hc0 : w.cell? ⟨g, o, none⟩ = some (.string ⟨#[99, 97, 108, 108]⟩)) (hc1 : w.cell? ⟨g, o + 1, none⟩ = some (.string x)) (hc2 : w.cell? ⟨g, o + 2, none⟩ = some (.string y)) (hnc : m ≤ c) (hc : c ≤ maxLen) (hs1 : 0 < x.size ∧ x.size ≤ 70000) (hp1 : isP (toL x) = false) (hs2 : 0 < y.size ∧ y.size ≤ 70000) (hp2 : isP (toL y) = false) (hF : formW ([99, 97, 108, 108] :: toL x :: toL y :: r.map toL) = none) : Calls Tryz.prog 58 #[.slice (some ⟨g, o, none⟩) m c] w (FormPost ([99, 97, 108, 108] :: toL x :: toL y :: r.map toL) w) := by
  have h0 := cell_two hg hc0
  have h1 := cell_two hg hc1
  have h2 := cell_two hg hc2
  have hcut1 : cutA c 1 1 (some ⟨g, o, none⟩) = some ⟨g, o + 1, none⟩ := cutA_some g o (by omega)
  have hcut2 : cutA (c - 1) 1 1 (some ⟨g, o + 1, none⟩) = some ⟨g, o + 2, none⟩ := cutA_some g (o + 1) (by omega)
  have HP1 := Lib.hid (fun W => refPath_c x W hs1.1)
  rw [hp1] at HP1
  have HP2 := Lib.hid (fun W => refPath_c y W hs2.1)
  rw [hp2] at HP2
  have HF := Lib.hid hF
  have hm1 : ¬ m = 0 := by omega
  have hm2 : ¬ m - 1 = 0 := by omega
  have hb1 : ((m : Int) == 0) = false := by rw [beq_eq_false_iff_ne]; omega
  have hb2 : (((m - 1 : Nat) : Int) == 0) = false := by rw [beq_eq_false_iff_ne]; omega
  have hm3 : ¬ m - 1 - 1 = 0 := by omega
  have hb3 : (((m - 1 - 1 : Nat) : Int) == 0) = false := by rw [beq_eq_false_iff_ne]; omega
  have hm4 : ¬ m - 1 - 1 - 1 = 0 := by omega
  have hb4 : (((m - 1 - 1 - 1 : Nat) : Int) == 0) = false := by rw [beq_eq_false_iff_ne]; omega
  have hxm : x.size ≤ maxLen := by unfold maxLen; omega
  have HNM := Lib.hid (fun W => refName_c x hxm W)
  clear hxm
  clear hg hc0 hc1 hc2 hF hp1 hp2 hs1 hs2
  cases hnb : nameB x with
  | false =>
    have HNB := Lib.hid hnb
    rw [hnb] at HNM
    clear hnb
    go_enter Tryz.func58, Tryz.ntmps58
    go_wp2_with (first | (go_at_call 88; ((with_reducible refine (HP1.out _).mono ?_); rintro e w3 ⟨rfl, rfl⟩)) | (go_at_call 88; ((with_reducible refine (HP2.out _).mono ?_); rintro e w3 ⟨rfl, rfl⟩)) | (go_at_call 74; refine (HNM.out _).mono ?_; rintro e w3 ⟨rfl, rfl⟩))
    refine bodyPost_ret (done3 rfl rfl rfl rfl (one5 _ _ _ _ _) ((Blk.new w 138 [_, _, _, _, _]).alloc _)) rfl ?_
    refine ⟨(Bel.alloc w _).trans (Bel.alloc _ _), ?_⟩
    rw [HF.out]
    exact ⟨_, _, _, _, _, rfl⟩
  | true =>
    have HNB := Lib.hid hnb
    rw [hnb] at HNM
    clear hnb
    go_enter Tryz.func58, Tryz.ntmps58
    go_wp2_with (first | (go_at_call 88; ((with_reducible refine (HP1.out _).mono ?_); rintro e w3 ⟨rfl, rfl⟩)) | (go_at_call 88; ((with_reducible refine (HP2.out _).mono ?_); rintro e w3 ⟨rfl, rfl⟩)) | (go_at_call 74; refine (HNM.out _).mono ?_; rintro e w3 ⟨rfl, rfl⟩))
    refine bodyPost_ret (done3 rfl rfl rfl rfl (one5 _ _ _ _ _) ((Blk.new w 138 [_, _, _, _, _]).alloc _)) rfl ?_
    refine ⟨(Bel.alloc w _).trans (Bel.alloc _ _), ?_⟩
    rw [HF.out]
    exact ⟨_, _, _, _, _, rfl⟩
set_option maxRecDepth 100000 in
set_option maxHeartbeats 1600000 in
theorem form_4_2_np (x y : ByteArray) (hg : g < w.heap.size) (hc0 : w.cell? ⟨g, o, none⟩ = some (.string ⟨#[99, 97, 108, 108]⟩)) (hc1 : w.cell? ⟨g, o + 1, none⟩ = some (.string x)) (hc2 : w.cell? ⟨g, o + 2, none⟩ = some (.string y)) (hnc : 3 ≤ c) (hc : c ≤ maxLen) (hs1 : 0 < x.size ∧ x.size ≤ 70000) (hp1 : isP (toL x) = false) (hs2 : 0 < y.size ∧ y.size ≤ 70000) (hp2 : isP (toL y) = true) : Calls Tryz.prog 58 #[.slice (some ⟨g, o, none⟩) 3 c] w (FormPost [[99, 97, 108, 108], toL x, toL y] w) := by
  have h0 := cell_two hg hc0
  have h1 := cell_two hg hc1
  have h2 := cell_two hg hc2
  have hcut1 : cutA c 1 1 (some ⟨g, o, none⟩) = some ⟨g, o + 1, none⟩ := cutA_some g o (by omega)
  have hcut2 : cutA (c - 1) 1 1 (some ⟨g, o + 1, none⟩) = some ⟨g, o + 2, none⟩ := cutA_some g (o + 1) (by omega)
  have HP1 := Lib.hid (fun W => refPath_c x W hs1.1)
  rw [hp1] at HP1
  have HP2 := Lib.hid (fun W => refPath_c y W hs2.1)
  rw [hp2] at HP2
  have HF : Hid (formW [[99, 97, 108, 108], toL x, toL y] = some (4, toL x, some (toL y).tail)) := Lib.hid (by rw [formW3]; simp [kw, isP_cons, hp1, hp2])
  have hxm : x.size ≤ maxLen := by unfold maxLen; omega
  have HNM := Lib.hid (fun W => refName_c x hxm W)
  clear hxm
  have hez : (y.extract 1 y.size).size ≤ 2000000 := by simp; omega
  have hx1 : 1 ≤ y.size := hs2.1
  have HSP := Lib.hid (fun W => refSplit_c (y.extract 1 y.size) W hez)
  have HTE := Lib.hid (tail_extract y)
  have HTP := Lib.hid (tail_path y)
  clear hez
  clear hg hc0 hc1 hc2 hp1 hp2 hs1 hs2
  cases hnb : nameB x with
  | false =>
    have HNB := Lib.hid hnb
    rw [hnb] at HNM
    clear hnb
    cases hq : pathOf (y.extract 1 y.size) with
    | none =>
      have HQ := Lib.hid hq
      clear hq
      go_enter Tryz.func58, Tryz.ntmps58
      go_wp2_with (first | (go_at_call 88; ((with_reducible refine (HP1.out _).mono ?_); rintro e w3 ⟨rfl, rfl⟩)) | (go_at_call 88; ((with_reducible refine (HP2.out _).mono ?_); rintro e w3 ⟨rfl, rfl⟩)) | (go_at_call 74; refine (HNM.out _).mono ?_; rintro e w3 ⟨rfl, rfl⟩) | (go_at_call 50; refine (HSP.out _).mono ?_; rintro e w4 ⟨hb, hm⟩; rw [HQ.out] at hm; obtain rfl := hm; obtain ⟨hz, ht, hb2⟩ := two_blks hb; have HZ4 := Lib.hid hz; have HB4 := Lib.hid hb2; obtain ⟨t0, t1, t2, t3, t4⟩ := cells5 ht; obtain ⟨z0, z1, z2, z3, z4⟩ := cells5 hz; obtain ⟨y0, y1, y2, y3, y4⟩ := frees5 hz; clear hb hz ht hb2))
      refine bodyPost_ret (done3 rfl rfl rfl rfl (one5 _ _ _ _ _) (set5 HZ4.out _ _ _ _ _)) rfl ?_
      refine ⟨bel_on1 HB4.out (only5 _ _ _ _ _ _ _) (Nat.le_refl _), ?_⟩
      rw [HF.out]
      dsimp only
      rw [ok_both, show nameL (toL x) = false from HNB.out, HTP.out, HQ.out]
      rw [show (some (toL y).tail).getD [] = (toL y).tail from rfl, HTE.out]
      rw [ofL_toL]
      rfl
    | some l =>
      have HQ := Lib.hid hq
      clear hq
      go_enter Tryz.func58, Tryz.ntmps58
      go_wp2_with (first | (go_at_call 88; ((with_reducible refine (HP1.out _).mono ?_); rintro e w3 ⟨rfl, rfl⟩)) | (go_at_call 88; ((with_reducible refine (HP2.out _).mono ?_); rintro e w3 ⟨rfl, rfl⟩)) | (go_at_call 74; refine (HNM.out _).mono ?_; rintro e w3 ⟨rfl, rfl⟩) | (go_at_call 50; refine (HSP.out _).mono ?_; rintro e w4 ⟨hb, hm⟩; rw [HQ.out] at hm; obtain ⟨A4, c4, rfl, _⟩ := hm; obtain ⟨hz, ht, hb2⟩ := two_blks hb; have HZ4 := Lib.hid hz; have HB4 := Lib.hid hb2; obtain ⟨t0, t1, t2, t3, t4⟩ := cells5 ht; obtain ⟨z0, z1, z2, z3, z4⟩ := cells5 hz; obtain ⟨y0, y1, y2, y3, y4⟩ := frees5 hz; clear hb hz ht hb2))
      refine bodyPost_ret (done3 rfl rfl rfl rfl (one5 _ _ _ _ _) (set5 HZ4.out _ _ _ _ _)) rfl ?_
      refine ⟨bel_on1 HB4.out (only5 _ _ _ _ _ _ _) (Nat.le_refl _), ?_⟩
      rw [HF.out]
      dsimp only
      rw [ok_both, show nameL (toL x) = false from HNB.out, HTP.out, HQ.out]
      rw [show (some (toL y).tail).getD [] = (toL y).tail from rfl, HTE.out]
      rw [ofL_toL]
      rfl
  | true =>
    have HNB := Lib.hid hnb
    rw [hnb] at HNM
    clear hnb
    cases hq : pathOf (y.extract 1 y.size) with
    | none =>
      have HQ := Lib.hid hq
      clear hq
      go_enter Tryz.func58, Tryz.ntmps58
      go_wp2_with (first | (go_at_call 88; ((with_reducible refine (HP1.out _).mono ?_); rintro e w3 ⟨rfl, rfl⟩)) | (go_at_call 88; ((with_reducible refine (HP2.out _).mono ?_); rintro e w3 ⟨rfl, rfl⟩)) | (go_at_call 74; refine (HNM.out _).mono ?_; rintro e w3 ⟨rfl, rfl⟩) | (go_at_call 50; refine (HSP.out _).mono ?_; rintro e w4 ⟨hb, hm⟩; rw [HQ.out] at hm; obtain rfl := hm; obtain ⟨hz, ht, hb2⟩ := two_blks hb; have HZ4 := Lib.hid hz; have HB4 := Lib.hid hb2; obtain ⟨t0, t1, t2, t3, t4⟩ := cells5 ht; obtain ⟨z0, z1, z2, z3, z4⟩ := cells5 hz; obtain ⟨y0, y1, y2, y3, y4⟩ := frees5 hz; clear hb hz ht hb2))
      refine bodyPost_ret (done3 rfl rfl rfl rfl (one5 _ _ _ _ _) (set5 HZ4.out _ _ _ _ _)) rfl ?_
      refine ⟨bel_on1 HB4.out (only5 _ _ _ _ _ _ _) (Nat.le_refl _), ?_⟩
      rw [HF.out]
      dsimp only
      rw [ok_both, show nameL (toL x) = true from HNB.out, HTP.out, HQ.out]
      rw [show (some (toL y).tail).getD [] = (toL y).tail from rfl, HTE.out]
      rw [ofL_toL]
      rfl
    | some l =>
      have HQ := Lib.hid hq
      clear hq
      go_enter Tryz.func58, Tryz.ntmps58
      go_wp2_with (first | (go_at_call 88; ((with_reducible refine (HP1.out _).mono ?_); rintro e w3 ⟨rfl, rfl⟩)) | (go_at_call 88; ((with_reducible refine (HP2.out _).mono ?_); rintro e w3 ⟨rfl, rfl⟩)) | (go_at_call 74; refine (HNM.out _).mono ?_; rintro e w3 ⟨rfl, rfl⟩) | (go_at_call 50; refine (HSP.out _).mono ?_; rintro e w4 ⟨hb, hm⟩; rw [HQ.out] at hm; obtain ⟨A4, c4, rfl, _⟩ := hm; obtain ⟨hz, ht, hb2⟩ := two_blks hb; have HZ4 := Lib.hid hz; have HB4 := Lib.hid hb2; obtain ⟨t0, t1, t2, t3, t4⟩ := cells5 ht; obtain ⟨z0, z1, z2, z3, z4⟩ := cells5 hz; obtain ⟨y0, y1, y2, y3, y4⟩ := frees5 hz; clear hb hz ht hb2))
      refine bodyPost_ret (done3 rfl rfl rfl rfl (one5 _ _ _ _ _) (set5 HZ4.out _ _ _ _ _)) rfl ?_
      refine ⟨bel_on1 HB4.out (only5 _ _ _ _ _ _ _) (Nat.le_refl _), ?_⟩
      rw [HF.out]
      dsimp only
      rw [ok_both, show nameL (toL x) = true from HNB.out, HTP.out, HQ.out]
      rw [show (some (toL y).tail).getD [] = (toL y).tail from rfl, HTE.out]
      rw [ofL_toL]
      rfl
set_option maxRecDepth 100000 in
set_option maxHeartbeats 1600000 in
theorem form_4_2m_np (x y : ByteArray) (r : List ByteArray) (m : Nat) (hm : 3 < m) (hg : g < w.heap.size) (hc0 : w.cell? ⟨g, o, none⟩ = some (.string ⟨#[99, 97, 108, 108]⟩)) (hc1 : w.cell? ⟨g, o + 1, none⟩ = some (.string x)) (hc2 : w.cell? ⟨g, o + 2, none⟩ = some (.string y)) (hnc : m ≤ c) (hc : c ≤ maxLen) (hs1 : 0 < x.size ∧ x.size ≤ 70000) (hp1 : isP (toL x) = false) (hs2 : 0 < y.size ∧ y.size ≤ 70000) (hp2 : isP (toL y) = true) (hF : formW ([99, 97, 108, 108] :: toL x :: toL y :: r.map toL) = none) : Calls Tryz.prog 58 #[.slice (some ⟨g, o, none⟩) m c] w (FormPost ([99, 97, 108, 108] :: toL x :: toL y :: r.map toL) w) := by
  have h0 := cell_two hg hc0
  have h1 := cell_two hg hc1
  have h2 := cell_two hg hc2
  have hcut1 : cutA c 1 1 (some ⟨g, o, none⟩) = some ⟨g, o + 1, none⟩ := cutA_some g o (by omega)
  have hcut2 : cutA (c - 1) 1 1 (some ⟨g, o + 1, none⟩) = some ⟨g, o + 2, none⟩ := cutA_some g (o + 1) (by omega)
  have HP1 := Lib.hid (fun W => refPath_c x W hs1.1)
  rw [hp1] at HP1
  have HP2 := Lib.hid (fun W => refPath_c y W hs2.1)
  rw [hp2] at HP2
  have HF := Lib.hid hF
  have hm1 : ¬ m = 0 := by omega
  have hm2 : ¬ m - 1 = 0 := by omega
  have hb1 : ((m : Int) == 0) = false := by rw [beq_eq_false_iff_ne]; omega
  have hb2 : (((m - 1 : Nat) : Int) == 0) = false := by rw [beq_eq_false_iff_ne]; omega
  have hm3 : ¬ m - 1 - 1 = 0 := by omega
  have hb3 : (((m - 1 - 1 : Nat) : Int) == 0) = false := by rw [beq_eq_false_iff_ne]; omega
  have hm4 : ¬ m - 1 - 1 - 1 = 0 := by omega
  have hb4 : (((m - 1 - 1 - 1 : Nat) : Int) == 0) = false := by rw [beq_eq_false_iff_ne]; omega
  have hxm : x.size ≤ maxLen := by unfold maxLen; omega
  have HNM := Lib.hid (fun W => refName_c x hxm W)
  clear hxm
  have hez : (y.extract 1 y.size).size ≤ 2000000 := by simp; omega
  have hx1 : 1 ≤ y.size := hs2.1
  have HSP := Lib.hid (fun W => refSplit_c (y.extract 1 y.size) W hez)
  have HTE := Lib.hid (tail_extract y)
  have HTP := Lib.hid (tail_path y)
  clear hez
  clear hg hc0 hc1 hc2 hF hp1 hp2 hs1 hs2
  cases hnb : nameB x with
  | false =>
    have HNB := Lib.hid hnb
    rw [hnb] at HNM
    clear hnb
    cases hq : pathOf (y.extract 1 y.size) with
    | none =>
      have HQ := Lib.hid hq
      clear hq
      go_enter Tryz.func58, Tryz.ntmps58
      go_wp2_with (first | (go_at_call 88; ((with_reducible refine (HP1.out _).mono ?_); rintro e w3 ⟨rfl, rfl⟩)) | (go_at_call 88; ((with_reducible refine (HP2.out _).mono ?_); rintro e w3 ⟨rfl, rfl⟩)) | (go_at_call 74; refine (HNM.out _).mono ?_; rintro e w3 ⟨rfl, rfl⟩) | (go_at_call 50; refine (HSP.out _).mono ?_; rintro e w4 ⟨hb, hm⟩; rw [HQ.out] at hm; obtain rfl := hm; obtain ⟨hz, ht, hb2⟩ := two_blks hb; have HZ4 := Lib.hid hz; have HB4 := Lib.hid hb2; obtain ⟨t0, t1, t2, t3, t4⟩ := cells5 ht; obtain ⟨z0, z1, z2, z3, z4⟩ := cells5 hz; obtain ⟨y0, y1, y2, y3, y4⟩ := frees5 hz; clear hb hz ht hb2))
      refine bodyPost_ret (done3 rfl rfl rfl rfl (one5 _ _ _ _ _) (set5 HZ4.out _ _ _ _ _)) rfl ?_
      refine ⟨bel_on1 HB4.out (only5 _ _ _ _ _ _ _) (Nat.le_refl _), ?_⟩
      rw [HF.out]
      exact ⟨_, _, _, _, _, rfl⟩
    | some l =>
      have HQ := Lib.hid hq
      clear hq
      go_enter Tryz.func58, Tryz.ntmps58
      go_wp2_with (first | (go_at_call 88; ((with_reducible refine (HP1.out _).mono ?_); rintro e w3 ⟨rfl, rfl⟩)) | (go_at_call 88; ((with_reducible refine (HP2.out _).mono ?_); rintro e w3 ⟨rfl, rfl⟩)) | (go_at_call 74; refine (HNM.out _).mono ?_; rintro e w3 ⟨rfl, rfl⟩) | (go_at_call 50; refine (HSP.out _).mono ?_; rintro e w4 ⟨hb, hm⟩; rw [HQ.out] at hm; obtain ⟨A4, c4, rfl, _⟩ := hm; obtain ⟨hz, ht, hb2⟩ := two_blks hb; have HZ4 := Lib.hid hz; have HB4 := Lib.hid hb2; obtain ⟨t0, t1, t2, t3, t4⟩ := cells5 ht; obtain ⟨z0, z1, z2, z3, z4⟩ := cells5 hz; obtain ⟨y0, y1, y2, y3, y4⟩ := frees5 hz; clear hb hz ht hb2))
      refine bodyPost_ret (done3 rfl rfl rfl rfl (one5 _ _ _ _ _) (set5 HZ4.out _ _ _ _ _)) rfl ?_
      refine ⟨bel_on1 HB4.out (only5 _ _ _ _ _ _ _) (Nat.le_refl _), ?_⟩
      rw [HF.out]
      exact ⟨_, _, _, _, _, rfl⟩
  | true =>
    have HNB := Lib.hid hnb
    rw [hnb] at HNM
    clear hnb
    cases hq : pathOf (y.extract 1 y.size) with
    | none =>
      have HQ := Lib.hid hq
      clear hq
      go_enter Tryz.func58, Tryz.ntmps58
      go_wp2_with (first | (go_at_call 88; ((with_reducible refine (HP1.out _).mono ?_); rintro e w3 ⟨rfl, rfl⟩)) | (go_at_call 88; ((with_reducible refine (HP2.out _).mono ?_); rintro e w3 ⟨rfl, rfl⟩)) | (go_at_call 74; refine (HNM.out _).mono ?_; rintro e w3 ⟨rfl, rfl⟩) | (go_at_call 50; refine (HSP.out _).mono ?_; rintro e w4 ⟨hb, hm⟩; rw [HQ.out] at hm; obtain rfl := hm; obtain ⟨hz, ht, hb2⟩ := two_blks hb; have HZ4 := Lib.hid hz; have HB4 := Lib.hid hb2; obtain ⟨t0, t1, t2, t3, t4⟩ := cells5 ht; obtain ⟨z0, z1, z2, z3, z4⟩ := cells5 hz; obtain ⟨y0, y1, y2, y3, y4⟩ := frees5 hz; clear hb hz ht hb2))
      refine bodyPost_ret (done3 rfl rfl rfl rfl (one5 _ _ _ _ _) (set5 HZ4.out _ _ _ _ _)) rfl ?_
      refine ⟨bel_on1 HB4.out (only5 _ _ _ _ _ _ _) (Nat.le_refl _), ?_⟩
      rw [HF.out]
      exact ⟨_, _, _, _, _, rfl⟩
    | some l =>
      have HQ := Lib.hid hq
      clear hq
      go_enter Tryz.func58, Tryz.ntmps58
      go_wp2_with (first | (go_at_call 88; ((with_reducible refine (HP1.out _).mono ?_); rintro e w3 ⟨rfl, rfl⟩)) | (go_at_call 88; ((with_reducible refine (HP2.out _).mono ?_); rintro e w3 ⟨rfl, rfl⟩)) | (go_at_call 74; refine (HNM.out _).mono ?_; rintro e w3 ⟨rfl, rfl⟩) | (go_at_call 50; refine (HSP.out _).mono ?_; rintro e w4 ⟨hb, hm⟩; rw [HQ.out] at hm; obtain ⟨A4, c4, rfl, _⟩ := hm; obtain ⟨hz, ht, hb2⟩ := two_blks hb; have HZ4 := Lib.hid hz; have HB4 := Lib.hid hb2; obtain ⟨t0, t1, t2, t3, t4⟩ := cells5 ht; obtain ⟨z0, z1, z2, z3, z4⟩ := cells5 hz; obtain ⟨y0, y1, y2, y3, y4⟩ := frees5 hz; clear hb hz ht hb2))
      refine bodyPost_ret (done3 rfl rfl rfl rfl (one5 _ _ _ _ _) (set5 HZ4.out _ _ _ _ _)) rfl ?_
      refine ⟨bel_on1 HB4.out (only5 _ _ _ _ _ _ _) (Nat.le_refl _), ?_⟩
      rw [HF.out]
      exact ⟨_, _, _, _, _, rfl⟩
end
end Go.Proofs.YtpcapmdfjmpdiaaGreatDoor

namespace Go.Proofs.YtpcapmdfjmpdiaaGreatDoor
open Go.RowKit Go.BigFrame
set_option linter.unusedVariables false
set_option linter.unusedSimpArgs false
attribute [local go_sem ↓] sliced_cut run_min2 run_max2
attribute [local go_sem] cutA_zero
section
variable {w : World} {g o c : Nat}
set_option maxRecDepth 100000 in
set_option maxHeartbeats 1600000 in
theorem form_5_0_ (hg : g < w.heap.size) (hc0 : w.cell? ⟨g, o, none⟩ = some (.string ⟨#[102, 108, 117, 115, 104]⟩)) (hnc : 1 ≤ c) (hc : c ≤ maxLen) : Calls Tryz.prog 58 #[.slice (some ⟨g, o, none⟩) 1 c] w (FormPost [[102, 108, 117, 115, 104]] w) := by
  have h0 := cell_two hg hc0
  have HF : Hid (formW [[102, 108, 117, 115, 104]] = some (5, [], none)) := Lib.hid (by rw [formW1]; simp [kw, isP_cons])
  clear hg hc0
  go_enter Tryz.func58, Tryz.ntmps58
  go_wp2_with (fail)
  refine bodyPost_ret (done3 rfl rfl rfl rfl (one5 _ _ _ _ _) ((Blk.new w 138 [_, _, _, _, _]).alloc _)) rfl ?_
  refine ⟨(Bel.alloc w _).trans (Bel.alloc _ _), ?_⟩
  rw [HF.out]
  dsimp only
  rfl
set_option maxRecDepth 100000 in
set_option maxHeartbeats 1600000 in
theorem form_5_0m_ (r : List ByteArray) (m : Nat) (hm : 1 < m) (hg : g < w.heap.size) (hc0 : w.cell? ⟨g, o, none⟩ = some (.string ⟨#[102, 108, 117, 115, 104]⟩)) (hnc : m ≤ c) (hc : c ≤ maxLen) (hF : formW ([102, 108, 117, 115, 104] :: r.map toL) = none) : Calls Tryz.prog 58 #[.slice (some ⟨g, o, none⟩) m c] w (FormPost ([102, 108, 117, 115, 104] :: r.map toL) w) := by
  have h0 := cell_two hg hc0
  have HF := Lib.hid hF
  have hm1 : ¬ m = 0 := by omega
  have hm2 : ¬ m - 1 = 0 := by omega
  have hb1 : ((m : Int) == 0) = false := by rw [beq_eq_false_iff_ne]; omega
  have hb2 : (((m - 1 : Nat) : Int) == 0) = false := by rw [beq_eq_false_iff_ne]; omega
  clear hg hc0 hF
  go_enter Tryz.func58, Tryz.ntmps58
  go_wp2_with (fail)
  refine bodyPost_ret (done3 rfl rfl rfl rfl (one5 _ _ _ _ _) ((Blk.new w 138 [_, _, _, _, _]).alloc _)) rfl ?_
  refine ⟨(Bel.alloc w _).trans (Bel.alloc _ _), ?_⟩
  rw [HF.out]
  exact ⟨_, _, _, _, _, rfl⟩
set_option maxRecDepth 100000 in
set_option maxHeartbeats 1600000 in
theorem form_7_0_ (hg : g < w.heap.size) (hc0 : w.cell? ⟨g, o, none⟩ = some (.string ⟨#[101, 108, 115, 101]⟩)) (hnc : 1 ≤ c) (hc : c ≤ maxLen) : Calls Tryz.prog 58 #[.slice (some ⟨g, o, none⟩) 1 c] w (FormPost [[101, 108, 115, 101]] w) := by
  have h0 := cell_two hg hc0
  have HF : Hid (formW [[101, 108, 115, 101]] = some (7, [], none)) := Lib.hid (by rw [formW1]; simp [kw, isP_cons])
  clear hg hc0
  go_enter Tryz.func58, Tryz.ntmps58
  go_wp2_with (fail)
  refine bodyPost_ret (done3 rfl rfl rfl rfl (one5 _ _ _ _ _) ((Blk.new w 138 [_, _, _, _, _]).alloc _)) rfl ?_
  refine ⟨(Bel.alloc w _).trans (Bel.alloc _ _), ?_⟩
  rw [HF.out]
  dsimp only
  rfl
set_option maxRecDepth 100000 in
set_option maxHeartbeats 1600000 in
theorem form_7_0m_ (r : List ByteArray) (m : Nat) (hm : 1 < m) (hg : g < w.heap.size) (hc0 : w.cell? ⟨g, o, none⟩ = some (.string ⟨#[101, 108, 115, 101]⟩)) (hnc : m ≤ c) (hc : c ≤ maxLen) (hF : formW ([101, 108, 115, 101] :: r.map toL) = none) : Calls Tryz.prog 58 #[.slice (some ⟨g, o, none⟩) m c] w (FormPost ([101, 108, 115, 101] :: r.map toL) w) := by
  have h0 := cell_two hg hc0
  have HF := Lib.hid hF
  have hm1 : ¬ m = 0 := by omega
  have hm2 : ¬ m - 1 = 0 := by omega
  have hb1 : ((m : Int) == 0) = false := by rw [beq_eq_false_iff_ne]; omega
  have hb2 : (((m - 1 : Nat) : Int) == 0) = false := by rw [beq_eq_false_iff_ne]; omega
  clear hg hc0 hF
  go_enter Tryz.func58, Tryz.ntmps58
  go_wp2_with (fail)
  refine bodyPost_ret (done3 rfl rfl rfl rfl (one5 _ _ _ _ _) ((Blk.new w 138 [_, _, _, _, _]).alloc _)) rfl ?_
  refine ⟨(Bel.alloc w _).trans (Bel.alloc _ _), ?_⟩
  rw [HF.out]
  exact ⟨_, _, _, _, _, rfl⟩
set_option maxRecDepth 100000 in
set_option maxHeartbeats 1600000 in
theorem form_8_0_ (hg : g < w.heap.size) (hc0 : w.cell? ⟨g, o, none⟩ = some (.string ⟨#[101, 110, 100]⟩)) (hnc : 1 ≤ c) (hc : c ≤ maxLen) : Calls Tryz.prog 58 #[.slice (some ⟨g, o, none⟩) 1 c] w (FormPost [[101, 110, 100]] w) := by
  have h0 := cell_two hg hc0
  have HF : Hid (formW [[101, 110, 100]] = some (8, [], none)) := Lib.hid (by rw [formW1]; simp [kw, isP_cons])
  clear hg hc0
  go_enter Tryz.func58, Tryz.ntmps58
  go_wp2_with (fail)
  refine bodyPost_ret (done3 rfl rfl rfl rfl (one5 _ _ _ _ _) ((Blk.new w 138 [_, _, _, _, _]).alloc _)) rfl ?_
  refine ⟨(Bel.alloc w _).trans (Bel.alloc _ _), ?_⟩
  rw [HF.out]
  dsimp only
  rfl
set_option maxRecDepth 100000 in
set_option maxHeartbeats 1600000 in
theorem form_8_0m_ (r : List ByteArray) (m : Nat) (hm : 1 < m) (hg : g < w.heap.size) (hc0 : w.cell? ⟨g, o, none⟩ = some (.string ⟨#[101, 110, 100]⟩)) (hnc : m ≤ c) (hc : c ≤ maxLen) (hF : formW ([101, 110, 100] :: r.map toL) = none) : Calls Tryz.prog 58 #[.slice (some ⟨g, o, none⟩) m c] w (FormPost ([101, 110, 100] :: r.map toL) w) := by
  have h0 := cell_two hg hc0
  have HF := Lib.hid hF
  have hm1 : ¬ m = 0 := by omega
  have hm2 : ¬ m - 1 = 0 := by omega
  have hb1 : ((m : Int) == 0) = false := by rw [beq_eq_false_iff_ne]; omega
  have hb2 : (((m - 1 : Nat) : Int) == 0) = false := by rw [beq_eq_false_iff_ne]; omega
  clear hg hc0 hF
  go_enter Tryz.func58, Tryz.ntmps58
  go_wp2_with (fail)
  refine bodyPost_ret (done3 rfl rfl rfl rfl (one5 _ _ _ _ _) ((Blk.new w 138 [_, _, _, _, _]).alloc _)) rfl ?_
  refine ⟨(Bel.alloc w _).trans (Bel.alloc _ _), ?_⟩
  rw [HF.out]
  exact ⟨_, _, _, _, _, rfl⟩
set_option maxRecDepth 100000 in
set_option maxHeartbeats 1600000 in
theorem form_6_0_ (hg : g < w.heap.size) (hc0 : w.cell? ⟨g, o, none⟩ = some (.string ⟨#[100, 101, 102, 105, 110, 101]⟩)) (hnc : 1 ≤ c) (hc : c ≤ maxLen) : Calls Tryz.prog 58 #[.slice (some ⟨g, o, none⟩) 1 c] w (FormPost [[100, 101, 102, 105, 110, 101]] w) := by
  have h0 := cell_two hg hc0
  have HF : Hid (formW [[100, 101, 102, 105, 110, 101]] = none) := Lib.hid (by rw [formW1]; simp [kw, isP_cons])
  clear hg hc0
  go_enter Tryz.func58, Tryz.ntmps58
  go_wp2_with (fail)
  refine bodyPost_ret (done3 rfl rfl rfl rfl (one5 _ _ _ _ _) ((Blk.new w 138 [_, _, _, _, _]).alloc _)) rfl ?_
  refine ⟨(Bel.alloc w _).trans (Bel.alloc _ _), ?_⟩
  rw [HF.out]
  exact ⟨_, _, _, _, _, rfl⟩
set_option maxRecDepth 100000 in
set_option maxHeartbeats 1600000 in
theorem form_6_1_p (x : ByteArray) (hg : g < w.heap.size) (hc0 : w.cell? ⟨g, o, none⟩ = some (.string ⟨#[100, 101, 102, 105, 110, 101]⟩)) (hc1 : w.cell? ⟨g, o + 1, none⟩ = some (.string x)) (hnc : 2 ≤ c) (hc : c ≤ maxLen) (hs1 : 0 < x.size ∧ x.size ≤ 70000) (hp1 : isP (toL x) = true) : Calls Tryz.prog 58 #[.slice (some ⟨g, o, none⟩) 2 c] w (FormPost [[100, 101, 102, 105, 110, 101], toL x] w) := by
  have h0 := cell_two hg hc0
  have h1 := cell_two hg hc1
  have hcut1 : cutA c 1 1 (some ⟨g, o, none⟩) = some ⟨g, o + 1, none⟩ := cutA_some g o (by omega)
  have HP1 := Lib.hid (fun W => refPath_c x W hs1.1)
  rw [hp1] at HP1
  have HF : Hid (formW [[100, 101, 102, 105, 110, 101], toL x] = none) := Lib.hid (by rw [formW2]; simp [kw, isP_cons, hp1])
  clear hg hc0 hc1 hp1 hs1
  go_enter Tryz.func58, Tryz.ntmps58
  go_wp2_with (first | (go_at_call 88; ((with_reducible refine (HP1.out _).mono ?_); rintro e w3 ⟨rfl, rfl⟩)))
  refine bodyPost_ret (done3 rfl rfl rfl rfl (one5 _ _ _ _ _) ((Blk.new w 138 [_, _, _, _, _]).alloc _)) rfl ?_
  refine ⟨(Bel.alloc w _).trans (Bel.alloc _ _), ?_⟩
  rw [HF.out]
  exact ⟨_, _, _, _, _, rfl⟩
set_option maxRecDepth 100000 in
set_option maxHeartbeats 1600000 in
theorem form_6_1m_p (x : ByteArray) (r : List ByteArray) (m : Nat) (hm : 2 < m) (hg : g < w.heap.size) (hc0 : w.cell? ⟨g, o, none⟩ = some (.string ⟨#[100, 101, 102, 105, 110, 101]⟩)) (hc1 : w.cell? ⟨g, o + 1, none⟩ = some (.string x)) (hnc : m ≤ c) (hc : c ≤ maxLen) (hs1 : 0 < x.size ∧ x.size ≤ 70000) (hp1 : isP (toL x) = true) (hF : formW ([100, 101, 102, 105, 110, 101] :: toL x :: r.map toL) = none) : Calls Tryz.prog 58 #[.slice (some ⟨g, o, none⟩) m c] w (FormPost ([100, 101, 102, 105, 110, 101] :: toL x :: r.map toL) w) := by
  have h0 := cell_two hg hc0
  have h1 := cell_two hg hc1
  have hcut1 : cutA c 1 1 (some ⟨g, o, none⟩) = some ⟨g, o + 1, none⟩ := cutA_some g o (by omega)
  have HP1 := Lib.hid (fun W => refPath_c x W hs1.1)
  rw [hp1] at HP1
  have HF := Lib.hid hF
  have hm1 : ¬ m = 0 := by omega
  have hm2 : ¬ m - 1 = 0 := by omega
  have hb1 : ((m : Int) == 0) = false := by rw [beq_eq_false_iff_ne]; omega
  have hb2 : (((m - 1 : Nat) : Int) == 0) = false := by rw [beq_eq_false_iff_ne]; omega
  have hm3 : ¬ m - 1 - 1 = 0 := by omega
  have hb3 : (((m - 1 - 1 : Nat) : Int) == 0) = false := by rw [beq_eq_false_iff_ne]; omega
  clear hg hc0 hc1 hF hp1 hs1
  go_enter Tryz.func58, Tryz.ntmps58
  go_wp2_with (first | (go_at_call 88; ((with_reducible refine (HP1.out _).mono ?_); rintro e w3 ⟨rfl, rfl⟩)))
  refine bodyPost_ret (done3 rfl rfl rfl rfl (one5 _ _ _ _ _) ((Blk.new w 138 [_, _, _, _, _]).alloc _)) rfl ?_
  refine ⟨(Bel.alloc w _).trans (Bel.alloc _ _), ?_⟩
  rw [HF.out]
  exact ⟨_, _, _, _, _, rfl⟩
set_option maxRecDepth 100000 in
set_option maxHeartbeats 1600000 in
theorem form_6_1_n (x : ByteArray) (hg : g < w.heap.size) (hc0 : w.cell? ⟨g, o, none⟩ = some (.string ⟨#[100, 101, 102, 105, 110, 101]⟩)) (hc1 : w.cell? ⟨g, o + 1, none⟩ = some (.string x)) (hnc : 2 ≤ c) (hc : c ≤ maxLen) (hs1 : 0 < x.size ∧ x.size ≤ 70000) (hp1 : isP (toL x) = false) : Calls Tryz.prog 58 #[.slice (some ⟨g, o, none⟩) 2 c] w (FormPost [[100, 101, 102, 105, 110, 101], toL x] w) := by
  have h0 := cell_two hg hc0
  have h1 := cell_two hg hc1
  have hcut1 : cutA c 1 1 (some ⟨g, o, none⟩) = some ⟨g, o + 1, none⟩ := cutA_some g o (by omega)
  have HP1 := Lib.hid (fun W => refPath_c x W hs1.1)
  rw [hp1] at HP1
  have HF : Hid (formW [[100, 101, 102, 105, 110, 101], toL x] = some (6, toL x, none)) := Lib.hid (by rw [formW2]; simp [kw, isP_cons, hp1])
  have hxm : x.size ≤ maxLen := by unfold maxLen; omega
  have HNM := Lib.hid (fun W => refName_c x hxm W)
  clear hxm
  clear hg hc0 hc1 hp1 hs1
  cases hnb : nameB x with
  | false =>
    have HNB := Lib.hid hnb
    rw [hnb] at HNM
    clear hnb
    go_enter Tryz.func58, Tryz.ntmps58
    go_wp2_with (first | (go_at_call 88; ((with_reducible refine (HP1.out _).mono ?_); rintro e w3 ⟨rfl, rfl⟩)) | (go_at_call 74; refine (HNM.out _).mono ?_; rintro e w3 ⟨rfl, rfl⟩))
    refine bodyPost_ret (done3 rfl rfl rfl rfl (one5 _ _ _ _ _) ((Blk.new w 138 [_, _, _, _, _]).alloc _)) rfl ?_
    refine ⟨(Bel.alloc w _).trans (Bel.alloc _ _), ?_⟩
    rw [HF.out]
    dsimp only
    rw [show okF 6 (toL x) none = false from by unfold okF; rw [show nameL (toL x) = false from HNB.out]; rfl]
    rw [ofL_toL]
    rfl
  | true =>
    have HNB := Lib.hid hnb
    rw [hnb] at HNM
    clear hnb
    go_enter Tryz.func58, Tryz.ntmps58
    go_wp2_with (first | (go_at_call 88; ((with_reducible refine (HP1.out _).mono ?_); rintro e w3 ⟨rfl, rfl⟩)) | (go_at_call 74; refine (HNM.out _).mono ?_; rintro e w3 ⟨rfl, rfl⟩))
    refine bodyPost_ret (done3 rfl rfl rfl rfl (one5 _ _ _ _ _) ((Blk.new w 138 [_, _, _, _, _]).alloc _)) rfl ?_
    refine ⟨(Bel.alloc w _).trans (Bel.alloc _ _), ?_⟩
    rw [HF.out]
    dsimp only
    rw [show okF 6 (toL x) none = true from by unfold okF; rw [show nameL (toL x) = true from HNB.out]; rfl]
    rw [ofL_toL]
    rfl
set_option maxRecDepth 100000 in
set_option maxHeartbeats 1600000 in
theorem form_6_1m_n (x : ByteArray) (r : List ByteArray) (m : Nat) (hm : 2 < m) (hg : g < w.heap.size) (hc0 : w.cell? ⟨g, o, none⟩ = some (.string ⟨#[100, 101, 102, 105, 110, 101]⟩)) (hc1 : w.cell? ⟨g, o + 1, none⟩ = some (.string x)) (hnc : m ≤ c) (hc : c ≤ maxLen) (hs1 : 0 < x.size ∧ x.size ≤ 70000) (hp1 : isP (toL x) = false) (hF : formW ([100, 101, 102, 105, 110, 101] :: toL x :: r.map toL) = none) : Calls Tryz.prog 58 #[.slice (some ⟨g, o, none⟩) m c] w (FormPost ([100, 101, 102, 105, 110, 101] :: toL x :: r.map toL) w) := by
  have h0 := cell_two hg hc0
  have h1 := cell_two hg hc1
  have hcut1 : cutA c 1 1 (some ⟨g, o, none⟩) = some ⟨g, o + 1, none⟩ := cutA_some g o (by omega)
  have HP1 := Lib.hid (fun W => refPath_c x W hs1.1)
  rw [hp1] at HP1
  have HF := Lib.hid hF
  have hm1 : ¬ m = 0 := by omega
  have hm2 : ¬ m - 1 = 0 := by omega
  have hb1 : ((m : Int) == 0) = false := by rw [beq_eq_false_iff_ne]; omega
  have hb2 : (((m - 1 : Nat) : Int) == 0) = false := by rw [beq_eq_false_iff_ne]; omega
  have hm3 : ¬ m - 1 - 1 = 0 := by omega
  have hb3 : (((m - 1 - 1 : Nat) : Int) == 0) = false := by rw [beq_eq_false_iff_ne]; omega
  have hxm : x.size ≤ maxLen := by unfold maxLen; omega
  have HNM := Lib.hid (fun W => refName_c x hxm W)
  clear hxm
  clear hg hc0 hc1 hF hp1 hs1
  cases hnb : nameB x with
  | false =>
    have HNB := Lib.hid hnb
    rw [hnb] at HNM
    clear hnb
    go_enter Tryz.func58, Tryz.ntmps58
    go_wp2_with (first | (go_at_call 88; ((with_reducible refine (HP1.out _).mono ?_); rintro e w3 ⟨rfl, rfl⟩)) | (go_at_call 74; refine (HNM.out _).mono ?_; rintro e w3 ⟨rfl, rfl⟩))
    refine bodyPost_ret (done3 rfl rfl rfl rfl (one5 _ _ _ _ _) ((Blk.new w 138 [_, _, _, _, _]).alloc _)) rfl ?_
    refine ⟨(Bel.alloc w _).trans (Bel.alloc _ _), ?_⟩
    rw [HF.out]
    exact ⟨_, _, _, _, _, rfl⟩
  | true =>
    have HNB := Lib.hid hnb
    rw [hnb] at HNM
    clear hnb
    go_enter Tryz.func58, Tryz.ntmps58
    go_wp2_with (first | (go_at_call 88; ((with_reducible refine (HP1.out _).mono ?_); rintro e w3 ⟨rfl, rfl⟩)) | (go_at_call 74; refine (HNM.out _).mono ?_; rintro e w3 ⟨rfl, rfl⟩))
    refine bodyPost_ret (done3 rfl rfl rfl rfl (one5 _ _ _ _ _) ((Blk.new w 138 [_, _, _, _, _]).alloc _)) rfl ?_
    refine ⟨(Bel.alloc w _).trans (Bel.alloc _ _), ?_⟩
    rw [HF.out]
    exact ⟨_, _, _, _, _, rfl⟩
end
end Go.Proofs.YtpcapmdfjmpdiaaGreatDoor

namespace Go.Proofs.YtpcapmdfjmpdiaaGreatDoor
open Go.RowKit Go.BigFrame
set_option linter.unusedVariables false
set_option linter.unusedSimpArgs false
attribute [local go_sem ↓] sliced_cut run_min2 run_max2
attribute [local go_sem] cutA_zero
section
variable {w : World} {g o c : Nat}
set_option maxRecDepth 100000 in
set_option maxHeartbeats 1600000 in
theorem form_1_0_ (w0 : ByteArray) (hg : g < w.heap.size) (hc0 : w.cell? ⟨g, o, none⟩ = some (.string w0)) (hnc : 1 ≤ c) (hc : c ≤ maxLen) (hs0 : 0 < w0.size ∧ w0.size ≤ 70000) (hp0 : isP (toL w0) = true) (hk0 : kw (toL w0) = 1) (d0 : w0 ≠ ⟨#[105, 102]⟩ ∧ w0 ≠ ⟨#[114, 97, 110, 103, 101]⟩ ∧ w0 ≠ ⟨#[99, 97, 108, 108]⟩ ∧ w0 ≠ ⟨#[102, 108, 117, 115, 104]⟩ ∧ w0 ≠ ⟨#[100, 101, 102, 105, 110, 101]⟩ ∧ w0 ≠ ⟨#[101, 108, 115, 101]⟩ ∧ w0 ≠ ⟨#[101, 110, 100]⟩) : Calls Tryz.prog 58 #[.slice (some ⟨g, o, none⟩) 1 c] w (FormPost [toL w0] w) := by
  have h0 := cell_two hg hc0
  obtain ⟨d1, d2, d3, d4, d5, d6, d7⟩ := d0
  have e1 : (w0.toList == [105, 102]) = false := lit_ne d1
  have e2 : (w0.toList == [114, 97, 110, 103, 101]) = false := lit_ne d2
  have e3 : (w0.toList == [99, 97, 108, 108]) = false := lit_ne d3
  have e4 : (w0.toList == [102, 108, 117, 115, 104]) = false := lit_ne d4
  have e5 : (w0.toList == [100, 101, 102, 105, 110, 101]) = false := lit_ne d5
  have e6 : (w0.toList == [101, 108, 115, 101]) = false := lit_ne d6
  have e7 : (w0.toList == [101, 110, 100]) = false := lit_ne d7
  clear d1 d2 d3 d4 d5 d6 d7
  have HP0 := Lib.hid (fun W => refPath_c w0 W hs0.1)
  rw [hp0] at HP0
  have HF : Hid (formW [toL w0] = some (1, [], some (toL w0).tail)) := Lib.hid (by rw [formW1]; simp [hk0])
  have hez : (w0.extract 1 w0.size).size ≤ 2000000 := by simp; omega
  have hx1 : 1 ≤ w0.size := hs0.1
  have HSP := Lib.hid (fun W => refSplit_c (w0.extract 1 w0.size) W hez)
  have HTE := Lib.hid (tail_extract w0)
  have HTP := Lib.hid (tail_path w0)
  clear hez
  clear hg hc0 hp0 hs0 hk0
  cases hq : pathOf (w0.extract 1 w0.size) with
  | none =>
    have HQ := Lib.hid hq
    clear hq
    go_enter Tryz.func58, Tryz.ntmps58
    go_wp2_with (first | (go_at_call 88; ((with_reducible refine (HP0.out _).mono ?_); rintro e w3 ⟨rfl, rfl⟩)) | (go_at_call 50; refine (HSP.out _).mono ?_; rintro e w4 ⟨hb, hm⟩; rw [HQ.out] at hm; obtain rfl := hm; obtain ⟨hz, ht, hb2⟩ := two_blks hb; have HZ4 := Lib.hid hz; have HB4 := Lib.hid hb2; obtain ⟨t0, t1, t2, t3, t4⟩ := cells5 ht; obtain ⟨z0, z1, z2, z3, z4⟩ := cells5 hz; obtain ⟨y0, y1, y2, y3, y4⟩ := frees5 hz; clear hb hz ht hb2))
    refine bodyPost_ret (done3 rfl rfl rfl rfl (one5 _ _ _ _ _) (set5 HZ4.out _ _ _ _ _)) rfl ?_
    refine ⟨bel_on1 HB4.out (only5 _ _ _ _ _ _ _) (Nat.le_refl _), ?_⟩
    rw [HF.out]
    dsimp only
    rw [ok_path 1 rfl, HTP.out, HQ.out]
    rw [show (some (toL w0).tail).getD [] = (toL w0).tail from rfl, HTE.out]
    rfl
  | some l =>
    have HQ := Lib.hid hq
    clear hq
    go_enter Tryz.func58, Tryz.ntmps58
    go_wp2_with (first | (go_at_call 88; ((with_reducible refine (HP0.out _).mono ?_); rintro e w3 ⟨rfl, rfl⟩)) | (go_at_call 50; refine (HSP.out _).mono ?_; rintro e w4 ⟨hb, hm⟩; rw [HQ.out] at hm; obtain ⟨A4, c4, rfl, _⟩ := hm; obtain ⟨hz, ht, hb2⟩ := two_blks hb; have HZ4 := Lib.hid hz; have HB4 := Lib.hid hb2; obtain ⟨t0, t1, t2, t3, t4⟩ := cells5 ht; obtain ⟨z0, z1, z2, z3, z4⟩ := cells5 hz; obtain ⟨y0, y1, y2, y3, y4⟩ := frees5 hz; clear hb hz ht hb2))
    refine bodyPost_ret (done3 rfl rfl rfl rfl (one5 _ _ _ _ _) (set5 HZ4.out _ _ _ _ _)) rfl ?_
    refine ⟨bel_on1 HB4.out (only5 _ _ _ _ _ _ _) (Nat.le_refl _), ?_⟩
    rw [HF.out]
    dsimp only
    rw [ok_path 1 rfl, HTP.out, HQ.out]
    rw [show (some (toL w0).tail).getD [] = (toL w0).tail from rfl, HTE.out]
    rfl
set_option maxRecDepth 100000 in
set_option maxHeartbeats 1600000 in
theorem form_1_0m_ (w0 : ByteArray) (r : List ByteArray) (m : Nat) (hm : 1 < m) (hg : g < w.heap.size) (hc0 : w.cell? ⟨g, o, none⟩ = some (.string w0)) (hnc : m ≤ c) (hc : c ≤ maxLen) (hs0 : 0 < w0.size ∧ w0.size ≤ 70000) (hp0 : isP (toL w0) = true) (hk0 : kw (toL w0) = 1) (d0 : w0 ≠ ⟨#[105, 102]⟩ ∧ w0 ≠ ⟨#[114, 97, 110, 103, 101]⟩ ∧ w0 ≠ ⟨#[99, 97, 108, 108]⟩ ∧ w0 ≠ ⟨#[102, 108, 117, 115, 104]⟩ ∧ w0 ≠ ⟨#[100, 101, 102, 105, 110, 101]⟩ ∧ w0 ≠ ⟨#[101, 108, 115, 101]⟩ ∧ w0 ≠ ⟨#[101, 110, 100]⟩) (hF : formW (toL w0 :: r.map toL) = none) : Calls Tryz.prog 58 #[.slice (some ⟨g, o, none⟩) m c] w (FormPost (toL w0 :: r.map toL) w) := by
  have h0 := cell_two hg hc0
  obtain ⟨d1, d2, d3, d4, d5, d6, d7⟩ := d0
  have e1 : (w0.toList == [105, 102]) = false := lit_ne d1
  have e2 : (w0.toList == [114, 97, 110, 103, 101]) = false := lit_ne d2
  have e3 : (w0.toList == [99, 97, 108, 108]) = false := lit_ne d3
  have e4 : (w0.toList == [102, 108, 117, 115, 104]) = false := lit_ne d4
  have e5 : (w0.toList == [100, 101, 102, 105, 110, 101]) = false := lit_ne d5
  have e6 : (w0.toList == [101, 108, 115, 101]) = false := lit_ne d6
  have e7 : (w0.toList == [101, 110, 100]) = false := lit_ne d7
  clear d1 d2 d3 d4 d5 d6 d7
  have HP0 := Lib.hid (fun W => refPath_c w0 W hs0.1)
  rw [hp0] at HP0
  have HF := Lib.hid hF
  have hm1 : ¬ m = 0 := by omega
  have hm2 : ¬ m - 1 = 0 := by omega
  have hb1 : ((m : Int) == 0) = false := by rw [beq_eq_false_iff_ne]; omega
  have hb2 : (((m - 1 : Nat) : Int) == 0) = false := by rw [beq_eq_false_iff_ne]; omega
  have hez : (w0.extract 1 w0.size).size ≤ 2000000 := by simp; omega
  have hx1 : 1 ≤ w0.size := hs0.1
  have HSP := Lib.hid (fun W => refSplit_c (w0.extract 1 w0.size) W hez)
  have HTE := Lib.hid (tail_extract w0)
  have HTP := Lib.hid (tail_path w0)
  clear hez
  clear hg hc0 hF hp0 hs0 hk0
  cases hq : pathOf (w0.extract 1 w0.size) with
  | none =>
    have HQ := Lib.hid hq
    clear hq
    go_enter Tryz.func58, Tryz.ntmps58
    go_wp2_with (first | (go_at_call 88; ((with_reducible refine (HP0.out _).mono ?_); rintro e w3 ⟨rfl, rfl⟩)) | (go_at_call 50; refine (HSP.out _).mono ?_; rintro e w4 ⟨hb, hm⟩; rw [HQ.out] at hm; obtain rfl := hm; obtain ⟨hz, ht, hb2⟩ := two_blks hb; have HZ4 := Lib.hid hz; have HB4 := Lib.hid hb2; obtain ⟨t0, t1, t2, t3, t4⟩ := cells5 ht; obtain ⟨z0, z1, z2, z3, z4⟩ := cells5 hz; obtain ⟨y0, y1, y2, y3, y4⟩ := frees5 hz; clear hb hz ht hb2))
    refine bodyPost_ret (done3 rfl rfl rfl rfl (one5 _ _ _ _ _) (set5 HZ4.out _ _ _ _ _)) rfl ?_
    refine ⟨bel_on1 HB4.out (only5 _ _ _ _ _ _ _) (Nat.le_refl _), ?_⟩
    rw [HF.out]
    exact ⟨_, _, _, _, _, rfl⟩
  | some l =>
    have HQ := Lib.hid hq
    clear hq
    go_enter Tryz.func58, Tryz.ntmps58
    go_wp2_with (first | (go_at_call 88; ((with_reducible refine (HP0.out _).mono ?_); rintro e w3 ⟨rfl, rfl⟩)) | (go_at_call 50; refine (HSP.out _).mono ?_; rintro e w4 ⟨hb, hm⟩; rw [HQ.out] at hm; obtain ⟨A4, c4, rfl, _⟩ := hm; obtain ⟨hz, ht, hb2⟩ := two_blks hb; have HZ4 := Lib.hid hz; have HB4 := Lib.hid hb2; obtain ⟨t0, t1, t2, t3, t4⟩ := cells5 ht; obtain ⟨z0, z1, z2, z3, z4⟩ := cells5 hz; obtain ⟨y0, y1, y2, y3, y4⟩ := frees5 hz; clear hb hz ht hb2))
    refine bodyPost_ret (done3 rfl rfl rfl rfl (one5 _ _ _ _ _) (set5 HZ4.out _ _ _ _ _)) rfl ?_
    refine ⟨bel_on1 HB4.out (only5 _ _ _ _ _ _ _) (Nat.le_refl _), ?_⟩
    rw [HF.out]
    exact ⟨_, _, _, _, _, rfl⟩
set_option maxRecDepth 100000 in
set_option maxHeartbeats 1600000 in
theorem form_0_0_ (w0 : ByteArray) (hg : g < w.heap.size) (hc0 : w.cell? ⟨g, o, none⟩ = some (.string w0)) (hnc : 1 ≤ c) (hc : c ≤ maxLen) (hs0 : 0 < w0.size) (hp0 : isP (toL w0) = false) (hk0 : kw (toL w0) = 0) (d0 : w0 ≠ ⟨#[105, 102]⟩ ∧ w0 ≠ ⟨#[114, 97, 110, 103, 101]⟩ ∧ w0 ≠ ⟨#[99, 97, 108, 108]⟩ ∧ w0 ≠ ⟨#[102, 108, 117, 115, 104]⟩ ∧ w0 ≠ ⟨#[100, 101, 102, 105, 110, 101]⟩ ∧ w0 ≠ ⟨#[101, 108, 115, 101]⟩ ∧ w0 ≠ ⟨#[101, 110, 100]⟩) : Calls Tryz.prog 58 #[.slice (some ⟨g, o, none⟩) 1 c] w (FormPost [toL w0] w) := by
  have h0 := cell_two hg hc0
  obtain ⟨d1, d2, d3, d4, d5, d6, d7⟩ := d0
  have e1 : (w0.toList == [105, 102]) = false := lit_ne d1
  have e2 : (w0.toList == [114, 97, 110, 103, 101]) = false := lit_ne d2
  have e3 : (w0.toList == [99, 97, 108, 108]) = false := lit_ne d3
  have e4 : (w0.toList == [102, 108, 117, 115, 104]) = false := lit_ne d4
  have e5 : (w0.toList == [100, 101, 102, 105, 110, 101]) = false := lit_ne d5
  have e6 : (w0.toList == [101, 108, 115, 101]) = false := lit_ne d6
  have e7 : (w0.toList == [101, 110, 100]) = false := lit_ne d7
  clear d1 d2 d3 d4 d5 d6 d7
  have HP0 := Lib.hid (fun W => refPath_c w0 W hs0)
  rw [hp0] at HP0
  have HF : Hid (formW [toL w0] = none) := Lib.hid (by rw [formW1]; simp [hk0])
  clear hg hc0 hp0 hs0 hk0
  go_enter Tryz.func58, Tryz.ntmps58
  go_wp2_with (first | (go_at_call 88; ((with_reducible refine (HP0.out _).mono ?_); rintro e w3 ⟨rfl, rfl⟩)))
  refine bodyPost_ret (done3 rfl rfl rfl rfl (one5 _ _ _ _ _) ((Blk.new w 138 [_, _, _, _, _]).alloc _)) rfl ?_
  refine ⟨(Bel.alloc w _).trans (Bel.alloc _ _), ?_⟩
  rw [HF.out]
  exact ⟨_, _, _, _, _, rfl⟩
set_option maxRecDepth 100000 in
set_option maxHeartbeats 1600000 in
theorem form_0_0m_ (w0 : ByteArray) (r : List ByteArray) (m : Nat) (hm : 1 < m) (hg : g < w.heap.size) (hc0 : w.cell? ⟨g, o, none⟩ = some (.string w0)) (hnc : m ≤ c) (hc : c ≤ maxLen) (hs0 : 0 < w0.size) (hp0 : isP (toL w0) = false) (hk0 : kw (toL w0) = 0) (d0 : w0 ≠ ⟨#[105, 102]⟩ ∧ w0 ≠ ⟨#[114, 97, 110, 103, 101]⟩ ∧ w0 ≠ ⟨#[99, 97, 108, 108]⟩ ∧ w0 ≠ ⟨#[102, 108, 117, 115, 104]⟩ ∧ w0 ≠ ⟨#[100, 101, 102, 105, 110, 101]⟩ ∧ w0 ≠ ⟨#[101, 108, 115, 101]⟩ ∧ w0 ≠ ⟨#[101, 110, 100]⟩) (hF : formW (toL w0 :: r.map toL) = none) : Calls Tryz.prog 58 #[.slice (some ⟨g, o, none⟩) m c] w (FormPost (toL w0 :: r.map toL) w) := by
  have h0 := cell_two hg hc0
  obtain ⟨d1, d2, d3, d4, d5, d6, d7⟩ := d0
  have e1 : (w0.toList == [105, 102]) = false := lit_ne d1
  have e2 : (w0.toList == [114, 97, 110, 103, 101]) = false := lit_ne d2
  have e3 : (w0.toList == [99, 97, 108, 108]) = false := lit_ne d3
  have e4 : (w0.toList == [102, 108, 117, 115, 104]) = false := lit_ne d4
  have e5 : (w0.toList == [100, 101, 102, 105, 110, 101]) = false := lit_ne d5
  have e6 : (w0.toList == [101, 108, 115, 101]) = false := lit_ne d6
  have e7 : (w0.toList == [101, 110, 100]) = false := lit_ne d7
  clear d1 d2 d3 d4 d5 d6 d7
  have HP0 := Lib.hid (fun W => refPath_c w0 W hs0)
  rw [hp0] at HP0
  have HF := Lib.hid hF
  have hm1 : ¬ m = 0 := by omega
  have hm2 : ¬ m - 1 = 0 := by omega
  have hb1 : ((m : Int) == 0) = false := by rw [beq_eq_false_iff_ne]; omega
  have hb2 : (((m - 1 : Nat) : Int) == 0) = false := by rw [beq_eq_false_iff_ne]; omega
  clear hg hc0 hF hp0 hs0 hk0
  go_enter Tryz.func58, Tryz.ntmps58
  go_wp2_with (first | (go_at_call 88; ((with_reducible refine (HP0.out _).mono ?_); rintro e w3 ⟨rfl, rfl⟩)))
  refine bodyPost_ret (done3 rfl rfl rfl rfl (one5 _ _ _ _ _) ((Blk.new w 138 [_, _, _, _, _]).alloc _)) rfl ?_
  refine ⟨(Bel.alloc w _).trans (Bel.alloc _ _), ?_⟩
  rw [HF.out]
  exact ⟨_, _, _, _, _, rfl⟩
end
end Go.Proofs.YtpcapmdfjmpdiaaGreatDoor

namespace Go.Proofs.YtpcapmdfjmpdiaaGreatDoor
open Go.RowKit Go.BigFrame
set_option linter.unusedVariables false
set_option linter.unusedSimpArgs false

theorem str_ne {x : ByteArray} {l : List UInt8} (h : toL x ≠ l) : x ≠ ⟨l.toArray⟩ := fun e => h (by rw [e]; rfl)
theorem form_nil (c : Nat) (A : Option Addr) (hc : c ≤ maxLen) (w : World) : Calls Tryz.prog 58 #[.slice A 0 c] w (FormPost [] w) := by
  go_enter Tryz.func58, Tryz.ntmps58
  go_wp2_with fail
  refine bodyPost_ret (done3 rfl rfl rfl rfl (one5 _ _ _ _ _) ((Blk.new w 138 [_, _, _, _, _]).alloc _)) rfl ?_
  refine ⟨(Bel.alloc w _).trans (Bel.alloc _ _), ?_⟩
  exact ⟨_, _, _, _, _, rfl⟩
theorem form_c (A : Option Addr) (c : Nat) (ws : List ByteArray) (w : World) (hS : Strs w A ws) (hw : ∀ x ∈ ws, Wd (toL x) ∧ x.size ≤ 70000) (hn : ws.length ≤ c) (hc : c ≤ maxLen) :
    Calls Tryz.prog 58 #[.slice A ws.length c] w (FormPost (ws.map toL) w) := by
  have hsz : ∀ x ∈ ws, 0 < x.size ∧ x.size ≤ 70000 := fun x hx => ⟨by rw [← toL_len]; exact List.length_pos_iff.2 (hw x hx).1.1, (hw x hx).2⟩
  match ws, hS, hn, hsz with
  | [], _, _, _ => exact form_nil c A hc w
  | w0 :: r0, hS, hn, hsz =>
    obtain ⟨g, o, rfl, hg, hc0⟩ := strs_at hS (i := 0) (by simp)
    have hcell : ∀ i, i < (w0 :: r0).length → w.cell? ⟨g, o + i, none⟩ = some (.string ((w0 :: r0).getD i ByteArray.empty)) := by
      intro i hi
      obtain ⟨g', o', e, _, h⟩ := strs_at hS hi
      simp only [Option.some.injEq, Addr.mk.injEq, and_true] at e
      obtain ⟨rfl, rfl⟩ := e
      exact h
    have h0 := hsz w0 (by simp)
    have e0 : w.cell? ⟨g, o, none⟩ = some (.string w0) := hc0
    clear hS hc0
    rcases kw_cases (toL w0) with h | h | h | h | h | h | h | ⟨hp0, hk0⟩ | ⟨hp0, hk0, d1, d2, d3, d4, d5, d6, d7⟩
    all_goals first | (have hx0 := lit_words h; subst hx0; clear h) | skip
    -- if
    · match r0, hn, hsz, hcell with
      | [], hn, hsz, hcell => exact form_2_0_ hg e0 hn hc
      | [x], hn, hsz, hcell =>
        have h1 := hsz x (by simp)
        have e1 : w.cell? ⟨g, o + 1, none⟩ = some (.string x) := hcell 1 (by simp)
        cases hp : isP (toL x) with
        | false => exact form_2_1_n x hg e0 e1 hn hc h1 hp
        | true => exact form_2_1_p x hg e0 e1 hn hc h1 hp
      | x :: y :: r, hn, hsz, hcell =>
        have h1 := hsz x (by simp)
        have e1 : w.cell? ⟨g, o + 1, none⟩ = some (.string x) := hcell 1 (by simp)
        have hF : formW ([105, 102] :: toL x :: (y :: r).map toL) = none := by cases r with | nil => rw [List.map_singleton, formW3]; simp [kw] | cons z r => rfl
        cases hp : isP (toL x) with
        | false => exact form_2_1m_n x (y :: r) _ (by simp) hg e0 e1 hn hc h1 hp hF
        | true => exact form_2_1m_p x (y :: r) _ (by simp) hg e0 e1 hn hc h1 hp hF
    -- range
    · match r0, hn, hsz, hcell with
      | [], hn, hsz, hcell => exact form_3_0_ hg e0 hn hc
      | [x], hn, hsz, hcell =>
        have h1 := hsz x (by simp)
        have e1 : w.cell? ⟨g, o + 1, none⟩ = some (.string x) := hcell 1 (by simp)
        cases hp : isP (toL x) with
        | false => exact form_3_1_n x hg e0 e1 hn hc h1 hp
        | true => exact form_3_1_p x hg e0 e1 hn hc h1 hp
      | x :: y :: r, hn, hsz, hcell =>
        have h1 := hsz x (by simp)
        have e1 : w.cell? ⟨g, o + 1, none⟩ = some (.string x) := hcell 1 (by simp)
        have hF : formW ([114, 97, 110, 103, 101] :: toL x :: (y :: r).map toL) = none := by cases r with | nil => rw [List.map_singleton, formW3]; simp [kw] | cons z r => rfl
        cases hp : isP (toL x) with
        | false => exact form_3_1m_n x (y :: r) _ (by simp) hg e0 e1 hn hc h1 hp hF
        | true => exact form_3_1m_p x (y :: r) _ (by simp) hg e0 e1 hn hc h1 hp hF
    -- call
    · match r0, hn, hsz, hcell with
      | [], hn, hsz, hcell => exact form_4_0_ hg e0 hn hc
      | [x], hn, hsz, hcell =>
        have h1 := hsz x (by simp)
        have e1 : w.cell? ⟨g, o + 1, none⟩ = some (.string x) := hcell 1 (by simp)
        cases hp : isP (toL x) with
        | false => exact form_4_1_n x hg e0 e1 hn hc h1 hp
        | true => exact form_4_1_p x hg e0 e1 hn hc h1 hp
      | [x, y], hn, hsz, hcell =>
        have h1 := hsz x (by simp)
        have h2 := hsz y (by simp)
        have e1 : w.cell? ⟨g, o + 1, none⟩ = some (.string x) := hcell 1 (by simp)
        have e2 : w.cell? ⟨g, o + 2, none⟩ = some (.string y) := hcell 2 (by simp)
        cases hp : isP (toL x) with
        | true => exact form_4_1m_p x [y] _ (by simp) hg e0 e1 hn hc h1 hp (by rw [List.map_singleton, formW3]; simp [hp])
        | false =>
          cases hq : isP (toL y) with
          | false => exact form_4_2_nn x y hg e0 e1 e2 hn hc h1 hp h2 hq
          | true => exact form_4_2_np x y hg e0 e1 e2 hn hc h1 hp h2 hq
      | x :: y :: z :: r, hn, hsz, hcell =>
        have h1 := hsz x (by simp)
        have h2 := hsz y (by simp)
        have e1 : w.cell? ⟨g, o + 1, none⟩ = some (.string x) := hcell 1 (by simp)
        have e2 : w.cell? ⟨g, o + 2, none⟩ = some (.string y) := hcell 2 (by simp)
        cases hp : isP (toL x) with
        | true => exact form_4_1m_p x (y :: z :: r) _ (by simp) hg e0 e1 hn hc h1 hp rfl
        | false =>
          cases hq : isP (toL y) with
          | false => exact form_4_2m_nn x y (z :: r) _ (by simp) hg e0 e1 e2 hn hc h1 hp h2 hq rfl
          | true => exact form_4_2m_np x y (z :: r) _ (by simp) hg e0 e1 e2 hn hc h1 hp h2 hq rfl
    -- flush
    · match r0, hn, hsz, hcell with
      | [], hn, hsz, hcell => exact form_5_0_ hg e0 hn hc
      | x :: r, hn, hsz, hcell =>
        have hF : formW ([102, 108, 117, 115, 104] :: (x :: r).map toL) = none := by
          match r with
          | [] => rw [List.map_singleton, formW2]; simp [kw]
          | [y] => rw [List.map_cons, List.map_singleton, formW3]; simp [kw]
          | y :: z :: r => rfl
        exact form_5_0m_ (x :: r) _ (by simp) hg e0 hn hc hF
    -- define
    · match r0, hn, hsz, hcell with
      | [], hn, hsz, hcell => exact form_6_0_ hg e0 hn hc
      | [x], hn, hsz, hcell =>
        have h1 := hsz x (by simp)
        have e1 : w.cell? ⟨g, o + 1, none⟩ = some (.string x) := hcell 1 (by simp)
        cases hp : isP (toL x) with
        | false => exact form_6_1_n x hg e0 e1 hn hc h1 hp
        | true => exact form_6_1_p x hg e0 e1 hn hc h1 hp
      | x :: y :: r, hn, hsz, hcell =>
        have h1 := hsz x (by simp)
        have e1 : w.cell? ⟨g, o + 1, none⟩ = some (.string x) := hcell 1 (by simp)
        have hF : formW ([100, 101, 102, 105, 110, 101] :: toL x :: (y :: r).map toL) = none := by cases r with | nil => rw [List.map_singleton, formW3]; simp [kw] | cons z r => rfl
        cases hp : isP (toL x) with
        | false => exact form_6_1m_n x (y :: r) _ (by simp) hg e0 e1 hn hc h1 hp hF
        | true => exact form_6_1m_p x (y :: r) _ (by simp) hg e0 e1 hn hc h1 hp hF
    -- else
    · match r0, hn, hsz, hcell with
      | [], hn, hsz, hcell => exact form_7_0_ hg e0 hn hc
      | x :: r, hn, hsz, hcell =>
        have hF : formW ([101, 108, 115, 101] :: (x :: r).map toL) = none := by
          match r with
          | [] => rw [List.map_singleton, formW2]; simp [kw]
          | [y] => rw [List.map_cons, List.map_singleton, formW3]; simp [kw]
          | y :: z :: r => rfl
        exact form_7_0m_ (x :: r) _ (by simp) hg e0 hn hc hF
    -- end
    · match r0, hn, hsz, hcell with
      | [], hn, hsz, hcell => exact form_8_0_ hg e0 hn hc
      | x :: r, hn, hsz, hcell =>
        have hF : formW ([101, 110, 100] :: (x :: r).map toL) = none := by
          match r with
          | [] => rw [List.map_singleton, formW2]; simp [kw]
          | [y] => rw [List.map_cons, List.map_singleton, formW3]; simp [kw]
          | y :: z :: r => rfl
        exact form_8_0m_ (x :: r) _ (by simp) hg e0 hn hc hF
    -- a path
    · have d0 : w0 ≠ ⟨#[105, 102]⟩ ∧ w0 ≠ ⟨#[114, 97, 110, 103, 101]⟩ ∧ w0 ≠ ⟨#[99, 97, 108, 108]⟩ ∧ w0 ≠ ⟨#[102, 108, 117, 115, 104]⟩ ∧ w0 ≠ ⟨#[100, 101, 102, 105, 110, 101]⟩ ∧ w0 ≠ ⟨#[101, 108, 115, 101]⟩ ∧ w0 ≠ ⟨#[101, 110, 100]⟩ := by
        refine ⟨?_, ?_, ?_, ?_, ?_, ?_, ?_⟩ <;> (rintro rfl; revert hp0; decide)
      match r0, hn, hsz, hcell with
      | [], hn, hsz, hcell => exact form_1_0_ w0 hg e0 hn hc h0 hp0 hk0 d0
      | x :: r, hn, hsz, hcell =>
        have hF : formW (toL w0 :: (x :: r).map toL) = none := by
          match r with
          | [] => rw [List.map_singleton, formW2]; simp [hk0]
          | [y] => rw [List.map_cons, List.map_singleton, formW3]; simp [hk0]
          | y :: z :: r => rfl
        exact form_1_0m_ w0 (x :: r) _ (by simp) hg e0 hn hc h0 hp0 hk0 d0 hF
    -- none
    · have d0 := And.intro (str_ne d1) (And.intro (str_ne d2) (And.intro (str_ne d3) (And.intro (str_ne d4) (And.intro (str_ne d5) (And.intro (str_ne d6) (str_ne d7))))))
      match r0, hn, hsz, hcell with
      | [], hn, hsz, hcell => exact form_0_0_ w0 hg e0 hn hc h0.1 hp0 hk0 d0
      | x :: r, hn, hsz, hcell =>
        have hF : formW (toL w0 :: (x :: r).map toL) = none := by
          match r with
          | [] => rw [List.map_singleton, formW2]; simp [hk0]
          | [y] => rw [List.map_cons, List.map_singleton, formW3]; simp [hk0]
          | y :: z :: r => rfl
        exact form_0_0m_ w0 (x :: r) _ (by simp) hg e0 hn hc h0.1 hp0 hk0 d0 hF
end Go.Proofs.YtpcapmdfjmpdiaaGreatDoor
