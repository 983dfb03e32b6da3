/-
  The law ParseLimits, walked.
-/
import Derived.Test.YtgbppdgpengcoaaDoorMn12
namespace Go.Proofs.YtgbppdgpengcoaaDoor
open Go.RowKit Go.BigFrame NT
set_option linter.unusedVariables false
set_option linter.unusedSimpArgs false

theorem app_toL (a b : ByteArray) : toL (a ++ b) = toL a ++ toL b := by unfold toL; simp
theorem nested_str (b : Bool) (k : Nat) : ofL (rp (opL b) k) ++ (⟨#[120]⟩ : ByteArray) ++ ofL (rp enL k) = ofL (rp (opL b) k ++ 120 :: rp enL k) := by
  apply toL_inj
  rw [app_toL, app_toL, toL_ofL, toL_ofL, toL_ofL]
  show rp (opL b) k ++ [120] ++ rp enL k = _
  simp
theorem nested_len (b : Bool) (k : Nat) : (rp (opL b) k).length = opN b * k ∧ (rp enL k).length = 7 * k := by
  refine ⟨?_, rp_len enL k⟩
  rw [rp_len]
  cases b <;> rfl
theorem one_nest {m : List NT} {x : NT} (h : ers m = [x]) : cnts m = x.cnt ∧ nsts m = x.nst := by
  rw [← cnts_er, ← nsts_er, h, cnts_cons, cnts_nil, nsts_cons, nsts_nil]
  exact ⟨by omega, by omega⟩
set_option maxRecDepth 100000 in
set_option maxHeartbeats 3200000 in
theorem lim_false (a : Int) (w : World) (hT : MX w) (hw : (Lit.int .u8 a).wf = true) :
    Calls Tryd.prog 5 #[.int .u8 a, .bool false] w fun e w' => e = .returned (.bool true) ∧ Below w.heap.size w w' := by
  obtain ⟨h0, h1⟩ := u8_range hw
  obtain ⟨k, hr⟩ : ∃ r : Nat, (r : Int) = a.tmod 40 := ⟨(a.tmod 40).toNat, by rw [Int.toNat_of_nonneg (Int.tmod_nonneg 40 h0)]⟩
  have hk40 : k < 40 := by have := Int.tmod_lt_of_pos a (b := 40) (by decide); omega
  have HT := Lib.hid hT
  have HA := Lib.hid (fun (W : World) (h : MX W) => alive_c W h)
  have hn1 : (rp (opL false) k).length = 9 * k := (nested_len false k).1
  have hn2 := (nested_len false k).2
  have hl1 : (opL false).length = 9 := rfl
  have hl2 : enL.length = 7 := rfl
  have HR1 : Hid (∀ W, Calls Tryd.prog 18 #[.string ⟨#[123, 123, 105, 102, 32, 46, 97, 125, 125]⟩, .int .i64 (k : Int)] W fun e w' => e = .returned (.string (ofL (rp (opL false) k))) ∧ Bel W w') := Lib.hid (fun W => repeat_c (opL false) k W (by rw [hl1]; omega) (by omega))
  have HR2 : Hid (∀ W, Calls Tryd.prog 18 #[.string ⟨#[123, 123, 101, 110, 100, 125, 125]⟩, .int .i64 (k : Int)] W fun e w' => e = .returned (.string (ofL (rp enL k))) ∧ Bel W w') := Lib.hid (fun W => repeat_c enL k W (by rw [hl2]; omega) (by omega))
  have hlx : LexOf (ofL (rp (opL false) k) ++ (⟨#[120]⟩ : ByteArray) ++ ofL (rp enL k)) (.ok (opTs false 0 k ++ text (opN false * k) [120] :: enTs (opN false * k + 1) k)) := by rw [nested_str]; exact lexOf_of (lx_nested false k) (by rw [List.length_append, List.length_cons, hn1, hn2]; omega)
  have HP := Lib.hid (fun (W : World) (h : MX W) => parse_c _ _ W h hlx)
  have e1 : IntKind.i64.wrap a = a := IntWalk.i64_in _ (by omega)
  have e2 : a.tmod 40 = (k : Int) := hr.symm
  have e4 : IntKind.i64.wrap (k : Int) = (k : Int) := IntWalk.i64_in _ (by omega)
  have s1 : (ofL (rp (opL false) k)).size ≤ 1000 := by show (rp (opL false) k).length ≤ 1000; omega
  have s2 : (ofL (rp enL k)).size ≤ 1000 := by show (rp enL k).length ≤ 1000; omega
  by_cases hc : 32 < k
  · have hi : (32 : Int) < (k : Int) := by omega
    have HF := Lib.hid (parR_err (P_deep false k 0 (text (opN false * k) [120] :: enTs (opN false * k + 1) k) 0 false 0 0 (by decide) (by omega) (by decide)))
    rw [HF.out] at HP
    have HP1 : Hid (∀ W, MX W → Calls Tryd.prog 10 #[.string (ofL (rp (opL false) k) ++ (⟨#[120]⟩ : ByteArray) ++ ofL (rp enL k))] W (ParPost (ofL (rp (opL false) k) ++ (⟨#[120]⟩ : ByteArray) ++ ofL (rp enL k)) (.error (288, 13)) W)) := HP
    have e5 : IntKind.i64.wrap 288 = 288 := by decide
    clear HP HF hw h0 h1 hr hT hlx hn1 hn2 hl1 hl2 hc
    generalize ofL (rp (opL false) k) = SA at *
    generalize ofL (rp enL k) = SB at *
    go_enter Tryd.func5, Tryd.ntmps5
    go_wp2_with (first | (go_at_call 18; (with_reducible refine (HR1.out _).mono ?_); rintro e w1 ⟨rfl, hb⟩; have HB1 := Lib.hid hb; clear hb) | (go_at_call 18; (with_reducible refine (HR2.out _).mono ?_); rintro e w2 ⟨rfl, hb⟩; have HB2 := Lib.hid (HB1.out.trans hb); clear hb) | (go_at_call 10; ((with_reducible refine (HP1.out _ (HT.out.bel HB2.out)).mono ?_); rintro e w3 hp; obtain ⟨hb, rfl⟩ := par_fault hp; have HB3 := Lib.hid (HB2.out.trans hb); clear hp hb)) | (go_at_call 9; refine (HA.out _ (HT.out.bel HB3.out)).mono ?_; rintro e w4 ⟨rfl, hb⟩; have HB4 := Lib.hid (HB3.out.trans hb); clear hb))
    go_ret
    exact ⟨rfl, HB4.out⟩
  have hi : ¬ (32 : Int) < (k : Int) := by omega
  have HF := Lib.hid (parR_ok (parse_nested false k (by omega)))
  rw [HF.out] at HP
  have hlx2 : LexOf ((⟨#[123, 123, 105, 102, 32, 46, 97, 125, 125]⟩ : ByteArray) ++ ⟨#[123, 123, 100, 101, 102, 105, 110, 101, 32, 102, 125, 125, 123, 123, 101, 110, 100, 125, 125, 123, 123, 101, 110, 100, 125, 125]⟩) (.ok [opT false 0, ⟨6, opN false, [102], [], false⟩, enT (opN false + 12), enT (opN false + 19)]) := lexOf_of (lx_define false) (by decide)
  have HP2 : Hid (∀ W, MX W → Calls Tryd.prog 10 #[.string ((⟨#[123, 123, 105, 102, 32, 46, 97, 125, 125]⟩ : ByteArray) ++ ⟨#[123, 123, 100, 101, 102, 105, 110, 101, 32, 102, 125, 125, 123, 123, 101, 110, 100, 125, 125, 123, 123, 101, 110, 100, 125, 125]⟩)] W (ParPost ((⟨#[123, 123, 105, 102, 32, 46, 97, 125, 125]⟩ : ByteArray) ++ ⟨#[123, 123, 100, 101, 102, 105, 110, 101, 32, 102, 125, 125, 123, 123, 101, 110, 100, 125, 125, 123, 123, 101, 110, 100, 125, 125]⟩) (.error (9, 13)) W)) := Lib.hid (fun W h => by
    have h2 := parse_c _ _ W h hlx2
    rw [parR_err (P_define false)] at h2
    exact h2)
  have HR3 : Hid (∀ W, Calls Tryd.prog 18 #[.string ⟨#[123, 123, 105, 102, 32, 46, 97, 125, 125]⟩, .int .i64 ((k : Int) + 1)] W fun e w' => e = .returned (.string (ofL (rp (opL false) (k + 1)))) ∧ Bel W w') := Lib.hid (fun W => by
    have h := repeat_c (opL false) (k + 1) W (by rw [hl1]; omega) (by omega)
    exact h)
  obtain ⟨jj, gg, HJ, hP3⟩ : ∃ jj gg : Nat, Hid (gg = 7 ∧ jj = k * 9 ∨ k = 32 ∧ gg = 13) ∧ P (opTs false 0 (k + 1)) 0 false 0 0 = .error (jj, gg) := by
    by_cases h : k = 32
    · subst h
      exact ⟨_, 13, Lib.hid (.inr ⟨rfl, rfl⟩), by
        have := P_deep false 33 0 [] 0 false 0 0 (by decide) (by decide) (by decide)
        rw [List.append_nil] at this
        exact this⟩
    · exact ⟨_, 7, Lib.hid (.inl ⟨rfl, by rw [show opN false = 9 from rfl]; omega⟩), P_unclosed false k 0 0 false 0 0 (by omega) (by omega)⟩
  have hlx3 := lexOf_of (lx_unclosed false (k + 1)) (by rw [rp_len, hl1]; omega)
  have HP3 := Lib.hid (fun (W : World) (h : MX W) => parse_c _ _ W h hlx3)
  rw [parR_err hP3] at HP3
  have HK40 : Hid (k < 40) := Lib.hid hk40
  have s3 : (ofL (rp (opL false) (k + 1))).size ≤ 1000 := by show (rp (opL false) (k + 1)).length ≤ 1000; rw [rp_len, hl1]; omega
  have e5 : IntKind.i64.wrap ((k : Int) * 9) = (k : Int) * 9 := IntWalk.i64_in _ (by omega)
  have e6 : IntKind.i64.wrap ((k : Int) + 1) = (k : Int) + 1 := IntWalk.i64_in _ (by omega)
  have HNN := Lib.hid (And.intro (nestN_nst false (opN false * k) k 0) (nestN_cnt false (opN false * k) k 0))
  clear HF hw h0 h1 hr hT hlx hlx2 hlx3 hn1 hn2 hl1 hl2 hc hP3
  generalize nestN false (opN false * k) k 0 = NN at *
  generalize ofL (rp (opL false) k) = SA at *
  generalize ofL (rp enL k) = SB at *
  generalize ofL (rp (opL false) (k + 1)) = SC at *
  go_enter Tryd.func5, Tryd.ntmps5
  rcases HJ.out with ⟨rfl, hj⟩ | ⟨rfl, rfl⟩
  · have hj2 : (jj : Int) = (k : Int) * 9 := by rw [hj]; omega
    clear hj HJ
    go_wp2_with (first | (go_at_call 18; (with_reducible refine (HR1.out _).mono ?_); rintro e w1 ⟨rfl, hb⟩; have HB1 := Lib.hid hb; clear hb) | (go_at_call 18; (with_reducible refine (HR2.out _).mono ?_); rintro e w2 ⟨rfl, hb⟩; have HB2 := Lib.hid (HB1.out.trans hb); clear hb) | (go_at_call 10; ((with_reducible refine (HP.out _ (HT.out.bel HB2.out)).mono ?_); rintro e w3 hp; obtain ⟨hb, A, c, m, h1, hr1, rfl⟩ := par_ok hp; have HB3 := Lib.hid (HB2.out.trans hb); have HM := Lib.hid (one_nest h1); have HRW := Lib.hid hr1.lt; clear hp hb h1 hr1)) | (go_at_call 10; ((with_reducible refine (HP2.out _ (HT.out.bel HB3.out)).mono ?_); rintro e w4 hp; obtain ⟨hb, rfl⟩ := par_fault hp; have HB4 := Lib.hid hb; clear hp hb)) | (go_at_call 18; (with_reducible refine (HR3.out _).mono ?_); rintro e w5 ⟨rfl, hb⟩; have HB5 := Lib.hid (HB4.out.trans hb); clear hb) | (go_at_call 10; ((with_reducible refine (HP3.out _ (HT.out.bel (HB3.out.trans HB5.out))).mono ?_); rintro e w6 hp; obtain ⟨hb, rfl⟩ := par_fault hp; have HB6 := Lib.hid (HB5.out.trans hb); clear hp hb)) | (go_at_call 9; refine (HA.out _ (HT.out.bel (HB3.out.trans HB6.out))).mono ?_; rintro e w7 ⟨rfl, hb⟩; have HB7 := Lib.hid (HB6.out.trans hb); clear hb) | (go_at_call 16; refine (nest_c (HRW.out.bel HB7.out) (by have := HM.out.2; have := HNN.out.1; have := HK40.out; omega)).mono ?_; rintro e w8 ⟨rfl, hb⟩; rw [HM.out.2, HNN.out.1]; have HB8 := Lib.hid (HB7.out.trans hb); clear hb) | (go_at_call 14; refine (count_c (HRW.out.bel HB8.out) (by have := HM.out.1; have := HNN.out.2; have := HK40.out; omega)).mono ?_; rintro e w9 ⟨rfl, hb⟩; rw [HM.out.1, HNN.out.2]; have HB9 := Lib.hid (HB8.out.trans hb); clear hb))
    go_ret
    exact ⟨rfl, HB3.out.trans HB9.out⟩
  · have HR1 : Hid (∀ W, Calls Tryd.prog 18 #[.string ⟨#[123, 123, 105, 102, 32, 46, 97, 125, 125]⟩, .int .i64 32] W fun e w' => e = .returned (.string SA) ∧ Bel W w') := HR1
    have HR2 : Hid (∀ W, Calls Tryd.prog 18 #[.string ⟨#[123, 123, 101, 110, 100, 125, 125]⟩, .int .i64 32] W fun e w' => e = .returned (.string SB) ∧ Bel W w') := HR2
    have HR3 : Hid (∀ W, Calls Tryd.prog 18 #[.string ⟨#[123, 123, 105, 102, 32, 46, 97, 125, 125]⟩, .int .i64 33] W fun e w' => e = .returned (.string SC) ∧ Bel W w') := HR3
    have e2 : a.tmod 40 = 32 := e2
    clear HJ e4 e5 e6 hi
    go_wp2_with (first | (go_at_call 18; (with_reducible refine (HR1.out _).mono ?_); rintro e w1 ⟨rfl, hb⟩; have HB1 := Lib.hid hb; clear hb) | (go_at_call 18; (with_reducible refine (HR2.out _).mono ?_); rintro e w2 ⟨rfl, hb⟩; have HB2 := Lib.hid (HB1.out.trans hb); clear hb) | (go_at_call 10; ((with_reducible refine (HP.out _ (HT.out.bel HB2.out)).mono ?_); rintro e w3 hp; obtain ⟨hb, A, c, m, h1, hr1, rfl⟩ := par_ok hp; have HB3 := Lib.hid (HB2.out.trans hb); have HM := Lib.hid (one_nest h1); have HRW := Lib.hid hr1.lt; clear hp hb h1 hr1)) | (go_at_call 10; ((with_reducible refine (HP2.out _ (HT.out.bel HB3.out)).mono ?_); rintro e w4 hp; obtain ⟨hb, rfl⟩ := par_fault hp; have HB4 := Lib.hid hb; clear hp hb)) | (go_at_call 18; (with_reducible refine (HR3.out _).mono ?_); rintro e w5 ⟨rfl, hb⟩; have HB5 := Lib.hid (HB4.out.trans hb); clear hb) | (go_at_call 10; ((with_reducible refine (HP3.out _ (HT.out.bel (HB3.out.trans HB5.out))).mono ?_); rintro e w6 hp; obtain ⟨hb, rfl⟩ := par_fault hp; have HB6 := Lib.hid (HB5.out.trans hb); clear hp hb)) | (go_at_call 9; refine (HA.out _ (HT.out.bel (HB3.out.trans HB6.out))).mono ?_; rintro e w7 ⟨rfl, hb⟩; have HB7 := Lib.hid (HB6.out.trans hb); clear hb) | (go_at_call 16; refine (nest_c (HRW.out.bel HB7.out) (by have := HM.out.2; have := HNN.out.1; have := HK40.out; omega)).mono ?_; rintro e w8 ⟨rfl, hb⟩; rw [HM.out.2, HNN.out.1]; have HB8 := Lib.hid (HB7.out.trans hb); clear hb) | (go_at_call 14; refine (count_c (HRW.out.bel HB8.out) (by have := HM.out.1; have := HNN.out.2; have := HK40.out; omega)).mono ?_; rintro e w9 ⟨rfl, hb⟩; rw [HM.out.1, HNN.out.2]; have HB9 := Lib.hid (HB8.out.trans hb); clear hb))
    go_ret
    exact ⟨rfl, HB3.out.trans HB9.out⟩
set_option maxRecDepth 100000 in
set_option maxHeartbeats 3200000 in
theorem lim_true (a : Int) (w : World) (hT : MX w) (hw : (Lit.int .u8 a).wf = true) :
    Calls Tryd.prog 5 #[.int .u8 a, .bool true] w fun e w' => e = .returned (.bool true) ∧ Below w.heap.size w w' := by
  obtain ⟨h0, h1⟩ := u8_range hw
  obtain ⟨k, hr⟩ : ∃ r : Nat, (r : Int) = a.tmod 40 := ⟨(a.tmod 40).toNat, by rw [Int.toNat_of_nonneg (Int.tmod_nonneg 40 h0)]⟩
  have hk40 : k < 40 := by have := Int.tmod_lt_of_pos a (b := 40) (by decide); omega
  have HT := Lib.hid hT
  have HA := Lib.hid (fun (W : World) (h : MX W) => alive_c W h)
  have hn1 : (rp (opL true) k).length = 12 * k := (nested_len true k).1
  have hn2 := (nested_len true k).2
  have hl1 : (opL true).length = 12 := rfl
  have hl2 : enL.length = 7 := rfl
  have HR1 : Hid (∀ W, Calls Tryd.prog 18 #[.string ⟨#[123, 123, 114, 97, 110, 103, 101, 32, 46, 97, 125, 125]⟩, .int .i64 (k : Int)] W fun e w' => e = .returned (.string (ofL (rp (opL true) k))) ∧ Bel W w') := Lib.hid (fun W => repeat_c (opL true) k W (by rw [hl1]; omega) (by omega))
  have HR2 : Hid (∀ W, Calls Tryd.prog 18 #[.string ⟨#[123, 123, 101, 110, 100, 125, 125]⟩, .int .i64 (k : Int)] W fun e w' => e = .returned (.string (ofL (rp enL k))) ∧ Bel W w') := Lib.hid (fun W => repeat_c enL k W (by rw [hl2]; omega) (by omega))
  have hlx : LexOf (ofL (rp (opL true) k) ++ (⟨#[120]⟩ : ByteArray) ++ ofL (rp enL k)) (.ok (opTs true 0 k ++ text (opN true * k) [120] :: enTs (opN true * k + 1) k)) := by rw [nested_str]; exact lexOf_of (lx_nested true k) (by rw [List.length_append, List.length_cons, hn1, hn2]; omega)
  have HP := Lib.hid (fun (W : World) (h : MX W) => parse_c _ _ W h hlx)
  have e1 : IntKind.i64.wrap a = a := IntWalk.i64_in _ (by omega)
  have e2 : a.tmod 40 = (k : Int) := hr.symm
  have e4 : IntKind.i64.wrap (k : Int) = (k : Int) := IntWalk.i64_in _ (by omega)
  have s1 : (ofL (rp (opL true) k)).size ≤ 1000 := by show (rp (opL true) k).length ≤ 1000; omega
  have s2 : (ofL (rp enL k)).size ≤ 1000 := by show (rp enL k).length ≤ 1000; omega
  by_cases hc : 32 < k
  · have hi : (32 : Int) < (k : Int) := by omega
    have HF := Lib.hid (parR_err (P_deep true k 0 (text (opN true * k) [120] :: enTs (opN true * k + 1) k) 0 false 0 0 (by decide) (by omega) (by decide)))
    rw [HF.out] at HP
    have HP1 : Hid (∀ W, MX W → Calls Tryd.prog 10 #[.string (ofL (rp (opL true) k) ++ (⟨#[120]⟩ : ByteArray) ++ ofL (rp enL k))] W (ParPost (ofL (rp (opL true) k) ++ (⟨#[120]⟩ : ByteArray) ++ ofL (rp enL k)) (.error (384, 13)) W)) := HP
    have e5 : IntKind.i64.wrap 384 = 384 := by decide
    clear HP HF hw h0 h1 hr hT hlx hn1 hn2 hl1 hl2 hc
    generalize ofL (rp (opL true) k) = SA at *
    generalize ofL (rp enL k) = SB at *
    go_enter Tryd.func5, Tryd.ntmps5
    go_wp2_with (first | (go_at_call 18; (with_reducible refine (HR1.out _).mono ?_); rintro e w1 ⟨rfl, hb⟩; have HB1 := Lib.hid hb; clear hb) | (go_at_call 18; (with_reducible refine (HR2.out _).mono ?_); rintro e w2 ⟨rfl, hb⟩; have HB2 := Lib.hid (HB1.out.trans hb); clear hb) | (go_at_call 10; ((with_reducible refine (HP1.out _ (HT.out.bel HB2.out)).mono ?_); rintro e w3 hp; obtain ⟨hb, rfl⟩ := par_fault hp; have HB3 := Lib.hid (HB2.out.trans hb); clear hp hb)) | (go_at_call 9; refine (HA.out _ (HT.out.bel HB3.out)).mono ?_; rintro e w4 ⟨rfl, hb⟩; have HB4 := Lib.hid (HB3.out.trans hb); clear hb))
    go_ret
    exact ⟨rfl, HB4.out⟩
  have hi : ¬ (32 : Int) < (k : Int) := by omega
  have HF := Lib.hid (parR_ok (parse_nested true k (by omega)))
  rw [HF.out] at HP
  have hlx2 : LexOf ((⟨#[123, 123, 114, 97, 110, 103, 101, 32, 46, 97, 125, 125]⟩ : ByteArray) ++ ⟨#[123, 123, 100, 101, 102, 105, 110, 101, 32, 102, 125, 125, 123, 123, 101, 110, 100, 125, 125, 123, 123, 101, 110, 100, 125, 125]⟩) (.ok [opT true 0, ⟨6, opN true, [102], [], false⟩, enT (opN true + 12), enT (opN true + 19)]) := lexOf_of (lx_define true) (by decide)
  have HP2 : Hid (∀ W, MX W → Calls Tryd.prog 10 #[.string ((⟨#[123, 123, 114, 97, 110, 103, 101, 32, 46, 97, 125, 125]⟩ : ByteArray) ++ ⟨#[123, 123, 100, 101, 102, 105, 110, 101, 32, 102, 125, 125, 123, 123, 101, 110, 100, 125, 125, 123, 123, 101, 110, 100, 125, 125]⟩)] W (ParPost ((⟨#[123, 123, 114, 97, 110, 103, 101, 32, 46, 97, 125, 125]⟩ : ByteArray) ++ ⟨#[123, 123, 100, 101, 102, 105, 110, 101, 32, 102, 125, 125, 123, 123, 101, 110, 100, 125, 125, 123, 123, 101, 110, 100, 125, 125]⟩) (.error (12, 13)) W)) := Lib.hid (fun W h => by
    have h2 := parse_c _ _ W h hlx2
    rw [parR_err (P_define true)] at h2
    exact h2)
  have HR3 : Hid (∀ W, Calls Tryd.prog 18 #[.string ⟨#[123, 123, 114, 97, 110, 103, 101, 32, 46, 97, 125, 125]⟩, .int .i64 ((k : Int) + 1)] W fun e w' => e = .returned (.string (ofL (rp (opL true) (k + 1)))) ∧ Bel W w') := Lib.hid (fun W => by
    have h := repeat_c (opL true) (k + 1) W (by rw [hl1]; omega) (by omega)
    exact h)
  obtain ⟨jj, gg, HJ, hP3⟩ : ∃ jj gg : Nat, Hid (gg = 7 ∧ jj = k * 12 ∨ k = 32 ∧ gg = 13) ∧ P (opTs true 0 (k + 1)) 0 false 0 0 = .error (jj, gg) := by
    by_cases h : k = 32
    · subst h
      exact ⟨_, 13, Lib.hid (.inr ⟨rfl, rfl⟩), by
        have := P_deep true 33 0 [] 0 false 0 0 (by decide) (by decide) (by decide)
        rw [List.append_nil] at this
        exact this⟩
    · exact ⟨_, 7, Lib.hid (.inl ⟨rfl, by rw [show opN true = 12 from rfl]; omega⟩), P_unclosed true k 0 0 false 0 0 (by omega) (by omega)⟩
  have hlx3 := lexOf_of (lx_unclosed true (k + 1)) (by rw [rp_len, hl1]; omega)
  have HP3 := Lib.hid (fun (W : World) (h : MX W) => parse_c _ _ W h hlx3)
  rw [parR_err hP3] at HP3
  have HK40 : Hid (k < 40) := Lib.hid hk40
  have s3 : (ofL (rp (opL true) (k + 1))).size ≤ 1000 := by show (rp (opL true) (k + 1)).length ≤ 1000; rw [rp_len, hl1]; omega
  have e5 : IntKind.i64.wrap ((k : Int) * 12) = (k : Int) * 12 := IntWalk.i64_in _ (by omega)
  have e6 : IntKind.i64.wrap ((k : Int) + 1) = (k : Int) + 1 := IntWalk.i64_in _ (by omega)
  have HNN := Lib.hid (And.intro (nestN_nst true (opN true * k) k 0) (nestN_cnt true (opN true * k) k 0))
  clear HF hw h0 h1 hr hT hlx hlx2 hlx3 hn1 hn2 hl1 hl2 hc hP3
  generalize nestN true (opN true * k) k 0 = NN at *
  generalize ofL (rp (opL true) k) = SA at *
  generalize ofL (rp enL k) = SB at *
  generalize ofL (rp (opL true) (k + 1)) = SC at *
  go_enter Tryd.func5, Tryd.ntmps5
  rcases HJ.out with ⟨rfl, hj⟩ | ⟨rfl, rfl⟩
  · have hj2 : (jj : Int) = (k : Int) * 12 := by rw [hj]; omega
    clear hj HJ
    go_wp2_with (first | (go_at_call 18; (with_reducible refine (HR1.out _).mono ?_); rintro e w1 ⟨rfl, hb⟩; have HB1 := Lib.hid hb; clear hb) | (go_at_call 18; (with_reducible refine (HR2.out _).mono ?_); rintro e w2 ⟨rfl, hb⟩; have HB2 := Lib.hid (HB1.out.trans hb); clear hb) | (go_at_call 10; ((with_reducible refine (HP.out _ (HT.out.bel HB2.out)).mono ?_); rintro e w3 hp; obtain ⟨hb, A, c, m, h1, hr1, rfl⟩ := par_ok hp; have HB3 := Lib.hid (HB2.out.trans hb); have HM := Lib.hid (one_nest h1); have HRW := Lib.hid hr1.lt; clear hp hb h1 hr1)) | (go_at_call 10; ((with_reducible refine (HP2.out _ (HT.out.bel HB3.out)).mono ?_); rintro e w4 hp; obtain ⟨hb, rfl⟩ := par_fault hp; have HB4 := Lib.hid hb; clear hp hb)) | (go_at_call 18; (with_reducible refine (HR3.out _).mono ?_); rintro e w5 ⟨rfl, hb⟩; have HB5 := Lib.hid (HB4.out.trans hb); clear hb) | (go_at_call 10; ((with_reducible refine (HP3.out _ (HT.out.bel (HB3.out.trans HB5.out))).mono ?_); rintro e w6 hp; obtain ⟨hb, rfl⟩ := par_fault hp; have HB6 := Lib.hid (HB5.out.trans hb); clear hp hb)) | (go_at_call 9; refine (HA.out _ (HT.out.bel (HB3.out.trans HB6.out))).mono ?_; rintro e w7 ⟨rfl, hb⟩; have HB7 := Lib.hid (HB6.out.trans hb); clear hb) | (go_at_call 16; refine (nest_c (HRW.out.bel HB7.out) (by have := HM.out.2; have := HNN.out.1; have := HK40.out; omega)).mono ?_; rintro e w8 ⟨rfl, hb⟩; rw [HM.out.2, HNN.out.1]; have HB8 := Lib.hid (HB7.out.trans hb); clear hb) | (go_at_call 14; refine (count_c (HRW.out.bel HB8.out) (by have := HM.out.1; have := HNN.out.2; have := HK40.out; omega)).mono ?_; rintro e w9 ⟨rfl, hb⟩; rw [HM.out.1, HNN.out.2]; have HB9 := Lib.hid (HB8.out.trans hb); clear hb))
    go_ret
    exact ⟨rfl, HB3.out.trans HB9.out⟩
  · have HR1 : Hid (∀ W, Calls Tryd.prog 18 #[.string ⟨#[123, 123, 114, 97, 110, 103, 101, 32, 46, 97, 125, 125]⟩, .int .i64 32] W fun e w' => e = .returned (.string SA) ∧ Bel W w') := HR1
    have HR2 : Hid (∀ W, Calls Tryd.prog 18 #[.string ⟨#[123, 123, 101, 110, 100, 125, 125]⟩, .int .i64 32] W fun e w' => e = .returned (.string SB) ∧ Bel W w') := HR2
    have HR3 : Hid (∀ W, Calls Tryd.prog 18 #[.string ⟨#[123, 123, 114, 97, 110, 103, 101, 32, 46, 97, 125, 125]⟩, .int .i64 33] W fun e w' => e = .returned (.string SC) ∧ Bel W w') := HR3
    have e2 : a.tmod 40 = 32 := e2
    clear HJ e4 e5 e6 hi
    go_wp2_with (first | (go_at_call 18; (with_reducible refine (HR1.out _).mono ?_); rintro e w1 ⟨rfl, hb⟩; have HB1 := Lib.hid hb; clear hb) | (go_at_call 18; (with_reducible refine (HR2.out _).mono ?_); rintro e w2 ⟨rfl, hb⟩; have HB2 := Lib.hid (HB1.out.trans hb); clear hb) | (go_at_call 10; ((with_reducible refine (HP.out _ (HT.out.bel HB2.out)).mono ?_); rintro e w3 hp; obtain ⟨hb, A, c, m, h1, hr1, rfl⟩ := par_ok hp; have HB3 := Lib.hid (HB2.out.trans hb); have HM := Lib.hid (one_nest h1); have HRW := Lib.hid hr1.lt; clear hp hb h1 hr1)) | (go_at_call 10; ((with_reducible refine (HP2.out _ (HT.out.bel HB3.out)).mono ?_); rintro e w4 hp; obtain ⟨hb, rfl⟩ := par_fault hp; have HB4 := Lib.hid hb; clear hp hb)) | (go_at_call 18; (with_reducible refine (HR3.out _).mono ?_); rintro e w5 ⟨rfl, hb⟩; have HB5 := Lib.hid (HB4.out.trans hb); clear hb) | (go_at_call 10; ((with_reducible refine (HP3.out _ (HT.out.bel (HB3.out.trans HB5.out))).mono ?_); rintro e w6 hp; obtain ⟨hb, rfl⟩ := par_fault hp; have HB6 := Lib.hid (HB5.out.trans hb); clear hp hb)) | (go_at_call 9; refine (HA.out _ (HT.out.bel (HB3.out.trans HB6.out))).mono ?_; rintro e w7 ⟨rfl, hb⟩; have HB7 := Lib.hid (HB6.out.trans hb); clear hb) | (go_at_call 16; refine (nest_c (HRW.out.bel HB7.out) (by have := HM.out.2; have := HNN.out.1; have := HK40.out; omega)).mono ?_; rintro e w8 ⟨rfl, hb⟩; rw [HM.out.2, HNN.out.1]; have HB8 := Lib.hid (HB7.out.trans hb); clear hb) | (go_at_call 14; refine (count_c (HRW.out.bel HB8.out) (by have := HM.out.1; have := HNN.out.2; have := HK40.out; omega)).mono ?_; rintro e w9 ⟨rfl, hb⟩; rw [HM.out.1, HNN.out.2]; have HB9 := Lib.hid (HB8.out.trans hb); clear hb))
    go_ret
    exact ⟨rfl, HB3.out.trans HB9.out⟩
theorem limLaw (a : Int) (b : Bool) (w : World) (hT : MX w) (hw : (Lit.int .u8 a).wf = true) :
    Calls Tryd.prog 5 #[.int .u8 a, .bool b] w fun e w' => e = .returned (.bool true) ∧ Below w.heap.size w w' := by
  cases b with
  | false => exact lim_false a w hT hw
  | true => exact lim_true a w hT hw
end Go.Proofs.YtgbppdgpengcoaaDoor
