/-
  Contract: the reference's Format.
-/
import Derived.Test.YthbcjljkpnkakaaFm11
namespace Go.Proofs.Ythbcjljkpnkakaa
open Go.RowKit Go.BigFrame
set_option linter.unusedVariables false
set_option linter.unusedSimpArgs false

theorem ret_str {x : ByteArray} {l : List UInt8} (h : toL x = l) : Ending.returned (.string x) = .returned (.string (ofL l)) := by rw [← h, ofL_toL]
theorem toL_mk (a : Array UInt8) : toL ⟨a⟩ = a.toList := rfl
theorem app_empty {x : ByteArray} : (x ++ (⟨#[]⟩ : ByteArray)) = x := by apply toL_inj; simp [toL_app, toL_mk]
set_option maxRecDepth 100000 in
set_option maxHeartbeats 3200000 in
theorem refFormat_c (t : Tok) (hg : Good t) (hs : t.s.length ≤ 70000) (hp : t.p.length ≤ 70000) (w : World) :
    Calls Try.prog 22 #[.agg #[.int .i64 t.k, .int .i64 t.a, .string (ofL t.s), .string (ofL t.p), .bool t.h]] w fun e w' => e = .returned (.string (ofL (fmt t))) ∧ Bel w w' := by
  obtain ⟨k, a, s, p, h⟩ := t
  obtain ⟨hg1, hg2, hg3⟩ := hg
  dsimp only at hs hp hg1 hg2 hg3 ⊢
  have hss : (ofL s).size ≤ 70000 := hs
  have hps : (ofL p).size ≤ 70000 := hp
  by_cases h0 : k = 0
  · subst h0
    have HF : Hid (fmt ⟨0, a, s, p, h⟩ = s) := Lib.hid (by unfold fmt; rw [if_pos rfl])
    clear hg1 hg2 hg3
    go_enter Try.func22, Try.ntmps22
    go_wp2_with fail
    go_ret
    rw [HF.out]
    exact ⟨rfl, Bel.alloc _ _⟩
  obtain ⟨hk8, hsk⟩ := hg2 h0
  rcases (by omega : k = 1 ∨ k = 2 ∨ k = 3 ∨ k = 4 ∨ k = 5 ∨ k = 6 ∨ k = 7 ∨ k = 8) with rfl | rfl | rfl | rfl | rfl | rfl | rfl | rfl
  · cases h with
    | false =>
      have hs0 : s = [] := Classical.byContradiction fun hh => absurd (hsk.1 hh) (by decide)
      have HF : Hid (fmt ⟨1, a, s, p, false⟩ = 123 :: 123 :: (jn (kwOf 1 ++ []) ++ [125, 125])) := Lib.hid (by unfold fmt; rw [if_neg (by simp)]; simp [fmtW, hs0])
      clear hg1 hg2 hg3 hsk hs0 h0 hk8
      go_enter Try.func22, Try.ntmps22
      go_wp2_with fail
      go_ret
      rw [HF.out]
      refine ⟨ret_str ?_, (Bel.alloc _ _).trans (Bel.alloc _ _)⟩
      simp [toL_app, toL_ofL, toL_mk, kwOf, jn]
    | true =>
      have hs0 : s = [] := Classical.byContradiction fun hh => absurd (hsk.1 hh) (by decide)
      have HF : Hid (fmt ⟨1, a, s, p, true⟩ = 123 :: 123 :: (jn (kwOf 1 ++ [46 :: p]) ++ [125, 125])) := Lib.hid (by unfold fmt; rw [if_neg (by simp)]; simp [fmtW, hs0])
      clear hg1 hg2 hg3 hsk hs0 h0 hk8
      go_enter Try.func22, Try.ntmps22
      go_wp2_with fail
      go_ret
      rw [HF.out]
      refine ⟨ret_str ?_, (Bel.alloc _ _).trans (Bel.alloc _ _)⟩
      simp [toL_app, toL_ofL, toL_mk, kwOf, jn]
  · cases h with
    | false =>
      have hs0 : s = [] := Classical.byContradiction fun hh => absurd (hsk.1 hh) (by decide)
      have HF : Hid (fmt ⟨2, a, s, p, false⟩ = 123 :: 123 :: (jn (kwOf 2 ++ []) ++ [125, 125])) := Lib.hid (by unfold fmt; rw [if_neg (by simp)]; simp [fmtW, hs0])
      clear hg1 hg2 hg3 hsk hs0 h0 hk8
      go_enter Try.func22, Try.ntmps22
      go_wp2_with fail
      go_ret
      rw [HF.out]
      refine ⟨ret_str ?_, (Bel.alloc _ _).trans (Bel.alloc _ _)⟩
      simp [toL_app, toL_ofL, toL_mk, kwOf, jn]
    | true =>
      have hs0 : s = [] := Classical.byContradiction fun hh => absurd (hsk.1 hh) (by decide)
      have HF : Hid (fmt ⟨2, a, s, p, true⟩ = 123 :: 123 :: (jn (kwOf 2 ++ [46 :: p]) ++ [125, 125])) := Lib.hid (by unfold fmt; rw [if_neg (by simp)]; simp [fmtW, hs0])
      clear hg1 hg2 hg3 hsk hs0 h0 hk8
      go_enter Try.func22, Try.ntmps22
      go_wp2_with fail
      go_ret
      rw [HF.out]
      refine ⟨ret_str ?_, (Bel.alloc _ _).trans (Bel.alloc _ _)⟩
      simp [toL_app, toL_ofL, toL_mk, kwOf, jn]
  · cases h with
    | false =>
      have hs0 : s = [] := Classical.byContradiction fun hh => absurd (hsk.1 hh) (by decide)
      have HF : Hid (fmt ⟨3, a, s, p, false⟩ = 123 :: 123 :: (jn (kwOf 3 ++ []) ++ [125, 125])) := Lib.hid (by unfold fmt; rw [if_neg (by simp)]; simp [fmtW, hs0])
      clear hg1 hg2 hg3 hsk hs0 h0 hk8
      go_enter Try.func22, Try.ntmps22
      go_wp2_with fail
      go_ret
      rw [HF.out]
      refine ⟨ret_str ?_, (Bel.alloc _ _).trans (Bel.alloc _ _)⟩
      simp [toL_app, toL_ofL, toL_mk, kwOf, jn]
    | true =>
      have hs0 : s = [] := Classical.byContradiction fun hh => absurd (hsk.1 hh) (by decide)
      have HF : Hid (fmt ⟨3, a, s, p, true⟩ = 123 :: 123 :: (jn (kwOf 3 ++ [46 :: p]) ++ [125, 125])) := Lib.hid (by unfold fmt; rw [if_neg (by simp)]; simp [fmtW, hs0])
      clear hg1 hg2 hg3 hsk hs0 h0 hk8
      go_enter Try.func22, Try.ntmps22
      go_wp2_with fail
      go_ret
      rw [HF.out]
      refine ⟨ret_str ?_, (Bel.alloc _ _).trans (Bel.alloc _ _)⟩
      simp [toL_app, toL_ofL, toL_mk, kwOf, jn]
  · cases h with
    | false =>
      have hs0 : s ≠ [] := hsk.2 (by decide)
      have HF : Hid (fmt ⟨4, a, s, p, false⟩ = 123 :: 123 :: (jn (kwOf 4 ++ [s] ++ []) ++ [125, 125])) := Lib.hid (by unfold fmt; rw [if_neg (by simp)]; simp [fmtW, hs0])
      have hne : ((⟨#[99, 97, 108, 108]⟩ : ByteArray) ++ ⟨#[32]⟩ ++ ofL s).toList.isEmpty = false := empty_not (by rw [← toL_len]; simp [toL_app, toL_mk])
      clear hg1 hg2 hg3 hsk hs0 h0 hk8
      go_enter Try.func22, Try.ntmps22
      go_wp2_with fail
      go_ret
      rw [HF.out]
      refine ⟨ret_str ?_, (Bel.alloc _ _).trans (Bel.alloc _ _)⟩
      simp [toL_app, toL_ofL, toL_mk, kwOf, jn]
    | true =>
      have hs0 : s ≠ [] := hsk.2 (by decide)
      have HF : Hid (fmt ⟨4, a, s, p, true⟩ = 123 :: 123 :: (jn (kwOf 4 ++ [s] ++ [46 :: p]) ++ [125, 125])) := Lib.hid (by unfold fmt; rw [if_neg (by simp)]; simp [fmtW, hs0])
      have hne : ((⟨#[99, 97, 108, 108]⟩ : ByteArray) ++ ⟨#[32]⟩ ++ ofL s).toList.isEmpty = false := empty_not (by rw [← toL_len]; simp [toL_app, toL_mk])
      clear hg1 hg2 hg3 hsk hs0 h0 hk8
      go_enter Try.func22, Try.ntmps22
      go_wp2_with fail
      go_ret
      rw [HF.out]
      refine ⟨ret_str ?_, (Bel.alloc _ _).trans (Bel.alloc _ _)⟩
      simp [toL_app, toL_ofL, toL_mk, kwOf, jn]
  · cases h with
    | false =>
      have hs0 : s = [] := Classical.byContradiction fun hh => absurd (hsk.1 hh) (by decide)
      have HF : Hid (fmt ⟨5, a, s, p, false⟩ = 123 :: 123 :: (jn (kwOf 5 ++ []) ++ [125, 125])) := Lib.hid (by unfold fmt; rw [if_neg (by simp)]; simp [fmtW, hs0])
      clear hg1 hg2 hg3 hsk hs0 h0 hk8
      go_enter Try.func22, Try.ntmps22
      go_wp2_with fail
      go_ret
      rw [HF.out]
      refine ⟨ret_str ?_, (Bel.alloc _ _).trans (Bel.alloc _ _)⟩
      simp [toL_app, toL_ofL, toL_mk, kwOf, jn]
    | true =>
      have hs0 : s = [] := Classical.byContradiction fun hh => absurd (hsk.1 hh) (by decide)
      have HF : Hid (fmt ⟨5, a, s, p, true⟩ = 123 :: 123 :: (jn (kwOf 5 ++ [46 :: p]) ++ [125, 125])) := Lib.hid (by unfold fmt; rw [if_neg (by simp)]; simp [fmtW, hs0])
      clear hg1 hg2 hg3 hsk hs0 h0 hk8
      go_enter Try.func22, Try.ntmps22
      go_wp2_with fail
      go_ret
      rw [HF.out]
      refine ⟨ret_str ?_, (Bel.alloc _ _).trans (Bel.alloc _ _)⟩
      simp [toL_app, toL_ofL, toL_mk, kwOf, jn]
  · cases h with
    | false =>
      have hs0 : s ≠ [] := hsk.2 (by decide)
      have HF : Hid (fmt ⟨6, a, s, p, false⟩ = 123 :: 123 :: (jn (kwOf 6 ++ [s] ++ []) ++ [125, 125])) := Lib.hid (by unfold fmt; rw [if_neg (by simp)]; simp [fmtW, hs0])
      have hne : ((⟨#[100, 101, 102, 105, 110, 101]⟩ : ByteArray) ++ ⟨#[32]⟩ ++ ofL s).toList.isEmpty = false := empty_not (by rw [← toL_len]; simp [toL_app, toL_mk])
      clear hg1 hg2 hg3 hsk hs0 h0 hk8
      go_enter Try.func22, Try.ntmps22
      go_wp2_with fail
      go_ret
      rw [HF.out]
      refine ⟨ret_str ?_, (Bel.alloc _ _).trans (Bel.alloc _ _)⟩
      simp [toL_app, toL_ofL, toL_mk, kwOf, jn]
    | true =>
      have hs0 : s ≠ [] := hsk.2 (by decide)
      have HF : Hid (fmt ⟨6, a, s, p, true⟩ = 123 :: 123 :: (jn (kwOf 6 ++ [s] ++ [46 :: p]) ++ [125, 125])) := Lib.hid (by unfold fmt; rw [if_neg (by simp)]; simp [fmtW, hs0])
      have hne : ((⟨#[100, 101, 102, 105, 110, 101]⟩ : ByteArray) ++ ⟨#[32]⟩ ++ ofL s).toList.isEmpty = false := empty_not (by rw [← toL_len]; simp [toL_app, toL_mk])
      clear hg1 hg2 hg3 hsk hs0 h0 hk8
      go_enter Try.func22, Try.ntmps22
      go_wp2_with fail
      go_ret
      rw [HF.out]
      refine ⟨ret_str ?_, (Bel.alloc _ _).trans (Bel.alloc _ _)⟩
      simp [toL_app, toL_ofL, toL_mk, kwOf, jn]
  · cases h with
    | false =>
      have hs0 : s = [] := Classical.byContradiction fun hh => absurd (hsk.1 hh) (by decide)
      have HF : Hid (fmt ⟨7, a, s, p, false⟩ = 123 :: 123 :: (jn (kwOf 7 ++ []) ++ [125, 125])) := Lib.hid (by unfold fmt; rw [if_neg (by simp)]; simp [fmtW, hs0])
      clear hg1 hg2 hg3 hsk hs0 h0 hk8
      go_enter Try.func22, Try.ntmps22
      go_wp2_with fail
      go_ret
      rw [HF.out]
      refine ⟨ret_str ?_, (Bel.alloc _ _).trans (Bel.alloc _ _)⟩
      simp [toL_app, toL_ofL, toL_mk, kwOf, jn]
    | true =>
      have hs0 : s = [] := Classical.byContradiction fun hh => absurd (hsk.1 hh) (by decide)
      have HF : Hid (fmt ⟨7, a, s, p, true⟩ = 123 :: 123 :: (jn (kwOf 7 ++ [46 :: p]) ++ [125, 125])) := Lib.hid (by unfold fmt; rw [if_neg (by simp)]; simp [fmtW, hs0])
      clear hg1 hg2 hg3 hsk hs0 h0 hk8
      go_enter Try.func22, Try.ntmps22
      go_wp2_with fail
      go_ret
      rw [HF.out]
      refine ⟨ret_str ?_, (Bel.alloc _ _).trans (Bel.alloc _ _)⟩
      simp [toL_app, toL_ofL, toL_mk, kwOf, jn]
  · cases h with
    | false =>
      have hs0 : s = [] := Classical.byContradiction fun hh => absurd (hsk.1 hh) (by decide)
      have HF : Hid (fmt ⟨8, a, s, p, false⟩ = 123 :: 123 :: (jn (kwOf 8 ++ []) ++ [125, 125])) := Lib.hid (by unfold fmt; rw [if_neg (by simp)]; simp [fmtW, hs0])
      clear hg1 hg2 hg3 hsk hs0 h0 hk8
      go_enter Try.func22, Try.ntmps22
      go_wp2_with fail
      go_ret
      rw [HF.out]
      refine ⟨ret_str ?_, (Bel.alloc _ _).trans (Bel.alloc _ _)⟩
      simp [toL_app, toL_ofL, toL_mk, kwOf, jn]
    | true =>
      have hs0 : s = [] := Classical.byContradiction fun hh => absurd (hsk.1 hh) (by decide)
      have HF : Hid (fmt ⟨8, a, s, p, true⟩ = 123 :: 123 :: (jn (kwOf 8 ++ [46 :: p]) ++ [125, 125])) := Lib.hid (by unfold fmt; rw [if_neg (by simp)]; simp [fmtW, hs0])
      clear hg1 hg2 hg3 hsk hs0 h0 hk8
      go_enter Try.func22, Try.ntmps22
      go_wp2_with fail
      go_ret
      rw [HF.out]
      refine ⟨ret_str ?_, (Bel.alloc _ _).trans (Bel.alloc _ _)⟩
      simp [toL_app, toL_ofL, toL_mk, kwOf, jn]
end Go.Proofs.Ythbcjljkpnkakaa
